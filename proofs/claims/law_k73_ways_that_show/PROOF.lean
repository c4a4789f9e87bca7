import PyProof.Rows.All
import Wide.All
import OpenK.AllK
import Wide.FinOn
import PyProof.TupleKey
import Lean
import PyProof.EqAt
import PyProof.EqKinds
import PyProof.TupleCall
import KE.KRevSl
import KE.KUnpack
import PyProof.SumAny
import PyProof.WalksS
import PyProof.NeKinds
import PyProof.ZipIter
import PyProof.WalkInts
import PyProof.AttrMissHeap
import KE.KDictOf
import PyProof.ListRange
import PyProof.StrWalks
import PyProof.StrOps2
import PyProof.Rows.SetFrom
import PyProof.P3Eq
import PyProof.NeData
import PyProof.P3In
import KE.KEqDict
import PyProof.IsRules
import PyProof.ReprRoads
import PyProof.ReprBulk
import PyProof.ReprRoom
import PyProof.CallFns
import PyProof.Rows.SeqRoads
import PyProof.ListOps
import PyProof.CollectWalk
import PyProof.Rows.SortShell
import PyProof.CollectStr
import PyProof.Rows.SortWalk
import KE.KRevIter
import PyProof.ListNew
import PyProof.SeqI3
import PySem.Challenge.RW_gatepapers_k73_ways_that_show
set_option Elab.async false
set_option linter.all false
set_option maxRecDepth 100000
set_option autoImplicit true
set_option relaxedAutoImplicit true
set_option genInjectivity false
set_option genSizeOf false
set_option genSizeOfSpec false
set_option maxHeartbeats 4000000
noncomputable section
open PySem.W renaming Frag->Km,keepIn->Lo,kitOne->Ls,fnOf->LG,kia_one->LH,codeIn->Mi,methodObj->Mp,nsIn->Mu,cellsFrom_some->MC,findIn->MK
open Bool renaming and_eq_true->Kn,not_eq_true'->K4,true_and->K7,or_eq_true->K8,not_eq_false'->Ln,false_ne_true->LF,and_eq_false_iff->LI,or_eq_false_iff->LL,false_or->LP,eq_iff_iff->L0,false_eq_true->L5,decide_and->MA,false_and->MJ,and_eq_true_iff->MV,or_false->MW,noConfusion->Np
open List renaming getElem?_eq_getElem->Ko,length_map->Kp,getElem?_map->Kr,mem_cons->Ku,size_toArray->Kv,mem_cons_of_mem->Kx,getElem?_eq_some_iff->Ky,getD_eq_getElem?_getD->KA,mem_cons_self->KF,range->KG,mem_append_right->KH,getElem?_set_ne->KJ,lookup_cons->KL,getElem?_set_self->KM,not_mem_nil->KO,mem_of_getElem?->KP,map_map->KQ,map_append->KR,length_cons->KS,mem_range->KU,length_eq_zero_iff->KY,mem_singleton->K0,pairwise_cons->K1,length_range->K5,map_cons->K6,length_append->K9,length_take->La,all_eq_true->Lc,getElem_mem->Ld,mem_map->Lf,take_of_length_le->Lg,nodup_cons->Li,getElem?_eq_none->Lk,findIdx?_cons->Lm,append_nil->Ly,mem_iff_getElem->Lz,all_cons->LA,filterMap_cons->LB,getElem?_eq_none_iff->LJ,getLastD_eq_getLast?->LK,take_length->LM,getLast?_eq_getLast->LO,getElem_range->LR,mem_append_left->LS,any_eq_true->LU,cons_append->LV,getElem_map->LW,length_dropLast->LX,length->LY,getElem?_append_left->LZ,drop_eq_getElem_cons->L1,take_add_one->L7,any_eq_false->L8,length_drop->Ma,ext_getElem->Mb,getElem?_toArray->Md,length_zip->Mf,getElem?_range->Mg,map->Mj,mem_filterMap->Ml,getElem?_append_right->Mn,map_drop->Mo,ext_getElem?->Mq,pairwise_iff_getElem->Mr,getElem_append_right->Ms,getElem?_replicate->Mv,getLast_eq_getElem->Mw,mem_append->Mx,of_mem_zip->My,length_nil->Mz,lookup->MD,pairwise_lt_range->MG,length_replicate->ML,take_append_drop->MM,drop_zero->MN,getElem_dropLast->MP,mem_iff_getElem?->MQ,length_eraseIdx->MS,map_take->MX,length_pos_iff->MY,map_congr_left->M0,any_map->M7,length_mapIdx->Na,take_sublist->Nb,append_assoc->Nc,nodup_append->Ng,reverse_cons->Nh,getElem_drop->Ni,drop_length->Nl,isEmpty_iff->Nm,getElem_zip->Nn,getLast_mem->No,mem_filter->Nq,range_succ->Nt
open PySem.Heap renaming get?_push_of_some->Kq,lt_size->Ks,get?_push_size->KB,get?_update_self->Lj,size_push->Lv,get?_update_other->LC
open Nat renaming le_refl->Kw,lt_of_lt_of_le->Kz,ne_of_lt->KC,le_trans->KN,lt_or_ge->KW,lt_irrefl->KZ,zero_le->K2,lt_succ_of_lt->K3,lt_succ_self->Lb,lt_trans->Ll,lt_of_le_of_lt->Lw,ne_of_gt->Lx,le_succ->LD,le_add_right->LN,not_lt_zero->LQ,min_eq_left->L3,le_of_lt->L4,le_of_succ_le->L6,min_eq_right->Mc,lt_of_succ_lt_succ->MF,add_le_add_right->MU,add_le_add_left->MZ,eq_zero_or_pos->M3,pos_of_ne_zero->M4,sub_zero->M8,lt_trichotomy->Nd,lt_of_not_le->Nk
open Array renaming length_toList->KI,getElem?_eq_getElem->KT,getElem?_toList->Lu,getElem?_eq_none->L9,getD->Me,toList_push->Nf
open Int renaming toNat_natCast->Lh,toNat_of_nonneg->Mh,emod_lt_of_pos->Mm,emod_nonneg->MB,le_refl->MH,sub_zero->M5,zero_add->M6,le_of_lt->M9,mul_one->Nj
open Option renaming bind_eq_some_iff->Lp,getD_some->Lq,bind_some->Lr,getD_none->Mt,map_some->Nr
namespace PySem
open Sem (wp)
section
variable {prog:Program} {w:World} {K:Type} [DecidableEq K] (knd:KeyKind prog w K)
inductive tU (h:Heap):Nat->List (K ⊕ List K)->List Value->Prop
 |nil {m:Nat}:tU h m [] []
 |key {m:Nat} {k:K} {v:Value} {xs:List (K ⊕ List K)} {vs:List Value}:m%2=0->knd.is k v=true->tU h (m / 2) xs vs->tU h m (.inl k::xs) (v::vs)
 |tup {m:Nat} {ks:List K} {b:Addr} {xs:List (K ⊕ List K)} {vs:List Value}:m%2=1->IsTupleKey knd h ks b->tU h (m / 2) xs vs->tU h m (.inr ks::xs) (.ref b::vs)
variable {knd}
variable {A:Around} {E:Value->Shared->Prop} {s:Shared}
end
end PySem
namespace L2
open PySem PySem.Spec PyProof.Rows
noncomputable abbrev eP:=Sum Int Str
noncomputable def zQ:eP->Value->Bool
 |.inl k,v=>Value.isInt k v
 |.inr x,v=>Value.isStrOf x v
noncomputable def GU(w:World):eP->Int
 |.inl k=>hashInt k
 |.inr x=>hashStr w x
theorem ba:∀{k:eP} {v:Value},zQ k v=true->(∃i t,k=Sum.inl i/\v=Value.int i t)\/(∃x t,k=Sum.inr x/\v=Value.str x t)
 |.inl i,v,h=>by
  obtain⟨t,e⟩:=Value.isInt_shape (k:=i) (v:=v) h;exact .inl ⟨i,t,rfl,e⟩
 |.inr x,v,h=>by
  obtain⟨t,e⟩:=Value.isStrOf_shape (x:=x) (v:=v) h;exact .inr ⟨x,t,rfl,e⟩
theorem Au(a b:Int):decide ((Sum.inl a:eP)=Sum.inl b)=(a==b):=by
 by_cases e:a=b
 ·subst e;simp
 ·have h:¬(Sum.inl a:eP)=Sum.inl b:=λq=>e (Sum.inl.inj q);rw[decide_eq_false h];exact(beq_eq_false_iff_ne.mpr e).symm
theorem Av(a b:Str):decide ((Sum.inr a:eP)=Sum.inr b)=decide (a=b):=by
 by_cases e:a=b
 ·subst e;simp
 ·have h:¬(Sum.inr a:eP)=Sum.inr b:=λq=>e (Sum.inr.inj q);rw[decide_eq_false h,decide_eq_false e]
theorem Aw(a:Int)(b:Str):decide ((Sum.inl a:eP)=Sum.inr b)=false:=decide_eq_false (λq=>nomatch q)
theorem Ax(a:Str)(b:Int):decide ((Sum.inr a:eP)=Sum.inl b)=false:=decide_eq_false (λq=>nomatch q)
noncomputable def gz(prog:Program)(w:World):PySem.KeyKind prog w eP where
 is:=zQ
 hash:=GU w
 inj:=λv a b ha hb=>by
  rcases ba ha with⟨i,t,rfl,rfl⟩|⟨x,t,rfl,rfl⟩
  ·rcases ba hb with⟨j,u,rfl,e⟩|⟨y,u,rfl,e⟩
   ·injection e with e1 _;rw[e1]
   ·exact nomatch e
  ·rcases ba hb with⟨j,u,rfl,e⟩|⟨y,u,rfl,e⟩
   ·exact nomatch e
   ·injection e with e1 _;rw[e1]
 byValue:=λk v h=>by
  rcases ba h with⟨i,t,rfl,rfl⟩|⟨x,t,rfl,rfl⟩<;>rfl
 pyHash:=λhv h=>by
  rcases ba hv with⟨i,t,rfl,rfl⟩|⟨x,t,rfl,rfl⟩
  ·exact wpAny_pyHash_int h
  ·exact wpAny_pyHash_str h
 eqBool:=λhu hv h=>by
  rcases ba hu with⟨i,t,rfl,rfl⟩|⟨x,t,rfl,rfl⟩
  ·rcases ba hv with⟨j,u,rfl,rfl⟩|⟨y,u,rfl,rfl⟩
   ·rw[Au] at h;exact wpAny_eqBool_int h
   ·rw[Aw] at h;exact SeqAt.EqAt.int_str i t y u _ _ _ _ h
  ·rcases ba hv with⟨j,u,rfl,rfl⟩|⟨y,u,rfl,rfl⟩
   ·rw[Ax] at h;exact SeqAt.EqAt.str_int x t j u _ _ _ _ h
   ·rw[Av] at h;exact wpAny_eqBool_str h
 «strs»:=λk x t v h=>by
  rcases ba h with⟨i,u,rfl,e⟩|⟨y,u,rfl,e⟩
  ·exact nomatch e
  ·injection e with e1 _;subst e1
   cases v<;>rfl
end L2
namespace L2
open PySem PySem.Spec PyProof.Rows
inductive V where
 |non|bl (b:Bool)|int (i:Int)|str (x:Str)|byt (b:Array UInt8)|flt (b:UInt64)|ref (a:Addr)|ty (n:String)
 deriving DecidableEq
noncomputable def RelV:V->Value->Prop
 |.non,u=>u=Value.none
 |.bl b,u=>u=Value.bool b
 |.int i,u=>∃t,u=Value.int i t
 |.str x,u=>∃t,u=Value.str x t
 |.byt b,u=>∃t,u=Value.bytes b t
 |.flt b,u=>∃t,u=Value.float b t
 |.ref a,u=>u=Value.ref a
 |.ty n,u=>u=Value.type n
noncomputable abbrev Vals:List V->List Value->Prop:=Paired RelV
theorem Vals.length{xs:List V}{us:List Value}(r:Vals xs us):xs.length=us.length:=Paired.length r
theorem Vals.get:∀{xs:List V} {us:List Value} {i:Nat} {x:V},Vals xs us->xs[i]?=some x->∃u,us[i]?=some u/\RelV x u
 |_,_,_,_,.nil,e=>by simp at e
 |_,_,0,_,.cons r _,e=>by simp at e;subst e;exact⟨_,rfl,r⟩
 |_,_,i+1,x,.cons _ t,e=>by
  obtain⟨u,h1,h2⟩:=Vals.get (i:=i) (x:=x) t (by simpa using e);exact⟨u,by simpa using h1,h2⟩
theorem Vals.set(r:RelV x u):∀{xs:List V} {us:List Value} (i:Nat),Vals xs us->Vals (xs.set i x) (us.set i u)
 |_,_,_,.nil=>.nil
 |_,_,0,.cons _ t=>.cons r t
 |_,_,i+1,.cons q t=>.cons q (Vals.set r i t)
theorem Vals.append:∀{xs ys:List V} {us ws:List Value},Vals xs us->Vals ys ws->Vals (xs++ys) (us++ws)
 |_,_,_,_,.nil,s=>s
 |_,_,_,_,.cons r t,s=>.cons r (Vals.append t s)
theorem Vals.take:∀{xs:List V} {us:List Value} (n:Nat),Vals xs us->Vals (xs.take n) (us.take n)
 |_,_,0,_=>.nil
 |_,_,_+1,.nil=>.nil
 |_,_,n+1,.cons r t=>.cons r (Vals.take n t)
theorem Vals.drop:∀{xs:List V} {us:List Value} (n:Nat),Vals xs us->Vals (xs.drop n) (us.drop n)
 |_,_,0,r=>r
 |_,_,_+1,.nil=>.nil
 |_,_,n+1,.cons _ t=>Vals.drop n t
theorem Vals.none_of:∀{xs:List V} {us:List Value} {i:Nat},Vals xs us->xs[i]?=none->us[i]?=none:=λ{xs us i} r e=>by
 have h1:=r.length;have h2:xs.length<=i:=LJ.mp e;exact LJ.mpr (by lia)
noncomputable def KV{κ:Type}:List (κ×V)->List (κ×Value)->Prop:=Paired λ(p:κ×V) (q:κ×Value)=>p.1=q.1/\RelV p.2 q.2
noncomputable def kV:eP->V
 |.inl i=>.int i
 |.inr x=>.str x
inductive HO where
 |lst (xs:List V)
 |tup (xs:List V)
 |dK (kvs:List (eP×V))|dT (m ep:Nat) (kvs:List (List (eP ⊕ List eP)×V))
 |set (S:Int->Bool) (n:Nat)
 |ins (C dx:Addr) (fs:List (Str×V))
 |own (x:Addr)
 |xd (fs:List (Str×V))
 |met (f x:Addr)
 |rng (lo hi:Int)
 |frz (o:Obj) (u:HO)
 |tbl (ps:Array Value)
 |ext (φ:Heap->Prop)
noncomputable abbrev Hp:=Addr->Option HO
noncomputable def upd(H:Hp)(a:Addr)(o:HO):Hp:=λb=>if b=a then some o else H b
theorem aE:upd H a o a=some o:=by unfold upd;rw[if_pos rfl]
theorem aj{H:Hp}(h:b≠a):upd H a o b=H b:=by unfold upd;rw[if_neg h]
theorem aD{H:Hp}{a b:Addr}{o:HO}(h:H a=some o)(h':H b=none):a≠b:=by
 intro e;subst e;rw[h] at h';cases h'
section
variable (P:Program) (w:World)
noncomputable def ObjOk(H:Hp)(h:Heap)(a:Addr):HO->Prop
 |.lst xs=>xs.length<=sizeLine/\∃(its:List Value) (n:Nat),Vals xs its/\h.get? a=some { cls:=.type "list",data:=.seq its.toArray n }
 |.tup xs=>xs.length<=sizeLine/\∃its:List Value,Vals xs its/\IsTup h a its.toArray
 |.dK kvs=>kvs.length<=sizeLine/\(a==sysModules)=false/\∃vs,KV kvs vs/\h.DictOf (gz P w) a vs
 |.dT m ep kvs=>False
 |.set S n=>h.SetOf (intKind P w) a S n
 |.ins C dx fs=>False
 |.own _=>∃o,h.get? a=some o
 |.xd fs=>False
 |.rng lo hi=>∃t u v,h.get? a=some { cls:=.type "range",data:=.fields #[.int lo t,.int hi u,.int 1 v] }
 |.frz o u=>h.get? a=some o/\ObjOk H h a u
 |.tbl ps=>h.get? a=some { cls:=.none,data:=.fields ps }
 |.met f x=>h.get? a=some (Mp (.ref f) (.ref x))
 |.ext φ=>φ h/\(∃o,h.get? a=some o)/\∀h1 h2:Heap,φ h1->(∀o,h1.get? a=some o->h2.get? a=some o)->φ h2
noncomputable def HOk(H:Hp)(h:Heap):Prop:=∀a o,H a=some o->ObjOk P w H h a o
end
section
variable {P:Program} {w:World} {H H':Hp} {h h':Heap} {a:Addr} {o:HO}
theorem ObjOk.lt(x:ObjOk P w H h a o):a<h.objs.size:=by
 cases o with
 |lst xs=>obtain⟨_,_,_,_,e⟩:=x;exact Ks e
 |tup xs=>obtain⟨_,_,_,p⟩:=x;exact p.lt
 |dK kvs=>obtain⟨_,_,_,_,o,_,_,e,_⟩:=x;exact Ks e
 |dT m ep kvs=>exact x.elim
 |set S n=>obtain⟨o,_,_,_,e,_⟩:=x;exact Ks e
 |ins C dx fs=>exact x.elim
 |own y=>obtain⟨_,e⟩:=x;exact Ks e
 |xd fs=>exact x.elim
 |rng lo hi=>obtain⟨_,_,_,e⟩:=x;exact Ks e
 |frz ob u=>obtain⟨e,_⟩:=x;exact Ks e
 |tbl ps=>exact Ks (show h.get? a=some _ from x)
 |met f y=>exact Ks (show h.get? a=some _ from x)
 |ext φ=>obtain⟨_,⟨_,e⟩,_⟩:=x;exact Ks e
theorem ObjOk.stay(x:ObjOk P w H h a o)(k:∀b u,(b=a\/H b=some (.own a))->h.get? b=some u->h'.get? b=some u)
  (ho:∀b,H b=some (.own a)->H' b=some (.own a)) (ht:∀b xs,H b=some (.tup xs)->H' b=some (.tup xs)):ObjOk P w H' h' a o:=by
 induction o with
 |lst xs=>obtain⟨z,its,n,r,e⟩:=x;exact⟨z,its,n,r,k _ _ (.inl rfl) e⟩
 |tup xs=>obtain⟨z,its,r,ob,e,c⟩:=x;exact⟨z,its,r,ob,k _ _ (.inl rfl) e,c⟩
 |dK kvs=>obtain⟨z,y,vs,r,ob,es,ep,e,c⟩:=x;exact⟨z,y,vs,r,ob,es,ep,k _ _ (.inl rfl) e,c⟩
 |dT m ep kvs=>exact x.elim
 |set S n=>obtain⟨ob,es,ep,t,e,c⟩:=x;exact⟨ob,es,ep,t,k _ _ (.inl rfl) e,c⟩
 |ins C dx fs=>exact x.elim
 |own y=>obtain⟨ob,e⟩:=x;exact⟨ob,k _ _ (.inl rfl) e⟩
 |xd fs=>exact x.elim
 |rng lo hi=>obtain⟨t,u,v,e⟩:=x;exact⟨t,u,v,k _ _ (.inl rfl) e⟩
 |frz ob u ih=>obtain⟨e,q⟩:=x;exact⟨k _ _ (.inl rfl) e,ih q⟩
 |tbl ps=>
  have e:h.get? a=some { cls:=.none,data:=.fields ps }:=x;show h'.get? a=some { cls:=.none,data:=.fields ps };exact k a _ (.inl rfl) e
 |met f y=>
  have e:h.get? a=some (Mp (.ref f) (.ref y)):=x;show h'.get? a=some (Mp (.ref f) (.ref y));exact k a _ (.inl rfl) e
 |ext φ=>obtain⟨p,⟨o,e⟩,st⟩:=x;exact⟨st _ _ p λo q=>k _ _ (.inl rfl) q,⟨o,k _ _ (.inl rfl) e⟩,st⟩
theorem HOk.lt(x:HOk P w H h)(e:H a=some o):a<h.objs.size:=(x a o e).lt
theorem HOk.fresh(x:HOk P w H h)(e:h.objs.size<=a):H a=none:=by
 cases q:H a with
 |none=>rfl
 |some u=>exact absurd (Kz (x.lt q) e) (KZ _)
theorem HOk.kept(x:HOk P w H h)(k:∀b u,h.get? b=some u->h'.get? b=some u):HOk P w H h':=λa o e=>
 (x a o e).stay (λb u _ q=>k b u q) (λ_ q=>q) λ_ _ q=>q
theorem HOk.laid(x:HOk P w H h)(k:∀b u,h.get? b=some u->h'.get? b=some u)(hp:h.objs.size<=a)(new:ObjOk P w (upd H a o) h' a o):HOk P w (upd H a o) h':=λb u e=>by
 have hn:=x.fresh hp;by_cases hb:b=a
 ·subst hb;rw[aE] at e;cases e;exact new
 ·rw[aj hb] at e;exact(x b u e).stay (λc v _ q=>k c v q) (λc q=>by rw[aj (aD q hn)];exact q) λc xs q=>by rw[aj (aD q hn)];exact q
end
noncomputable def Rd(H:Hp)(a:Addr)(u:HO):Prop:=H a=some u\/∃o,H a=some (.frz o u)
theorem Rd.ok{P:Program}{w:World}{H:Hp}{h:Heap}{a:Addr}{u:HO}(r:Rd H a u)(x:HOk P w H h):ObjOk P w H h a u:=by
 rcases r with r|⟨o,r⟩
 ·exact x a u r
 ·obtain⟨_,q⟩:=x a _ r;exact q
noncomputable def Gk:Option HO->Prop
 |some (.lst _)=>True
 |some (.dK _)=>True
 |some (.dT _ _ _)=>True
 |some (.set _ _)=>True
 |some (.ins _ _ _)=>True
 |some (.ext _)=>True
 |_=>False
section
variable {P:Program} {w:World} {H:Hp} {h h':Heap} {x e:Addr} {o':HO}
theorem HOk.write(ok:HOk P w H h)(mu:Gk (H x))(he:e=x\/H e=some (.own x))(k:∀b u,b≠e->h.get? b=some u->h'.get? b=some u)(heo:∃u,h'.get? e=some u)
  (new:ObjOk P w (upd H x o') h' x o'):HOk P w (upd H x o') h':=λb u q=>by
 have nown:∀c y,H c=some (.own y)->c≠x:=λc y r z=>by subst z;rw[r] at mu;exact mu
 have ntup:∀c xs,H c=some (.tup xs)->c≠x:=λc xs r z=>by subst z;rw[r] at mu;exact mu
 by_cases hb:b=x
 ·subst hb;rw[aE] at q;cases q;exact new
 ·rw[aj hb] at q;by_cases hbe:b=e
  ·have q':H b=some (.own x):=by
    rcases he with z|z
    ·exact absurd (hbe.trans z) hb
    ·rw[hbe];exact z
   rw[q] at q';cases q';obtain⟨v,hv⟩:=heo;exact⟨v,by rw[hbe];exact hv⟩
  ·refine(ok b u q).stay (λc v hc r=>k c v ?_ r) (λc r=>by rw[aj (nown c b r)];exact r) λc xs r=>by rw[aj (ntup c xs r)];exact r
   rcases hc with rfl|hc
   ·exact hbe
   ·rintro rfl
    rcases he with z|z
    ·exact nown c b hc z
    ·rw[hc] at z;cases z;exact hb rfl
end
structure Un(fs ex:List Addr)(H H':Hp)(h h':Heap):Prop where
 keep:∀b o,h.get? b=some o->H b=none->b∉fs->b∉ex->h'.get? b=some o
 slot:∀b o,h.get? b=some o->H b=none->b∈fs->b∉ex->∃sl,h'.get? b=some { o with slots:=sl }
 free:∀b o,h.get? b=some o->H b=none->b∉ex->H' b=none
 there:∀b o,h.get? b=some o->b∉ex->∃o',h'.get? b=some o'
 tups:∀b xs,H b=some (.tup xs)->H' b=some (.tup xs)
 frzs:∀b o u,H b=some (.frz o u)->H' b=some (.frz o u)
 tbls:∀b ps,H b=some (.tbl ps)->∃more,H' b=some (.tbl (ps++more))
section
variable {fs fs' ex ex':List Addr} {H H1 H2:Hp} {h h1 h2 h':Heap} {a x e:Addr} {o:HO}
theorem Un.any(u:Un fs ex H H1 h h1){b:Addr}{ob:Obj}(q:h.get? b=some ob)(n:H b=none)(hx:b∉ex):∃sl,h1.get? b=some { ob with slots:=sl }:=by
 by_cases hb:b∈fs
 ·exact u.slot b ob q n hb hx
 ·exact⟨ob.slots,u.keep b ob q n hb hx⟩
theorem Un.kept(k:∀b u,h.get? b=some u->h'.get? b=some u):Un fs ex H H h h':=
 ⟨λb ob q _ _ _=>k b ob q,λb ob q _ _ _=>⟨ob.slots,k b ob q⟩,λ_ _ _ n _=>n,λb ob q _=>⟨ob,k b ob q⟩,λ_ _ q=>q,λ_ _ _ q=>q,λ_ ps q=>⟨#[],by rw[q];simp⟩⟩
theorem Un.refl:Un fs ex H H h h:=Un.kept λ_ _ q=>q
theorem Un.laid(k:∀b u,h.get? b=some u->h'.get? b=some u)(hp:h.objs.size<=a)(hn:H a=none):Un fs ex H (upd H a o) h h' where
 keep:=λb u q _ _ _=>k b u q
 slot:=λb u q _ _ _=>⟨u.slots,k b u q⟩
 free:=λb u q n _=>by rw[aj (KC (Kz (Ks q) hp))];exact n
 there:=λb u q _=>⟨u,k b u q⟩
 tups:=λb xs q=>by rw[aj (aD q hn)];exact q
 frzs:=λb u xs q=>by rw[aj (aD q hn)];exact q
 tbls:=λb ps q=>⟨#[],by rw[aj (aD q hn),q];simp⟩
theorem Un.write(mu:Gk (H x))(he:e=x\/H e=some (.own x))(k:∀b u,b≠e->h.get? b=some u->h'.get? b=some u)(heo:∃u,h'.get? e=some u):Un fs ex H (upd H x o) h h':=by
 have hx:∀b,H b=none->b≠x:=λb n z=>by subst z;rw[n] at mu;exact mu
 have hb:∀b,H b=none->b≠e:=λb n z=>by
  subst z;rcases he with r|r
  ·exact hx b n r
  ·rw[n] at r;cases r
 have hm:∀b u,H b=some u->¬Gk (some u)->b≠x:=λb u q nm z=>by subst z;rw[q] at mu;exact nm mu
 refine⟨λb u q n _ _=>k b u (hb b n) q,λb u q n _ _=>⟨u.slots,k b u (hb b n) q⟩,λb u q n _=>by rw[aj (hx b n)];exact n,λb u q _=>?_,
  λb xs q=>by rw[aj (hm b _ q λz=>z)];exact q,λb u xs q=>by rw[aj (hm b _ q λz=>z)];exact q,λb ps q=>⟨#[],by rw[aj (hm b _ q λz=>z),q];simp⟩⟩
 by_cases hbe:b=e
 ·subst hbe;exact heo
 ·exact⟨u,k b u hbe q⟩
end
noncomputable def Gm(h:Heap)(H:Hp):List Addr:=(KG h.objs.size).filter λa=>(H a).isSome
noncomputable def lP(h:Heap)(H:Hp):Heap:=PySem.W.hideAll h (Gm h H)
theorem r9(h:Heap)(H:Hp):(lP h H).objs.size=h.objs.size:=PySem.W.hideAll_size _ _
theorem tV{h:Heap}{H:Hp}(e:h.get? b=some o)(n:H b=none):(lP h H).get? b=some o:=
 PySem.W.hideAll_get _ e λhm=>by
  have q:(H b).isSome=true:=(Nq.mp hm).2;rw[n] at q;simp at q
theorem xI{h:Heap}{H:Hp}(e:(lP h H).get? b=some o):h.get? b=some o/\H b=none:=by
 have e':h.get? b=some o:=PySem.W.of_hideAll (Gm h H) e;refine⟨e',?_⟩
 cases q:H b with
 |none=>rfl
 |some x=>
  have hm:b∈Gm h H:=Nq.mpr ⟨KU.mpr (Ks e'),by simp[q]⟩;have z:(lP h H).get? b=none:=PySem.W.hideAll_none (Gm h H) hm;rw[z] at e;cases e
noncomputable def xJ(g h:Heap)(L:Addr):List (Addr×Obj):=(KG h.objs.size).filterMap λa=>if a=L\/(g.get? a).isSome=true then none else(h.get? a).map λo=>(a,o)
noncomputable def rest(g h:Heap)(L d:Addr):List (Addr×Obj):=(xJ g h L).filter λp=>decide (p.1≠d)
end L2
namespace L2
open PySem PySem.Spec PyProof.Rows
structure Mod(K:Km)(mg:Str->Option Value)(base:Heap):Prop where
 kin:K.In base
 glob:base.Ns mainGlobals mg
 blt:∃mb,base.Ns builtinsNs mb/\∀x:Str,x≠"__name__"->mb x=bootBuiltins x
 nolimit:base.NoLimit
structure Cx where
 prog:Program
 w:World
 K:Km
 mg:Str->Option Value
 base:Heap
 A:Around
 N:List Str
 s₀:Shared
 H₀:Hp
 env:Env
 outer:List Env
 stack:List Env
 ex:List Addr
 fn:Str->Bool
 calm:Bool
 pn:List (Addr×Obj)
 xe:Value->Shared->Prop
noncomputable def tM(l:List Env):List Addr:=l.filterMap (·.frame)
noncomputable abbrev Cx.fs(X:Cx):List Addr:=tM X.outer
noncomputable def Du(sc:Scope)(x:Str):Prop:=sc.names.lookup x=some .local\/sc.names.lookup x=some .cell\/sc.names.lookup x=some .free
noncomputable def Ay(sc:Scope)(x:Str):Prop:=sc.names.lookup x=some .local\/sc.names.lookup x=some .cell
noncomputable def GV(env:Env)(h:Heap)(m:Str->Option Value)(x:Str)(u:Value):Prop:=
 (env.kindOf x=some .local/\m x=some u)\/((env.kindOf x=some .cell\/env.kindOf x=some .free)/\∃c,env.cells.lookup x=some c/\h.IsCell c (some u))
structure Cx.Ok(X:Cx):Prop where
 mod:Mod X.K X.mg X.base
 kind:X.env.scope.kind=.function
 glob:X.env.globals=mainGlobals
 blt:X.env.builtins=builtinsNs
 above:X.s₀.heap.objs.size<=X.env.locals
 inj:∀x y c,X.env.cells.lookup x=some c->X.env.cells.lookup y=some c->x=y
 has:∀x,(X.env.kindOf x=some .cell\/X.env.kindOf x=some .free)->∃c,X.env.cells.lookup x=some c
 cab:∀x c,X.fn x=true->X.env.cells.lookup x=some c->X.s₀.heap.objs.size<=c
 hd:X.calm=true->X.A.handled=none
 frames:X.A.frames=some X.stack
 stk:X.stack=X.outer\/(X.stack=X.env::X.outer/\X.env.frame=some X.env.locals)
 exf:∀b∈X.ex,b≠X.env.locals/\∀x c,X.env.cells.lookup x=some c->c≠b
 bs:∀b o,X.base.get? b=some o->X.s₀.heap.get? b=some o/\X.H₀ b=none
 bsz:X.base.objs.size<=X.s₀.heap.objs.size
 noex:∀b o,X.base.get? b=some o->b∉X.ex
 exfs:∀b∈X.ex,b∉X.fs
 funs:X.s₀.heap.FunFrames X.base X.outer
 frf:∀b∈X.fs,X.H₀ b=none
structure Inv(X:Cx)(pins:List (Addr×Obj))(σ:List (Option V))(H:Hp)(s:Shared):Prop where
 ok:X.Ok
 os:s.os=X.s₀.os
 bare:AllBare s.gens
 base:Un X.fs X.ex X.H₀ H X.s₀.heap s.heap
 loc:∃m,s.heap.Ns X.env.locals m/\∀(i:Nat) (x:Str) (v:V),X.N[i]?=some x->σ[i]?=some (some v)->Du X.env.scope x->∃u,RelV v u/\GV X.env s.heap m x u
 cell:∀x c,X.env.cells.lookup x=some c->∃v,s.heap.IsCell c v
 free:H X.env.locals=none
 freeC:∀x c,X.env.cells.lookup x=some c->H c=none
 pin:∀p∈X.pn++pins,s.heap.get? p.1=some p.2/\H p.1=none/\p.1≠X.env.locals/\p.1∉X.fs/\∀v,p.2.data≠.cell v
 hok:HOk X.prog X.w H s.heap
 len:σ.length=X.N.length
section
variable {X:Cx} {pins:List (Addr×Obj)} {σ:List (Option V)} {H H':Hp} {s:Shared} {h':Heap}
theorem Cx.Ok.nofr(ok:X.Ok){b:Addr}{o:Obj}(e:X.base.get? b=some o):b∉X.fs:=λhb=>by
 have:=(ok.funs.mem hb).1;rw[e] at this;cases this
theorem Inv.bs(I:Inv X pins σ H s):∀b o,X.base.get? b=some o->s.heap.get? b=some o/\H b=none:=λb o e=>
 ⟨I.base.keep b o (I.ok.bs b o e).1 (I.ok.bs b o e).2 (I.ok.nofr e) (I.ok.noex b o e),I.base.free b o (I.ok.bs b o e).1 (I.ok.bs b o e).2 (I.ok.noex b o e)⟩
theorem Inv.bk(I:Inv X pins σ H s):∀b o,X.base.get? b=some o->s.heap.get? b=some o:=λb o e=>(I.bs b o e).1
theorem Inv.mod(I:Inv X pins σ H s):Mod X.K X.mg X.base:=I.ok.mod
theorem Inv.kIn(I:Inv X pins σ H s):X.K.In s.heap:=I.ok.mod.kin.keeps I.bk
theorem Inv.lt(I:Inv X pins σ H s):X.env.locals<s.heap.objs.size:=let ⟨_,hn,_⟩:=I.loc;hn.lt
theorem Inv.sz(I:Inv X pins σ H s):X.s₀.heap.objs.size<=s.heap.objs.size:=KN I.ok.above (L4 I.lt)
theorem Inv.nofs(I:Inv X pins σ H s){a:Addr}(h:s.heap.objs.size<=a):a∉X.fs:=λhb=>by
 obtain⟨_,o,ho,_⟩:=I.ok.funs.mem hb;exact absurd (Kz (Ks ho) (KN I.sz h)) (KZ _)
theorem Inv.cne(I:Inv X pins σ H s):∀x c,X.env.cells.lookup x=some c->c≠X.env.locals:=λx c e z=>by
 obtain⟨v,o,ho,hd⟩:=I.cell x c e;obtain⟨m,⟨o',es,ep,ho',hd',_⟩,_⟩:=I.loc;rw[z,ho'] at ho;cases ho;rw[hd'] at hd;cases hd
theorem Inv.funs(I:Inv X pins σ H s):s.heap.FunFrames X.base X.outer:=by
 have all:∀(l:List Env),(∀b∈tM l,b∈X.fs)->X.s₀.heap.FunFrames X.base l->s.heap.FunFrames X.base l:=by
  intro l
  induction l with
  |nil=>intro _ _;trivial
  |cons env r ih=>
   intro hs hl;obtain⟨hk,⟨L,o,hf,hn,ho,hd⟩,hr⟩:=hl;have hL:L∈X.fs:=hs L (by unfold tM;rw[LB,hf];exact KF);obtain⟨sl,e⟩:=I.base.slot L o ho (I.ok.frf L hL) hL λz=>I.ok.exfs L z hL;exact⟨hk,⟨L,_,hf,hn,e,hd⟩,ih (λb hb=>hs b (by unfold tM;rw[LB,hf];exact Kx _ hb)) hr⟩
 exact all X.outer (λ_ hb=>hb) I.ok.funs
theorem Inv.stack(I:Inv X pins σ H s):s.heap.FunFrames X.base X.stack:=by
 rcases I.ok.stk with e|⟨e,hf⟩
 ·rw[e];exact I.funs
 ·rw[e];obtain⟨m,hn,_⟩:=I.loc;refine .cons (by rw[I.ok.kind];decide) hf hn ?_ I.funs;exact Heap.get?_none_of_le (KN I.ok.bsz I.ok.above)
theorem Inv.stkSub(I:Inv X pins σ H s):∀b∈tM X.stack,b∈X.env.locals::X.fs:=λb hb=>by
 rcases I.ok.stk with e|⟨e,hf⟩
 ·rw[e] at hb;exact Kx _ hb
 ·rw[e] at hb;unfold tM at hb;rw[LB,hf] at hb;exact hb
theorem Inv.stkFree(I:Inv X pins σ H s):∀b∈tM X.stack,H b=none:=λb hb=>by
 rcases Ku.mp (I.stkSub b hb) with e|hb
 ·rw[e];exact I.free
 ·obtain⟨_,o,ho,_⟩:=I.ok.funs.mem hb;exact I.base.free b o ho (I.ok.frf b hb) λz=>I.ok.exfs b z hb
theorem Inv.step{t':Nat}{ch:List Addr}(I:Inv X pins σ H s)(hch:∀b∈ch,(b∈X.ex\/X.s₀.heap.objs.size<=b)/\b≠X.env.locals/\(∀x c,X.env.cells.lookup x=some c->c≠b)/\∀p∈X.pn++pins,p.1≠b)(keep:∀b o,b≠X.env.locals->b∉X.fs->b∉ch->s.heap.get? b=some o->H b=none->h'.get? b=some o)(slot:∀b o,b≠X.env.locals->b∈X.fs->b∉ch->s.heap.get? b=some o->H b=none->∃sl,h'.get? b=some { o with slots:=sl })(free:∀b o,b∉ch->s.heap.get? b=some o->H b=none->H' b=none)(there:∀b o,b∉ch->s.heap.get? b=some o->∃o',h'.get? b=some o')(tups:∀b xs,H b=some (.tup xs)->H' b=some (.tup xs))(frzs:∀b o u,H b=some (.frz o u)->H' b=some (.frz o u))(tbls:∀b ps,H b=some (.tbl ps)->∃more,H' b=some (.tbl (ps++more)))(ns:∀m,s.heap.Ns X.env.locals m->h'.Ns X.env.locals m)(hok:HOk X.prog X.w H' h')(hg:AllBare g') :
  Inv X pins σ H' { s with heap:=h',gens:=g',drawn:=d',toks:=t' }:=by
 have neL:∀b o,X.s₀.heap.get? b=some o->b≠X.env.locals:=λb o e=>KC (Kz (Ks e) I.ok.above)
 have neC:∀b o,X.s₀.heap.get? b=some o->b∉X.ex->b∉ch:=λb o e hx hb=>by
  rcases(hch b hb).1 with z|z
  ·exact hx z
  ·exact absurd (Kz (Ks e) z) (KZ _)
 have cellK:∀x c,X.env.cells.lookup x=some c->∀v,s.heap.IsCell c v->h'.IsCell c v:=λx c e v ⟨o,ho,hd⟩=>by
  have nch:c∉ch:=λz=>(hch c z).2.2.1 x c e rfl;by_cases hc:c∈X.fs
  ·obtain⟨sl,q⟩:=slot c o (I.cne x c e) hc nch ho (I.freeC x c e);exact⟨_,q,hd⟩
  ·exact⟨o,keep c o (I.cne x c e) hc nch ho (I.freeC x c e),hd⟩
 refine⟨I.ok,I.os,hg,⟨λb o e n hb hx=>?_,λb o e n hb hx=>?_,λb o e n hx=>?_,λb o e hx=>?_,λb xs e=>tups b xs (I.base.tups b xs e),λb o xs e=>frzs b o xs (I.base.frzs b o xs e),λb ps e=>?_⟩,?_,λx c e=>?_,?_,λx c e=>?_,λp hp=>?_,hok,I.len⟩
 ·exact keep b o (neL b o e) hb (neC b o e hx) (I.base.keep b o e n hb hx) (I.base.free b o e n hx)
 ·obtain⟨sl,e1⟩:=I.base.slot b o e n hb hx;obtain⟨sl',e2⟩:=slot b _ (neL b o e) hb (neC b o e hx) e1 (I.base.free b o e n hx);exact⟨sl',e2⟩
 ·obtain⟨o',e1⟩:=I.base.there b o e hx;exact free b o' (neC b o e hx) e1 (I.base.free b o e n hx)
 ·obtain⟨o',e1⟩:=I.base.there b o e hx;exact there b o' (neC b o e hx) e1
 ·obtain⟨m1,e1⟩:=I.base.tbls b ps e;obtain⟨m2,e2⟩:=tbls b _ e1;exact⟨m1++m2,by rw[e2,Array.append_assoc]⟩
 ·obtain⟨m,hn,hl⟩:=I.loc;refine⟨m,ns m hn,λi x v e1 e2 e3=>?_⟩;obtain⟨u,r,l⟩:=hl i x v e1 e2 e3;refine⟨u,r,?_⟩;rcases l with l|⟨k,c,e,z⟩
  ·exact .inl l
  ·exact .inr ⟨k,c,e,cellK x c e _ z⟩
 ·obtain⟨v,z⟩:=I.cell x c e;exact⟨v,cellK x c e v z⟩
 ·obtain⟨m,⟨o,_,_,ho,_⟩,_⟩:=I.loc;exact free _ o (λz=>(hch _ z).2.1 rfl) ho I.free
 ·obtain⟨v,o,ho,hd⟩:=I.cell x c e;exact free c o (λz=>(hch c z).2.2.1 x c e rfl) ho (I.freeC x c e)
 ·obtain⟨e,n,ne,nf,d⟩:=I.pin p hp;have nch:p.1∉ch:=λz=>(hch p.1 z).2.2.2 p hp rfl;exact⟨keep p.1 p.2 ne nf nch e n,free p.1 p.2 nch e n,ne,nf,d⟩
theorem Inv.un{t':Nat}(I:Inv X pins σ H s)(u:Un X.fs [] H H' s.heap h')(hok:HOk X.prog X.w H' h'):Inv X pins σ H' { s with heap:=h',toks:=t' }:=by
 obtain⟨m,⟨o,es,ep,ho,r⟩,_⟩:=id I.loc;obtain⟨sl,hL⟩:=u.any ho I.free (by simp)
 exact I.step (g':=s.gens) (d':=s.drawn) (ch:=[]) (λ_ z=>nomatch z) (λb o _ hb _ e n=>u.keep b o e n hb (by simp)) (λb o _ hb _ e n=>u.slot b o e n hb (by simp)) (λb o _ e n=>u.free b o e n (by simp)) (λb o _ e=>u.there b o e (by simp)) u.tups u.frzs u.tbls (λm' hm=>by
  obtain⟨o',es',ep',ho',r'⟩:=hm;rw[ho] at ho';cases ho';exact⟨_,es',ep',hL,r'⟩) hok I.bare
theorem Inv.call{t':Nat}{ch:List Addr}(I:Inv X pins σ H s)(u:Un (tM X.stack) ch H H' s.heap h')(hok:HOk X.prog X.w H' h')(hg:AllBare g')(hch:∀b∈ch,(b∈X.ex\/X.s₀.heap.objs.size<=b)/\b≠X.env.locals/\(∀x c,X.env.cells.lookup x=some c->c≠b)/\∀p∈X.pn++pins,p.1≠b) :
  Inv X pins σ H' { s with heap:=h',gens:=g',drawn:=d',toks:=t' }:=by
 obtain⟨m,⟨o,es,ep,ho,r⟩,_⟩:=id I.loc;obtain⟨sl,hL⟩:=u.any ho I.free λz=>(hch _ z).2.1 rfl
 exact I.step (ch:=ch) hch (λb o hL hb hc e n=>u.keep b o e n (λz=>(Ku.mp (I.stkSub b z)).elim hL hb) hc) (λb o _ _ hc e n=>u.any e n hc) (λb o hc e n=>u.free b o e n hc) (λb o hc e=>u.there b o e hc) u.tups u.frzs u.tbls (λm' hm=>by
  obtain⟨o',es',ep',ho',r'⟩:=hm;rw[ho] at ho';cases ho';exact⟨_,es',ep',hL,r'⟩) hok hg
theorem Inv.turned{t':Nat}{it:Addr}(I:Inv X pins σ H s)(k:∀b o,b≠it->s.heap.get? b=some o->h'.get? b=some o)(hn:H it=none)(hL:it≠X.env.locals)
  (h1:it∈X.ex\/X.s₀.heap.objs.size<=it) (h2:∀x c,X.env.cells.lookup x=some c->c≠it) (h3:∀p∈X.pn++pins,p.1≠it):Inv X pins σ H { s with heap:=h',toks:=t' }:=by
 have nit:∀b u,H b=some u->b≠it:=λb u e z=>by rw[z,hn] at e;cases e
 refine I.step (g':=s.gens) (d':=s.drawn) (ch:=[it]) (λb hb=>?_) (λb o _ _ hc e _=>k b o (λz=>hc (by simp[z])) e) (λb o _ _ hc e _=>⟨o.slots,k b o (λz=>hc (by simp[z])) e⟩) (λ_ _ _ _ n=>n)
  (λb o hc e=>⟨o,k b o (λz=>hc (by simp[z])) e⟩) (λ_ _ e=>e) (λ_ _ _ e=>e) (λb ps e=>⟨#[],by rw[e];simp⟩) (λm hm=>?_) (λb u e=>?_) I.bare
 ·have e:b=it:=by simpa using hb
  subst e;exact⟨h1,hL,h2,h3⟩
 ·obtain⟨o,es,ep,ho,r⟩:=hm;exact⟨o,es,ep,k _ o (Ne.symm hL) ho,r⟩
 ·refine(I.hok b u e).stay (λc v hc q=>k c v ?_ q) (λ_ q=>q) λ_ _ q=>q;rcases hc with z|z
  ·rw[z];exact nit b u e
  ·exact nit c _ z
theorem Inv.tok(I:Inv X pins σ H s)(t:Nat):Inv X pins σ H { s with toks:=t }:=I.un (h':=s.heap) (t':=t) Un.refl I.hok
theorem Inv.kept{t':Nat}(I:Inv X pins σ H s)(k:∀b u,s.heap.get? b=some u->h'.get? b=some u):Inv X pins σ H { s with heap:=h',toks:=t' }:=I.un (Un.kept k) (I.hok.kept k)
theorem Inv.laid{t':Nat}(I:Inv X pins σ H s)(k:∀b u,s.heap.get? b=some u->h'.get? b=some u)(hp:s.heap.objs.size<=a)(new:ObjOk X.prog X.w (upd H a o) h' a o) :
  Inv X pins σ (upd H a o) { s with heap:=h',toks:=t' }:=I.un (Un.laid k hp (I.hok.fresh hp)) (I.hok.laid k hp new)
theorem Inv.write{x e:Addr}{t':Nat}(I:Inv X pins σ H s)(mu:Gk (H x))(he:e=x\/H e=some (.own x))(k:∀b u,b≠e->s.heap.get? b=some u->h'.get? b=some u)(heo:∃u,h'.get? e=some u)(new:ObjOk X.prog X.w (upd H x o) h' x o):Inv X pins σ (upd H x o) { s with heap:=h',toks:=t' }:=I.un (Un.write mu he k heo) (I.hok.write mu he k heo new)
theorem Inv.pins_of{pins':List (Addr×Obj)}(I:Inv X pins σ H s)(h:∀p∈pins',s.heap.get? p.1=some p.2/\H p.1=none/\p.1≠X.env.locals/\p.1∉X.fs/\∀v,p.2.data≠.cell v):Inv X pins' σ H s:=
 ⟨I.ok,I.os,I.bare,I.base,I.loc,I.cell,I.free,I.freeC,λp hp=>(Mx.mp hp).elim (λz=>I.pin p (LS _ z)) (h p),I.hok,I.len⟩
theorem m8{N:List Str}(hN:N.Nodup){i j:Nat}{x:Str}(a:N[i]?=some x)(b:N[j]?=some x):i=j:=by
 obtain⟨h1,e1⟩:=Ky.mp a;obtain⟨h2,e2⟩:=Ky.mp b;exact(List.getElem_inj hN).mp (e1.trans e2.symm)
theorem kU{i:Nat}{x:Str}{Q:Unit->Shared->Prop}(I:Inv X pins σ H s)(hN:X.N.Nodup)(hi:X.N[i]?=some x)(hx:Ay X.env.scope x)(r:RelV v u)(h:∀s',Inv X pins (σ.set i (some v)) H s'->(∃a,Heap.SameBut a s.heap s'.heap/\(a=X.env.locals\/X.env.cells.lookup x=some a))->Q () s')(hf:X.fn x=true\/X.env.scope.names.lookup x=some .local:=by first|exact .inl rfl|exact .inr rfl|assumption):wpAny M A (storeName X.env x u) Q E s:=by
 obtain⟨m,hn,hl⟩:=id I.loc;have hcls:(X.env.scope.kind==.class||(X.env.scope.kind==.module&&X.env.locals != X.env.globals))=false:=by rw[I.ok.kind];rfl
 have hiσ:i<σ.length:=by rw[I.len];exact(Ky.mp hi).1
 have cne:=I.cne
 have tracked:∀{a:Addr} {h':Heap},(∃o,s.heap.get? a=some o/\H a=none)->Heap.SameBut a s.heap h'->HOk X.prog X.w H h':=λ{a h'} ha hs b ob e=>by
  obtain⟨_,_,hfree⟩:=ha;refine(I.hok b ob e).stay (λc w' hc q=>(hs.2 c ?_).trans q) (λ_ q=>q) λ_ _ q=>q
  rintro rfl
  rcases hc with rfl|hc
  ·rw[hfree] at e;cases e
  ·rw[hfree] at hc;cases hc
 rcases hx with hk|hk
 ·refine wpAny_storeName_local hk hn (λh' hn' hs=>?_) hcls;obtain⟨oL,_,_,hoL,_⟩:=id hn;refine h _ ⟨I.ok,I.os,I.bare,⟨λb o e n hb hx=>?_,λb o e n hb hx=>?_,I.base.free,λb o e hx=>?_,I.base.tups,I.base.frzs,I.base.tbls⟩,⟨_,hn',λj y v' e1 e2 e3=>?_⟩,λy c e=>?_,I.free,I.freeC,λp hp=>?_,tracked ⟨oL,hoL,I.free⟩ hs,by simpa using I.len⟩ ⟨_,hs,.inl rfl⟩
  ·exact(hs.2 b (KC (Kz (Ks e) I.ok.above))).trans (I.base.keep b o e n hb hx)
  ·obtain⟨sl,e1⟩:=I.base.slot b o e n hb hx;exact⟨sl,(hs.2 b (KC (Kz (Ks e) I.ok.above))).trans e1⟩
  ·obtain⟨o',e1⟩:=I.base.there b o e hx;exact⟨o',(hs.2 b (KC (Kz (Ks e) I.ok.above))).trans e1⟩
  ·by_cases hj:j=i
   ·subst hj;rw[hi] at e1;cases e1;rw[KM hiσ] at e2;cases e2;exact⟨u,r,.inl ⟨hk,by simp⟩⟩
   ·rw[KJ (Ne.symm hj)] at e2;obtain⟨u',r',q⟩:=hl j y v' e1 e2 e3;refine⟨u',r',?_⟩;rcases q with⟨k,e⟩|⟨k,c,e,z⟩
    ·refine .inl ⟨k,?_⟩;have:y≠x:=λe=>hj (m8 hN e1 (e▸hi));simp[this,e]
    ·exact .inr ⟨k,c,e,z.sameBut hs (cne y c e)⟩
  ·obtain⟨w',z⟩:=I.cell y c e;exact⟨w',z.sameBut hs (cne y c e)⟩
  ·obtain⟨e,n,ne,nf,d⟩:=I.pin p hp;exact⟨(hs.2 p.1 ne).trans e,n,ne,nf,d⟩
 ·have hfn:X.fn x=true:=by
   rcases hf with z|z
   ·exact z
   ·rw[z] at hk;cases hk
  obtain⟨c,hc⟩:=I.ok.has x (.inl hk);obtain⟨w',z⟩:=I.cell x c hc;refine wpAny_storeName_cell I.ok.kind hk hc z (λh' hc' hs=>?_);obtain⟨oc,hoc,hocd⟩:=id z;refine h { s with heap:=h' } ⟨I.ok,I.os,I.bare,⟨λb o e n hb hx=>?_,λb o e n hb hx=>?_,I.base.free,λb o e hx=>?_,I.base.tups,I.base.frzs,I.base.tbls⟩,⟨m,hn.sameBut hs (Ne.symm (cne x c hc)),λj y v' e1 e2 e3=>?_⟩,λy c' e=>?_,I.free,I.freeC,λp hp=>?_,tracked ⟨oc,hoc,I.freeC x c hc⟩ hs,by simpa using I.len⟩ ⟨c,hs,.inr hc⟩
  ·exact(hs.2 b (KC (Kz (Ks e) (I.ok.cab x c hfn hc)))).trans (I.base.keep b o e n hb hx)
  ·obtain⟨sl,e1⟩:=I.base.slot b o e n hb hx;exact⟨sl,(hs.2 b (KC (Kz (Ks e) (I.ok.cab x c hfn hc)))).trans e1⟩
  ·obtain⟨o',e1⟩:=I.base.there b o e hx;exact⟨o',(hs.2 b (KC (Kz (Ks e) (I.ok.cab x c hfn hc)))).trans e1⟩
  ·by_cases hj:j=i
   ·subst hj;rw[hi] at e1;cases e1;rw[KM hiσ] at e2;cases e2;exact⟨u,r,.inr ⟨.inl hk,c,hc,hc'⟩⟩
   ·rw[KJ (Ne.symm hj)] at e2;obtain⟨u',r',q⟩:=hl j y v' e1 e2 e3;refine⟨u',r',?_⟩;rcases q with q|⟨k,c',e,z'⟩
    ·exact .inl q
    ·refine .inr ⟨k,c',e,z'.sameBut hs ?_⟩
     rintro rfl
     exact hj (m8 hN e1 (I.ok.inj _ _ _ e hc▸hi))
  ·by_cases hcc:c'=c
   ·subst hcc;exact⟨_,hc'⟩
   ·obtain⟨w2,z2⟩:=I.cell y c' e;exact⟨w2,z2.sameBut hs hcc⟩
  ·obtain⟨e,n,ne,nf,d⟩:=I.pin p hp;refine⟨(hs.2 p.1 ?_).trans e,n,ne,nf,d⟩;intro q;rw[q,hoc] at e;have q':oc=p.2:=Option.some.inj e;exact d w' (by rw[<- q'];exact hocd)
theorem jz{i:Nat}{x:Str}{Q:Unit->Shared->Prop}(I:Inv X pins σ H s)(hN:X.N.Nodup)(hi:X.N[i]?=some x)(hx:Ay X.env.scope x)(r:RelV v u)(h:∀s',Inv X pins (σ.set i (some v)) H s'->Q () s')(hf:X.fn x=true\/X.env.scope.names.lookup x=some .local:=by first|exact .inl rfl|exact .inr rfl|assumption):wpAny M A (storeName X.env x u) Q E s:=
 kU I hN hi hx r (λs' I' _=>h s' I') hf
theorem Inv.call'{s':Shared}{ch:List Addr}(I:Inv X pins σ H s)(ho:s'.os=s.os)(u:Un (tM X.stack) ch H H' s.heap s'.heap)(hok:HOk X.prog X.w H' s'.heap)(hg:AllBare s'.gens)
  (hch:∀b∈ch,(b∈X.ex\/X.s₀.heap.objs.size<=b)/\b≠X.env.locals/\(∀x c,X.env.cells.lookup x=some c->c≠b)/\∀p∈X.pn++pins,p.1≠b):Inv X pins σ H' s':=by
 obtain⟨h',g',d',t',o'⟩:=s';have e:o'=s.os:=ho;subst e;exact I.call (g':=g') (t':=t') (d':=d') u hok hg hch
end
noncomputable abbrev XK:=Value->Option Addr->Hp->Prop
noncomputable abbrev St:=List (Option V)
noncomputable abbrev VK:=V->Hp->Prop
noncomputable abbrev TE:=St->Hp->VK->Prop
noncomputable abbrev TT:=St->Hp->(Bool->Hp->Prop)->Prop
noncomputable abbrev TA:=St->Hp->(List V->Hp->Prop)->Prop
structure i4 where
 nx:St->Hp->Prop
 rt:VK
 bk:St->Hp->Prop:=λ_ _=>False
 ct:St->Hp->Prop:=λ_ _=>False
noncomputable abbrev TS:=i4->St->Hp->Prop
noncomputable def EP(X:Cx)(pins:List (Addr×Obj))(σ:St)(Q:VK)(u:Value)(s':Shared):Prop:=∃v H',Inv X pins σ H' s'/\RelV v u/\Q v H'
noncomputable def TP(X:Cx)(pins:List (Addr×Obj))(σ:St)(Q:Bool->Hp->Prop)(b:Bool)(s':Shared):Prop:=∃H',Inv X pins σ H' s'/\Q b H'
noncomputable def AP(X:Cx)(pins:List (Addr×Obj))(σ:St)(Q:List V->Hp->Prop)(us:List Value)(s':Shared):Prop:=∃vs H',Inv X pins σ H' s'/\Vals vs us/\Q vs H'
noncomputable def SP(X:Cx)(pins:List (Addr×Obj))(D:i4)(f:Flow)(s':Shared):Prop:=
 match f with
 |.next=>∃σ' H',Inv X pins σ' H' s'/\D.nx σ' H'
 |.brk=>∃σ' H',Inv X pins σ' H' s'/\D.bk σ' H'
 |.cont=>∃σ' H',Inv X pins σ' H' s'/\D.ct σ' H'
 |.ret u=>∃v σ' H',Inv X pins σ' H' s'/\RelV v u/\D.rt v H'
noncomputable def PE(X:Cx)(e:Expr)(t:TE):Prop:=
 ∀(pins:List (Addr×Obj)) (s:Shared) (σ:St) (H:Hp) (Q:VK),Inv X pins σ H s->t σ H Q->wpAny (model X.prog X.w) X.A (eval e X.env) (EP X pins σ Q) X.xe s
noncomputable def PT(X:Cx)(e:Expr)(t:TT):Prop:=
 ∀(pins:List (Addr×Obj)) (s:Shared) (σ:St) (H:Hp) (Q:Bool->Hp->Prop),Inv X pins σ H s->t σ H Q->wpAny (model X.prog X.w) X.A (isTrue e X.env (eval e X.env)) (TP X pins σ Q) X.xe s
noncomputable def PW(X:Cx)(e:Expr)(t:TT):Prop:=
 ∀(whole:Sem Value) (pins:List (Addr×Obj)) (s:Shared) (σ:St) (H:Hp) (Q:Bool->Hp->Prop),Inv X pins σ H s->t σ H Q->wpAny (model X.prog X.w) X.A (isTrue e X.env whole) (TP X pins σ Q) X.xe s
noncomputable def PA(X:Cx)(es:List Expr)(t:TA):Prop:=
 ∀(pos:Pos) (pins:List (Addr×Obj)) (s:Shared) (σ:St) (H:Hp) (Q:List V->Hp->Prop),Inv X pins σ H s->t σ H Q->wpAny (model X.prog X.w) X.A (spliced (backTo pos (starEach es X.env))) (AP X pins σ Q) X.xe s
noncomputable def PS(X:Cx)(st:Stmt)(t:TS):Prop:=
 ∀(pins:List (Addr×Obj)) (s:Shared) (σ:St) (H:Hp) (D:i4),Inv X pins σ H s->t D σ H->wpAny (model X.prog X.w) X.A (exec st X.env) (SP X pins D) X.xe s
noncomputable def PSs(X:Cx)(st:List Stmt)(t:TS):Prop:=
 ∀(pins:List (Addr×Obj)) (s:Shared) (σ:St) (H:Hp) (D:i4),Inv X pins σ H s->t D σ H->wpAny (model X.prog X.w) X.A (execs st X.env) (SP X pins D) X.xe s
theorem bq{α:Type}{t:Sem α}{Q Q':α->Shared->Prop}{M:Model}{A:Around}{E:Value->Shared->Prop}{s:Shared}(h:wpAny M A t Q E s)(hQ:∀a s,Q a s->Q' a s):wpAny M A t Q' E s:=wpAny_mono h hQ λ_ _ x=>x
end L2
namespace L2
open PySem PySem.Spec PyProof.Rows
section
variable {X:Cx}
noncomputable def GW(i:Nat):TE:=λσ H Q=>∃v,σ[i]?=some (some v)/\Q v H
noncomputable def tC(v:V):TE:=λ_ H Q=>Q v H
theorem oY{i:Nat}{x:Str}(hN:X.N[i]?=some x)(hv:Du X.env.scope x)(hd:(x==("__debug__":Str))=false:=by decide)(hcd:(x==("__classdict__":Str))=false:=by decide):PE X (.Name x pos) (GW i):=by
 intro pins s σ H Q I h;obtain⟨v,e,h⟩:=h;obtain⟨m,hn,hl⟩:=I.loc;obtain⟨u,r,l⟩:=hl i x v hN e hv;have fin:EP X pins σ Q u s:=⟨v,H,I,r,h⟩;rcases l with⟨hk,hm⟩|⟨hk,c,hc,hcell⟩
 ·exact wpAny_Name (wpAny_loadName_local I.ok.kind hk hn hm fin) hd
 ·rcases hk with hk|hk
  ·exact wpAny_Name (wpAny_loadName_cell I.ok.kind hk hc hcell fin) hd
  ·exact wpAny_Name (wpAny_loadName_free I.ok.kind hk hc hcell fin hcd) hd
theorem Az{i j pos}:PE X (.Constant (.int i) j pos) (tC (.int i)):=λ_ _ _ H _ I h=>wpAny_Constant_int ⟨.int i,H,I.tok _,⟨_,rfl⟩,h⟩
theorem Dv{b j pos}:PE X (.Constant (.bool b) j pos) (tC (.bl b)):=λ_ _ _ H _ I h=>Constant_bool ⟨.bl b,H,I,rfl,h⟩
theorem AA{j pos}:PE X (.Constant .none j pos) (tC .non):=λ_ _ _ H _ I h=>Constant_none ⟨.non,H,I,rfl,h⟩
theorem AB{x j pos}:PE X (.Constant (.str x) j pos) (tC (.str x)):=λ_ _ _ H _ I h=>Calls.Constant_str ⟨.str x,H,I.tok _,⟨_,rfl⟩,h⟩
noncomputable def Gl(X:Cx)(x:Str):Prop:=X.env.kindOf x=some .globalImplicit
theorem lQ{x:Str}{Q:Value->Shared->Prop}(I:Inv X pins σ H s)(hg:Gl X x)(hm:X.mg x=some u)(h:Q u s)(hd:(x==("__debug__":Str))=false:=by decide):wpAny (model X.prog X.w) X.A (eval (.Name x pos) X.env) Q E s:=
 Calls.Name_function_global I.ok.kind hg (Calls.loadGlobal_global (by rw[I.ok.glob];exact I.mod.glob.keeps I.bk) hm h) hd
theorem cY{x:Str}{Q:Value->Shared->Prop}(I:Inv X pins σ H s)(hg:Gl X x)(hm:X.mg x=none)(hv:bootBuiltins x=some u)(h:Q u s)(hn:x≠"__name__":=by decide)(hd:(x==("__debug__":Str))=false:=by decide):wpAny (model X.prog X.w) X.A (eval (.Name x pos) X.env) Q E s:=by
 obtain⟨mb,h1,h2⟩:=I.mod.blt;exact Calls.Name_function_global I.ok.kind hg (Calls.loadGlobal_builtin (by rw[I.ok.glob];exact I.mod.glob.keeps I.bk) hm (by rw[I.ok.blt];exact h1.keeps I.bk) ((h2 x hn).trans hv) h) hd
theorem xK{x:Str}(hg:Gl X x)(hm:X.mg x=some u)(r:RelV v u)(hd:(x==("__debug__":Str))=false:=by decide):PE X (.Name x pos) (tC v):=
 λ_ _ _ H _ I h=>lQ I hg hm ⟨v,H,I,r,h⟩ hd
theorem xL{x:Str}(hg:Gl X x)(hm:X.mg x=none)(hv:bootBuiltins x=some u)(r:RelV v u)(hn:x≠"__name__":=by decide)(hd:(x==("__debug__":Str))=false:=by decide):PE X (.Name x pos) (tC v):=
 λ_ _ _ H _ I h=>cY I hg hm hv ⟨v,H,I,r,h⟩ hn hd
variable {a b:Expr} {ta tb:TE} {pos:Pos}
variable {tA tB':TT} {rest:List Expr}
noncomputable def GX(t u:TT):TT:=λσ H Q=>t σ H λc H1=>if c=true then u σ H1 Q else Q false H1
noncomputable def JK(t u:TT):TT:=λσ H Q=>t σ H λc H1=>if c=true then Q true H1 else u σ H1 Q
noncomputable def GY(t:TT):TT:=λσ H Q=>t σ H λc H1=>Q (!c) H1
theorem ql(ha:PT X a tA):PW X (.BoolOp .And [a] pos) tA:=by
 intro wh pins s σ H Q I h;refine isTrue_and (bq (ha pins s σ H Q I h) λc s1 e=>?_)
 cases c with
 |true=>exact isTrue_and_nil e
 |false=>exact e
theorem tW(ha:PT X a tA):PW X (.BoolOp .Or [a] pos) tA:=by
 intro wh pins s σ H Q I h;refine isTrue_or (bq (ha pins s σ H Q I h) λc s1 e=>?_)
 cases c with
 |false=>exact isTrue_or_nil e
 |true=>exact e
theorem lR(ha:PT X a tA)(hb:PW X (.BoolOp .And (b::rest) pos) tB'):PW X (.BoolOp .And (a::b::rest) pos) (GX tA tB'):=by
 intro wh pins s σ H Q I h;refine isTrue_and (bq (ha pins s σ H _ I h) λc s1 ⟨H1,I1,q1⟩=>?_)
 cases c with
 |true=>exact hb wh pins s1 σ H1 Q I1 q1
 |false=>exact⟨H1,I1,q1⟩
theorem qm(ha:PT X a tA)(hb:PW X (.BoolOp .Or (b::rest) pos) tB'):PW X (.BoolOp .Or (a::b::rest) pos) (JK tA tB'):=by
 intro wh pins s σ H Q I h;refine isTrue_or (bq (ha pins s σ H _ I h) λc s1 ⟨H1,I1,q1⟩=>?_)
 cases c with
 |true=>exact⟨H1,I1,q1⟩
 |false=>exact hb wh pins s1 σ H1 Q I1 q1
theorem AC(ha:PT X a tA):PT X (.UnaryOp .Not a pos) (GY tA):=by
 intro pins s σ H Q I h;exact isTrue_not (ha pins s σ H (λc H1=>Q (!c) H1) I h)
noncomputable def Dw(ta tb:TE):TE:=λσ H Q=>ta σ H λx H1=>∃c,x=.bl c/\if c=true then tb σ H1 Q else Q (.bl false) H1
noncomputable def GZ(ta tb:TE):TE:=λσ H Q=>ta σ H λx H1=>∃c,x=.bl c/\if c=true then Q (.bl true) H1 else tb σ H1 Q
theorem AD{op}(h:PE X a t):PE X (.BoolOp op [a] pos) t:=λpins s σ H Q I hw=>BoolOp_one (h pins s σ H Q I hw)
theorem tX(ha:PE X a ta)(hb:PE X (.BoolOp .And (b::rest) pos) tb):PE X (.BoolOp .And (a::b::rest) pos) (Dw ta tb):=by
 intro pins s σ H Q I h;refine BoolOp_and (bq (ha pins s σ H _ I h) λv s1 ⟨x,H1,I1,r1,q1⟩=>?_);obtain⟨c,rfl,q1⟩:=q1;cases r1;refine wpAny_truthy_bool ?_
 cases c with
 |true=>exact hb pins s1 σ H1 Q I1 q1
 |false=>exact⟨.bl false,H1,I1,rfl,q1⟩
theorem zR(ha:PE X a ta)(hb:PE X (.BoolOp .Or (b::rest) pos) tb):PE X (.BoolOp .Or (a::b::rest) pos) (GZ ta tb):=by
 intro pins s σ H Q I h;refine BoolOp_or (bq (ha pins s σ H _ I h) λv s1 ⟨x,H1,I1,r1,q1⟩=>?_);obtain⟨c,rfl,q1⟩:=q1;cases r1;refine wpAny_truthy_bool ?_
 cases c with
 |false=>exact hb pins s1 σ H1 Q I1 q1
 |true=>exact⟨.bl true,H1,I1,rfl,q1⟩
noncomputable def JL(t:TT)(ta tb:TE):TE:=λσ H Q=>t σ H λc H1=>if c=true then ta σ H1 Q else tb σ H1 Q
theorem m9{c:Expr}(hc:PT X c tA)(ha:PE X a ta)(hb:PE X b tb):PE X (.IfExp c a b pos) (JL tA ta tb):=by
 intro pins s σ H Q I h;refine wpAny_IfExp (bq (hc pins s σ H _ I h) λd s1 ⟨H1,I1,q1⟩=>?_)
 cases d with
 |true=>exact ha pins s1 σ H1 Q I1 q1
 |false=>exact hb pins s1 σ H1 Q I1 q1
end
end L2
namespace L2
open PySem PySem.Spec PyProof.Rows
noncomputable def SqL(K:Km)(H:Hp)(a:Addr)(xs:List V):Prop:=
 Rd H a (.lst xs)\/
  ∃(o:Obj) (its:Array Value) (n:Nat),K.lookup a=some o/\o.cls=.type "list"/\o.dict=none/\o.data=.seq its n/\its.size<=sizeLine/\Vals xs its.toList
noncomputable def SqT(K:Km)(H:Hp)(a:Addr)(xs:List V):Prop:=
 Rd H a (.tup xs)\/
  ∃(o:Obj) (its:Array Value) (n:Nat),K.lookup a=some o/\o.cls=.type "tuple"/\o.data=.seq its n/\its.size<=sizeLine/\Vals xs its.toList
noncomputable def G0:Value->Option V
 |.none=>some .non
 |.bool b=>some (.bl b)
 |.int i _=>some (.int i)
 |.str x _=>some (.str x)
 |.bytes b _=>some (.byt b)
 |.float b _=>some (.flt b)
 |.ref a=>some (.ref a)
 |.type n=>some (.ty n)
 |_=>none
theorem RelV.abs(r:RelV x u):G0 u=some x:=by
 cases x with
 |non=>cases r;rfl
 |bl _=>cases r;rfl
 |int _=>obtain⟨t,rfl⟩:=r;rfl
 |str _=>obtain⟨t,rfl⟩:=r;rfl
 |byt _=>obtain⟨t,rfl⟩:=r;rfl
 |flt _=>obtain⟨t,rfl⟩:=r;rfl
 |ref _=>cases r;rfl
 |ty _=>cases r;rfl
theorem RelV.inj(r:RelV x u)(q:RelV y u):x=y:=Option.some.inj (r.abs.symm.trans q.abs)
theorem Vals.inj:∀{xs ys:List V} {us:List Value},Vals xs us->Vals ys us->xs=ys
 |_,_,_,.nil,.nil=>rfl
 |_,_,_,.cons r t,.cons r' t'=>by rw[r.inj r',Vals.inj t t']
section
variable {X:Cx} {pins:List (Addr×Obj)} {σ:St} {H:Hp} {s:Shared} {a:Addr} {xs ys:List V}
theorem SqL.of{K:Km}(h:H a=some (.lst xs)):SqL K H a xs:=.inl (.inl h)
theorem SqT.of{K:Km}(h:H a=some (.tup xs)):SqT K H a xs:=.inl (.inl h)
theorem Inv.list(I:Inv X pins σ H s)(h:SqL X.K H a xs):∃its:List Value,Vals xs its/\PlainL s.heap a its.toArray/\xs.length<=sizeLine:=by
 rcases h with h|⟨o,its,n,hk,hc,hd,hs,hz,r⟩
 ·obtain⟨z,its,n,r,e⟩:=h.ok I.hok;exact⟨its,r,⟨_,n,e,rfl,rfl,rfl⟩,z⟩
 ·refine⟨its.toList,r,⟨o,n,I.kIn a o hk,hc,hd,by simpa using hs⟩,?_⟩;have e:=r.length;simp only[KI] at e
  lia
theorem Inv.tuple(I:Inv X pins σ H s)(h:SqT X.K H a xs):∃its:List Value,Vals xs its/\IsTup s.heap a its.toArray/\xs.length<=sizeLine:=by
 rcases h with h|⟨o,its,n,hk,hc,hs,hz,r⟩
 ·obtain⟨z,its,r,p⟩:=h.ok I.hok;exact⟨its,r,p,z⟩
 ·refine⟨its.toList,r,⟨o,I.kIn a o hk,hc,n,by simpa using hs⟩,?_⟩;have e:=r.length;simp only[KI] at e
  lia
theorem Inv.list_inj(I:Inv X pins σ H s)(h:SqL X.K H a xs)(h':SqL X.K H a ys):xs=ys:=by
 obtain⟨its,r,⟨o,n,e,_,_,d⟩,_⟩:=I.list h;obtain⟨its',r',⟨o',n',e',_,_,d'⟩,_⟩:=I.list h';rw[e] at e';cases e';rw[d] at d';injection d' with d1 _;have:its=its':=by simpa using congrArg Array.toList d1
 subst this;exact r.inj r'
theorem Inv.tuple_inj(I:Inv X pins σ H s)(h:SqT X.K H a xs)(h':SqT X.K H a ys):xs=ys:=by
 obtain⟨its,r,⟨o,e,_,n,d⟩,_⟩:=I.tuple h;obtain⟨its',r',⟨o',e',_,n',d'⟩,_⟩:=I.tuple h';rw[e] at e';cases e';rw[d] at d';injection d' with d1 _;have:its=its':=by simpa using congrArg Array.toList d1
 subst this;exact r.inj r'
end
noncomputable abbrev Cx.wish(X:Cx)(E:Value->Shared->Prop):Cx:={ X with xe:=E }
noncomputable abbrev Cx.nox(X:Cx):Cx:=X.wish λ_ _=>False
theorem Cx.Ok.wish{X:Cx}(ok:X.Ok)(E:Value->Shared->Prop):(X.wish E).Ok:=
 ⟨ok.mod,ok.kind,ok.glob,ok.blt,ok.above,ok.inj,ok.has,ok.cab,ok.hd,ok.frames,ok.stk,ok.exf,ok.bs,ok.bsz,ok.noex,ok.exfs,ok.funs,ok.frf⟩
theorem Cx.Ok.unwish{X:Cx}(ok:(X.wish E).Ok):X.Ok:=
 ⟨ok.mod,ok.kind,ok.glob,ok.blt,ok.above,ok.inj,ok.has,ok.cab,ok.hd,ok.frames,ok.stk,ok.exf,ok.bs,ok.bsz,ok.noex,ok.exfs,ok.funs,ok.frf⟩
section
variable {X:Cx} {pins:List (Addr×Obj)} {σ:St} {H:Hp} {s:Shared} {E:Value->Shared->Prop}
theorem Inv.wish(I:Inv X pins σ H s)(E:Value->Shared->Prop):Inv (X.wish E) pins σ H s:=⟨I.ok.wish E,I.os,I.bare,I.base,I.loc,I.cell,I.free,I.freeC,I.pin,I.hok,I.len⟩
theorem Inv.unwish(I:Inv (X.wish E) pins σ H s):Inv X pins σ H s:=⟨I.ok.unwish,I.os,I.bare,I.base,I.loc,I.cell,I.free,I.freeC,I.pin,I.hok,I.len⟩
theorem SP.unwish(h:SP (X.wish E) pins D f s'):SP X pins D f s':=by
 cases f with
 |next=>obtain⟨σ',H',I,q⟩:=h;exact⟨σ',H',I.unwish,q⟩
 |brk=>obtain⟨σ',H',I,q⟩:=h;exact⟨σ',H',I.unwish,q⟩
 |cont=>obtain⟨σ',H',I,q⟩:=h;exact⟨σ',H',I.unwish,q⟩
 |ret u=>obtain⟨v,σ',H',I,r,q⟩:=h;exact⟨v,σ',H',I.unwish,r,q⟩
theorem PSs.nox{st:List Stmt}{t:TS}(h:PSs X.nox st t):PSs X st t:=λpins s σ H D I hw=>
 wpAny_mono (h pins s σ H D (I.wish _) hw) (λ_ _ q=>q.unwish) λ_ _ z=>False.elim z
end
section
variable {X:Cx} {st:Stmt} {rest:List Stmt} {t u:TS} {e:Expr} {te:TE} {pos:Pos}
noncomputable def tY:TS:=λD σ H=>D.nx σ H
noncomputable def G3(t u:TS):TS:=λD σ H=>t { D with nx:=u D } σ H
theorem xM:PSs X [] tY:=λ_ _ σ H _ I h=>wpAny_execs_nil ⟨σ,H,I,h⟩
theorem tZ(h1:PS X st t)(h2:PSs X rest u):PSs X (st::rest) (G3 t u):=by
 intro pins s σ H D I h;refine wpAny_execs_cons (bq (h1 pins s σ H { D with nx:=u D } I h) λf s1 q=>?_)
 cases f with
 |next=>
  obtain⟨σ',H',I',q⟩:=q;exact h2 pins s1 σ' H' D I' q
 |ret v=>exact q
 |brk=>exact q
 |cont=>exact q
theorem xN:PS X (.Pass pos) tY:=λ_ _ σ H _ I h=>wpAny_Pass ⟨σ,H,I,h⟩
theorem Inv.quiet(I:Inv X pins σ H s):interactive X.env=false:=by simp[interactive,I.ok.kind]
theorem AE{x j pos pos'}:PS X (.Expr (.Constant (.str x) j pos) pos') tY:=λ_ s σ H _ I h=>wpAny_Expr (Calls.Constant_str (show SP X _ _ .next { s with toks:=s.toks+1 } from⟨σ,H,I.tok _,h⟩)) I.quiet
noncomputable def Dx(te:TE):TS:=λD σ H=>te σ H λ_ H1=>D.nx σ H1
theorem xO(he:PE X e te)(hs:swapsWith e none pos.line X.env=pure false:=by rfl):PS X (.Expr e pos) (Dx te):=by
 intro pins s σ H D I h;exact wpAny_Expr_any (bq (he pins s σ H _ I h) λv s1 ⟨x,H1,I1,r1,q1⟩=>⟨σ,H1,I1,q1⟩) I.quiet hs
noncomputable def G4(te:TE):TS:=λD σ H=>te σ H D.rt
theorem AF(he:PE X e te):PS X (.Return (some e) pos) (G4 te):=by
 intro pins s σ H D I h;exact wpAny_Return_some (bq (he pins s σ H _ I h) λv s1 ⟨x,H1,I1,r1,q1⟩=>⟨x,σ,H1,I1,r1,q1⟩)
noncomputable def G5(c:TT)(t u:TS):TS:=λD σ H=>c σ H λb H1=>if b=true then t D σ H1 else u D σ H1
theorem zS{c:Expr}{a b:List Stmt}{tc:TT}(hc:PT X c tc)(ha:PSs X a t)(hb:PSs X b u):PS X (.If c a b pos) (G5 tc t u):=by
 intro pins s σ H D I h;refine wpAny_If (bq (hc pins s σ H _ I h) λd s1 ⟨H1,I1,q1⟩=>?_)
 cases d with
 |true=>exact ha pins s1 σ H1 D I1 q1
 |false=>exact hb pins s1 σ H1 D I1 q1
end
noncomputable abbrev TG:=V->St->Hp->(St->Hp->Prop)->Prop
noncomputable abbrev t0:=List V->St->Hp->(St->Hp->Prop)->Prop
noncomputable def PG(X:Cx)(target:Expr)(t:TG):Prop:=
 ∀(pins:List (Addr×Obj)) (s:Shared) (σ:St) (H:Hp) (v:V) (u:Value) (Q:St->Hp->Prop),Inv X pins σ H s->RelV v u->t v σ H Q->
  wpAny (model X.prog X.w) X.A (assign target X.env u) (λ_ s'=>∃σ' H',Inv X pins σ' H' s'/\Q σ' H') X.xe s
noncomputable def AG(X:Cx)(ts:List Expr)(t:t0):Prop:=
 ∀(pins:List (Addr×Obj)) (s:Shared) (σ:St) (H:Hp) (vs:List V) (us:List Value) (Q:St->Hp->Prop),Inv X pins σ H s->Vals vs us->t vs σ H Q->
  wpAny (model X.prog X.w) X.A (assignInOrder ((assignEach ts X.env).map (·.2)) us) (λ_ s'=>∃σ' H',Inv X pins σ' H' s'/\Q σ' H') X.xe s
noncomputable abbrev AH:=V->V->V->Hp->(Hp->Prop)->Prop
noncomputable def Dy(X:Cx)(t:AH):Prop:=
 ∀(pins:List (Addr×Obj)) (s:Shared) (σ:St) (H:Hp) (o i v:V) (ov iv u:Value) (Q:Hp->Prop),Inv X pins σ H s->RelV o ov->RelV i iv->RelV v u->t o i v H Q->
  wpAny (model X.prog X.w) X.A (setItem ov iv u) (λ_ s'=>∃H',Inv X pins σ H' s'/\Q H') X.xe s
noncomputable abbrev G6:=V->V->Hp->VK->Prop
noncomputable def G7(X:Cx)(op:Operator)(t:G6):Prop:=
 ∀(pins:List (Addr×Obj)) (s:Shared) (σ:St) (H:Hp) (x y:V) (v u:Value) (Q:VK),Inv X pins σ H s->RelV x v->RelV y u->t x y H Q->
  wpAny (model X.prog X.w) X.A (inplaceOp op v u) (EP X pins σ Q) X.xe s
section
variable {X:Cx} {pos:Pos}
noncomputable def jA(i:Nat):TG:=λv σ H Q=>Q (σ.set i (some v)) H
theorem qp{i:Nat}{x:Str}(hN:X.N.Nodup)(hi:X.N[i]?=some x)(hx:Ay X.env.scope x)(hf:X.fn x=true\/X.env.scope.names.lookup x=some .local:=by first|exact .inl rfl|exact .inr rfl|assumption):PG X (.Name x pos) (jA i):=by
 intro pins s σ H v u Q I r h;exact wpAny_assign_Name (jz I hN hi hx r (λs' I'=>⟨_,H,I',h⟩) hf)
noncomputable def AI:t0:=λvs σ H Q=>vs=[]/\Q σ H
noncomputable def t5(t:TG)(u:t0):t0:=λvs σ H Q=>∃v r,vs=v::r/\t v σ H λσ' H'=>u r σ' H' Q
theorem qt:AG X [] AI:=by
 intro pins s σ H vs us Q I r h;obtain⟨e,h⟩:=h;subst e;cases r;exact assignInOrder_nil ⟨σ,H,I,h⟩
theorem nc{e:Expr}{es:List Expr}{t:TG}{u:t0}(h1:PG X e t)(h2:AG X es u)
  (hs:(assignEach (e::es) X.env).map (·.2)=assign e X.env::(assignEach es X.env).map (·.2):=by rfl):AG X (e::es) (t5 t u):=by
 intro pins s σ H vs us Q I r h;obtain⟨v,vr,e1,h⟩:=h;subst e1
 cases r with
 |cons r rr=>
  rw[hs];refine assignInOrder_cons (bq (h1 pins s σ H _ _ _ I r h) λ_ s1 ⟨σ1,H1,I1,q1⟩=>?_);exact h2 pins s1 σ1 H1 _ _ Q I1 rr q1
noncomputable def Dz(K:Km)(n:Nat)(t:t0):TG:=λv σ H Q=>∃a xs,v=.ref a/\SqT K H a xs/\xs.length=n/\t xs σ H Q
theorem t6{k:Nat}{n:Nat}(hc:X.calm=true)(h:AG X es t)(hn:(assignEach es X.env).length=n:=by rfl)(hst:(assignEach es X.env).findIdx? (·.1)=none:=by rfl):PG X (.Tuple es k pos) (Dz X.K n t):=by
 intro pins s σ H v u Q I r hw;obtain⟨a,xs,e1,hq,hl,hw⟩:=hw;subst e1;cases r;obtain⟨its,rv,ht,hz⟩:=I.tuple hq;refine assign_Tuple_tuple (I.ok.hd hc) ht (by simp[hn,<- hl,rv.length]) hst λh' hx=>?_;have I1:Inv X pins σ H { s with heap:=h' }:=I.kept (t':=s.toks) λb o e=>hx b o (KC (Ks e)) e;exact h pins _ σ H xs _ Q I1 (by simpa using rv) hw
noncomputable def G8(to ti:TE)(t:AH):TG:=λv σ H Q=>to σ H λo H1=>ti σ H1 λi H2=>t o i v H2 λH3=>Q σ H3
theorem AJ{o i:Expr}{to ti:TE}{t:AH}(ho:PE X o to)(hi:PE X i ti)(hs:Dy X t)
  (ha:∀v,assign (.Subscript o i pos) X.env v=(do
   let ov <- holding [v] (eval o X.env);let iv <- holding [v,ov] (eval i X.env)
   standAt pos
   holding [v,ov,iv] (setItem ov iv v)
   release [v,ov,iv] []):=by intro _;rfl):PG X (.Subscript o i pos) (G8 to ti t):=by
 intro pins s σ H v u Q I r h;rw[ha];refine wpAny_bind (wpAny_holding (bq (ho pins s σ H _ I h) λov s1 ⟨x,H1,I1,r1,q1⟩=>?_));refine wpAny_bind (wpAny_holding (bq (hi pins s1 σ H1 _ I1 q1) λiv s2 ⟨y,H2,I2,r2,q2⟩=>?_));refine wpAny_bind (wpAny_standAt (wpAny_bind (wpAny_holding (bq (hs pins s2 σ H2 x y v ov iv u _ I2 r1 r2 r q2) λ_ s3 ⟨H3,I3,q3⟩=>?_))));exact wpAny_release ⟨σ,H3,I3,q3⟩
noncomputable def AK(te:TE)(g:TG):TS:=λD σ H=>te σ H λx H1=>g x σ H1 D.nx
theorem oZ{tg e:Expr}{te:TE}{g:TG}(he:PE X e te)(hg:PG X tg g)(hs:swapsWithSole [tg] e pos.line X.env=pure false:=by rfl)(hw:swappedStores [tg] e X.env=pure none:=by rfl)
  (h1:(assignEach [tg] X.env).map (·.2)=[assign tg X.env]:=by rfl):PS X (.Assign [tg] e pos) (AK te g):=by
 intro pins s σ H D I h;refine wpAny_Assign_stores (bq (he pins s σ H _ I h) λv s1 ⟨x,H1,I1,r1,q1⟩=>?_) hs hw;rw[h1];exact bq (hg pins s1 σ H1 x v _ I1 r1 q1) λ_ s2 q=>q
theorem t7{i:Nat}{x:Str}{e:Expr}{te:TE}{pos':Pos}(hN:X.N.Nodup)(hi:X.N[i]?=some x)(hx:Ay X.env.scope x)(he:PE X e te)(hs:swapsWith e (some (.Name x pos')) pos.line X.env=pure false:=by rfl)(hf:X.fn x=true\/X.env.scope.names.lookup x=some .local:=by first|exact .inl rfl|exact .inr rfl|assumption) :
  PS X (.Assign [.Name x pos'] e pos) (AK te (jA i)):=by
 intro pins s σ H D I h;refine wpAny_Assign_Name (bq (he pins s σ H _ I h) λv s1 ⟨y,H1,I1,r1,q1⟩=>?_) hs;exact jz I1 hN hi hx r1 (λs2 I2=>⟨_,H1,I2,q1⟩) hf
noncomputable def G9(i:Nat)(te:TE)(ti:G6):TS:=λD σ H=>∃x,σ[i]?=some (some x)/\te σ H λy H1=>ti x y H1 λz H2=>D.nx (σ.set i (some z)) H2
theorem t8{i:Nat}{x:Str}{e:Expr}{te:TE}{op:Operator}{ti:G6}{pos':Pos}(hN:X.N.Nodup)(hi:X.N[i]?=some x)(hx:Ay X.env.scope x)(he:PE X e te)(ho:G7 X op ti)(hf:X.fn x=true\/X.env.scope.names.lookup x=some .local:=by first|exact .inl rfl|exact .inr rfl|assumption) :
  PS X (.AugAssign (.Name x pos') op e pos) (G9 i te ti):=by
 intro pins s σ H D I h;obtain⟨v,e1,h⟩:=h;obtain⟨m,hn,hl⟩:=I.loc;have vis:Du X.env.scope x:=by rcases hx with k|k;exact .inl k;exact .inr (.inl k)
 obtain⟨u,r,l⟩:=hl i x v hi e1 vis;refine wpAny_AugAssign_Name ?_
 have go:wpAny (model X.prog X.w) X.A (eval e X.env) (λw s₂=>wpAny (model X.prog X.w) X.A (inplaceOp op u w) (λr s₃=>wpAny (model X.prog X.w) X.A (storeName X.env x r) (λ_=>SP X pins D .next) X.xe s₃) X.xe s₂) X.xe s:=by
  refine bq (he pins s σ H _ I h) λw s1 ⟨y,H1,I1,r1,q1⟩=>?_;refine bq (ho pins s1 σ H1 v y u w _ I1 r r1 q1) λz s2 ⟨zv,H2,I2,r2,q2⟩=>?_;exact jz I2 hN hi hx r2 (λs3 I3=>⟨_,H2,I3,q2⟩) hf
 rcases l with⟨hk,hm⟩|⟨hk,c,hc,hcell⟩
 ·exact wpAny_loadName_local I.ok.kind hk hn hm go
 ·rcases hk with hk|hk
  ·exact wpAny_loadName_cell I.ok.kind hk hc hcell go
  ·rcases hx with k|k
   ·have:X.env.scope.names.lookup x=some .free:=hk;rw[k] at this;cases this
   ·have:X.env.scope.names.lookup x=some .free:=hk;rw[k] at this;cases this
end
section
variable {X:Cx} {pos:Pos}
noncomputable def AL(c:TT)(tb:TS):TS:=λD σ H=>∃W:Nat->St->Hp->Prop,(∃m,W m σ H)/\∀m σ H,W m σ H->
 c σ H λb H1=>if b=true then ∃N:St->Hp->Prop,(∀σ' H',N σ' H'->∃m',m'<m/\W m' σ' H')/\tb { D with nx:=N,ct:=N,bk:=D.nx } σ H1 else D.nx σ H1
theorem t9{c:Expr}{body:List Stmt}{tc:TT}{tb:TS}(hp:PassesOwn (model X.prog X.w) X.A X.env X.xe)(hc:PT X c tc)(hb:PSs X body tb):PS X (.While c body [] pos) (AL tc tb):=by
 intro pins s σ H D I h;obtain⟨W,⟨m0,w0⟩,turn⟩:=h;refine wpAny_While (codeAny_whileLoop (λn s'=>∃σ' H',Inv X pins σ' H' s'/\W n σ' H') ?_ m0 ⟨σ,H,I,w0⟩)
 rintro n s1 ⟨σ1,H1,I1,w1⟩
 refine wpAny_passesOwn hp (bq (hc pins s1 σ1 H1 _ I1 (turn n σ1 H1 w1)) λb s2 ⟨H2,I2,q2⟩=>?_)
 cases b with
 |true=>
  obtain⟨N,hN,q2⟩:=q2;rw[if_pos rfl];refine wpAny_passesOwn hp (bq (hb pins s2 σ1 H2 _ I2 q2) λf s3 q3=>?_)
  cases f with
  |next=>
   obtain⟨σ3,H3,I3,n3⟩:=q3;obtain⟨m',hm,w3⟩:=hN σ3 H3 n3;exact⟨m',hm,σ3,H3,I3,w3⟩
  |cont=>
   obtain⟨σ3,H3,I3,n3⟩:=q3;obtain⟨m',hm,w3⟩:=hN σ3 H3 n3;exact⟨m',hm,σ3,H3,I3,w3⟩
  |brk=>exact q3
  |ret v=>exact q3
 |false=>
  rw[if_neg LF];exact wpAny_execs_nil ⟨σ1,H2,I2,q2⟩
end
structure It where
 go:Nat->Hp->Prop
 yld:Nat->Hp->V->Hp->Prop
 stop:Nat->Hp->Prop
noncomputable def jB(X:Cx)(pins:List (Addr×Obj))(H:Hp)(b:Addr):Prop:=
 H b=none/\b≠X.env.locals/\b∉X.fs/\(b∈X.ex\/X.s₀.heap.objs.size<=b)/\(∀x c,X.env.cells.lookup x=some c->c≠b)/\∀p∈X.pn++pins,p.1≠b
theorem Inv.fpOk{H H':Hp}{s:Shared}(I:Inv X pins σ H s)(hb:s.heap.objs.size<=b)(hn:H' b=none):jB X pins H' b:=by
 refine⟨hn,Lx (Kz I.lt hb),I.nofs hb,.inr (KN I.sz hb),λx c e z=>?_,λp hp z=>?_⟩
 ·obtain⟨v,q⟩:=I.cell x c e;exact absurd (Kz q.lt (by rw[z];exact hb)) (KZ _)
 ·exact absurd (Kz (Ks (I.pin p hp).1) (by rw[z];exact hb)) (KZ _)
structure sg(P:Program)(w:World)(K:Km)(tg:Expr)(J:It)(fp:List Addr)(it:Addr)(tn:Nat->Heap->Prop):Prop where
 mem:it∈fp
 obj:∀i h,tn i h->∀b∈fp,∃o,h.get? b=some o/\∀v,o.data≠.cell v
 keep:∀i h h',tn i h->(∀b∈fp,∀o,h.get? b=some o->h'.get? b=some o)->tn i h'
 item:∀(X:Cx),X.prog=P->X.w=w->X.K=K->X.calm=true->∀(i:Nat) (pins:List (Addr×Obj)) (s:Shared) (σ:St) (H:Hp) (E:Value->Shared->Prop),Inv X pins σ H s->(∀b∈fp,jB X pins H b)->tn i s.heap->J.go i H->
  wpAny (model P w) X.A (pyNext (.ref it)) (λr s1=>∃u,r=some u/\
   wpAny (model P w) X.A (letOwnedTupleGo tg (.ref it) u) (λ_ s2=>∃x H',Inv X pins σ H' s2/\RelV x u/\J.yld i H x H'/\tn (i+1) s2.heap/\∀b∈fp,H' b=none) E s1) E s
 done:∀(X:Cx),X.prog=P->X.w=w->X.K=K->X.calm=true->∀(i:Nat) (pins:List (Addr×Obj)) (s:Shared) (σ:St) (H:Hp) (E:Value->Shared->Prop),Inv X pins σ H s->(∀b∈fp,jB X pins H b)->tn i s.heap->J.stop i H->
  wpAny (model P w) X.A (pyNext (.ref it)) (λr s1=>r=none/\Inv X pins σ H s1) E s
 self:∀(A:Around) (i:Nat) (s:Shared) (Q:Value->Shared->Prop) (E:Value->Shared->Prop),tn i s.heap->Q (.ref it) s->wpAny (model P w) A (pyIter (.ref it)) Q E s
noncomputable abbrev TI:=St->Hp->(It->Hp->Prop)->Prop
noncomputable def Ha(X:Cx)(pins:List (Addr×Obj))(σ:St)(tg:Expr)(R:It->Hp->Prop)(itv:Value)(s2:Shared):Prop:=
 ∃(it:Addr) (fp:List Addr) (tn:Nat->Heap->Prop) (J:It) (H':Hp),itv=.ref it/\Inv X pins σ H' s2/\sg X.prog X.w X.K tg J fp it tn/\tn 0 s2.heap/\(∀b∈fp,jB X pins H' b)/\R J H'
noncomputable def PI(X:Cx)(tg iter:Expr)(wi:TI):Prop:=
 ∀(pins:List (Addr×Obj)) (s:Shared) (σ:St) (H:Hp) (R:It->Hp->Prop),Inv X pins σ H s->wi σ H R->
  wpAny (model X.prog X.w) X.A (eval iter X.env) (λv s1=>wpAny (model X.prog X.w) X.A (pyIter v) (Ha X pins σ tg R) X.xe s1) X.xe s
theorem ua{s:Shared}{o:Obj}{n:String}{Q:Unit->Shared->Prop}(ho:s.heap.get? it=some o)(hc:o.cls=.type n)(hd:o.data=.fields vs)(hn:["enumerate","zip","dict_itemiterator","dict_reverseitemiterator","odict_iterator","itertools.zip_longest","itertools.pairwise"].contains n=false)(hQ:Q () s):wpAny M A (letOwnedTupleGo tg (.ref it) u) Q E s:=by
  unfold letOwnedTupleGo
  cases tg<;>first
    |exact wpAny_pure hQ
    |(cases u<;>first
        |exact wpAny_pure hQ
        | (refine wpAny_bind (wpAny_load ho ?_)
           rw[hc,hd]
           show wpAny M A (if(["enumerate","zip","dict_itemiterator","dict_reverseitemiterator","odict_iterator","itertools.zip_longest","itertools.pairwise"].contains n&&vs[0]?==some (rawInt _))=true then _ else _) Q E s
           rw[if_neg (by intro h;rw[hn,MJ] at h;cases h)];exact wpAny_pure hQ))
noncomputable def Db(K:Km)(a:Addr):It:=
 ⟨λi H=>∃xs x,SqL K H a xs/\xs[i]?=some x,λi H x H'=>H'=H/\∀xs,SqL K H a xs->xs[i]?=some x,λi H=>∃xs,SqL K H a xs/\xs.length<=i⟩
noncomputable def Hb(K:Km)(a:Addr):It:=
 ⟨λi H=>∃xs x,SqT K H a xs/\xs[i]?=some x,λi H x H'=>H'=H/\∀xs,SqT K H a xs->xs[i]?=some x,λi H=>∃xs,SqT K H a xs/\xs.length<=i⟩
noncomputable def DA(lo:Int)(n:Nat):It:=⟨λi _=>i<n,λi H x H'=>H'=H/\x=.int (lo+i),λi _=>n<=i⟩
theorem si{P:Program}{w:World}{K:Km}{tg:Expr}(a it:Addr):sg P w K tg (Db K a) [it] it (λi h=>h.IsListIter it a i) where
 mem:=by simp
 obj:=λi h st b hb=>by
  have e:b=it:=by simpa using hb
  subst e;obtain⟨o,e,c,d⟩:=st;exact⟨o,e,λv z=>by rw[d] at z;cases z⟩
 keep:=λi h h' st k=>st.at λo e=>k it (by simp) o e
 item:=by
  intro X hP hw hK hc i pins s σ H E I hf st hg;subst hP hw hK;obtain⟨xs,x,hq,hx⟩:=hg;obtain⟨its,rv,p,hz⟩:=I.list hq;obtain⟨u,hu,ru⟩:=rv.get hx;obtain⟨f0,f1,f2,f3,f4,f5⟩:=hf it (by simp);refine wpAny_pyNext_list_item st p.isList (x:=u) (by simpa using hu) λh' st' sb=>?_;have I1:Inv X pins σ H { s with heap:=h' }:=I.turned (t':=s.toks) (λb o hb e=>(sb.2 b hb).trans e) f0 f1 f3 f4 f5;obtain⟨o,e,c,d⟩:=id st';exact⟨u,rfl,ua (s:={ s with heap:=h' }) e c d (by decide) ⟨x,H,I1,ru,⟨rfl,λys hy=>by rw[I.list_inj hy hq];exact hx⟩,st',λb hb=>(hf b hb).1⟩⟩
 done:=by
  intro X hP hw hK hc i pins s σ H E I hf st hg;subst hP hw hK;obtain⟨xs,hq,hx⟩:=hg;obtain⟨its,rv,p,hz⟩:=I.list hq;obtain⟨f0,f1,f2,f3,f4,f5⟩:=hf it (by simp);have hl:=rv.length;exact wpAny_pyNext_list_end (I.ok.hd hc) st p.isList (by simp;lia) λh' eb=>⟨rfl,I.turned (t':=s.toks) (λb o hb e=>eb b o hb e) f0 f1 f3 f4 f5⟩
 self:=λ_ _ _ _ _ st h=>wpAny_pyIter_listiter st h
theorem o3{P:Program}{w:World}{K:Km}{tg:Expr}(a it:Addr):sg P w K tg (Hb K a) [it] it (λi h=>h.IsTupleIter it a i) where
 mem:=by simp
 obj:=λi h st b hb=>by
  have e:b=it:=by simpa using hb
  subst e;obtain⟨o,e,c,d⟩:=st;exact⟨o,e,λv z=>by rw[d] at z;cases z⟩
 keep:=λi h h' st k=>st.at λo e=>k it (by simp) o e
 item:=by
  intro X hP hw hK hc i pins s σ H E I hf st hg;subst hP hw hK;obtain⟨xs,x,hq,hx⟩:=hg;obtain⟨its,rv,p,hz⟩:=I.tuple hq;obtain⟨u,hu,ru⟩:=rv.get hx;obtain⟨f0,f1,f2,f3,f4,f5⟩:=hf it (by simp);refine wpAny_pyNext_tuple_item st (show s.heap.IsTuple a its.toArray from p) (x:=u) (by simpa using hu) λh' st' sb=>?_;have I1:Inv X pins σ H { s with heap:=h' }:=I.turned (t':=s.toks) (λb o hb e=>(sb.2 b hb).trans e) f0 f1 f3 f4 f5;obtain⟨o,e,c,d⟩:=id st';exact⟨u,rfl,ua (s:={ s with heap:=h' }) e c d (by decide) ⟨x,H,I1,ru,⟨rfl,λys hy=>by rw[I.tuple_inj hy hq];exact hx⟩,st',λb hb=>(hf b hb).1⟩⟩
 done:=by
  intro X hP hw hK hc i pins s σ H E I hf st hg;subst hP hw hK;obtain⟨xs,hq,hx⟩:=hg;obtain⟨its,rv,p,hz⟩:=I.tuple hq;obtain⟨f0,f1,f2,f3,f4,f5⟩:=hf it (by simp);have hl:=rv.length;exact wpAny_pyNext_tuple_end (I.ok.hd hc) st (show s.heap.IsTuple a its.toArray from p) (by simp;lia) λh' eb=>⟨rfl,I.turned (t':=s.toks) (λb o hb e=>eb b o hb e) f0 f1 f3 f4 f5⟩
 self:=λ_ _ _ _ _ st h=>wpAny_pyIter_tupleiter st h
theorem o5{P:Program}{w:World}{K:Km}{tg:Expr}(it:Addr)(lo:Int)(n:Nat):sg P w K tg (DA lo n) [it] it (λi h=>IsRangeIter h it (lo+(i:Nat)*1) ((n:Int)-(i:Nat)) 1) where
 mem:=by simp
 obj:=λi h st b hb=>by
  have e:b=it:=by simpa using hb
  subst e
  exact⟨_,st,λv z=>by
   have z':Data.fields _=Data.cell v:=z;cases z'⟩
 keep:=λi h h' st k=>k it (by simp) _ st
 item:=by
  intro X hP hw hK hc i pins s σ H E I hf st hg;subst hP hw hK;obtain⟨f0,f1,f2,f3,f4,f5⟩:=hf it (by simp);have W:=Walks.range (prog:=X.prog) (w:=X.w) (I.ok.hd hc) it lo 1 n;refine W.item i s _ _ hg st λv h' tk hv st' kk=>?_;obtain⟨t,rfl⟩:=hv;have I1:Inv X pins σ H { s with heap:=h',toks:=tk }:=I.turned (λb o hb e=>kk b o (by simpa using hb) e) f0 f1 f3 f4 f5;refine⟨_,rfl,ua (s:={ s with heap:=h',toks:=tk }) (n:="range_iterator") st' rfl rfl (by decide) ⟨.int (lo+i),H,I1,⟨t,?_⟩,⟨rfl,rfl⟩,st',λb hb=>(hf b hb).1⟩⟩;rw[Nj]
 done:=by
  intro X hP hw hK hc i pins s σ H E I hf st hg;subst hP hw hK;obtain⟨f0,f1,f2,f3,f4,f5⟩:=hf it (by simp);exact wpAny_pyNext_range_end (I.ok.hd hc) st (by have:n<=i:=hg;lia) λh' eb=>⟨rfl,I.turned (t':=s.toks) (λb o hb e=>eb b o hb e) f0 f1 f3 f4 f5⟩
 self:=λ_ _ _ _ _ st h=>wpAny_pyIter_rangeiter st h
end L2
namespace L2
open PySem PySem.Spec PyProof.Rows
section
variable {X:Cx} {tg:Expr}
noncomputable def DB(K:Km)(tl:TE):TI:=λσ H R=>tl σ H λx H1=>∃a,x=.ref a/\(∃xs,SqL K H1 a xs)/\R (Db K a) H1
noncomputable def Hc(K:Km)(tl:TE):TI:=λσ H R=>tl σ H λx H1=>∃a,x=.ref a/\(∃xs,SqT K H1 a xs)/\R (Hb K a) H1
theorem qu{l:Expr}{tl:TE}(hl:PE X l tl):PI X tg l (DB X.K tl):=by
 intro pins s σ H R I h;refine bq (hl pins s σ H _ I h) λv s1 ⟨x,H1,I1,r1,q1⟩=>?_;obtain⟨a,e,⟨xs,hq⟩,q⟩:=q1;subst e;cases r1;obtain⟨its,rv,p,hz⟩:=I1.list hq;refine wpAny_pyIter_list p.isList ?_;refine⟨s1.heap.objs.size,[s1.heap.objs.size],_,_,H1,rfl,I1.kept (t':=s1.toks) λb o e=>Kq _ e,si a _,⟨_,KB _ rfl,rfl,rfl⟩,λb hb=>?_,q⟩;have e:b=s1.heap.objs.size:=by simpa using hb
 subst e;exact I1.fpOk (Kw _) (I1.hok.fresh (Kw _))
theorem ub{l:Expr}{tl:TE}(hl:PE X l tl):PI X tg l (Hc X.K tl):=by
 intro pins s σ H R I h;refine bq (hl pins s σ H _ I h) λv s1 ⟨x,H1,I1,r1,q1⟩=>?_;obtain⟨a,e,⟨xs,hq⟩,q⟩:=q1;subst e;cases r1;obtain⟨its,rv,p,hz⟩:=I1.tuple hq;refine wpAny_pyIter_tuple (show s1.heap.IsTuple a its.toArray from p) ?_;refine⟨s1.heap.objs.size,[s1.heap.objs.size],_,_,H1,rfl,I1.kept (t':=s1.toks) λb o e=>Kq _ e,o3 a _,⟨_,KB _ rfl,rfl,rfl⟩,λb hb=>?_,q⟩;have e:b=s1.heap.objs.size:=by simpa using hb
 subst e;exact I1.fpOk (Kw _) (I1.hok.fresh (Kw _))
theorem ng{s:Shared}{R:It->Hp->Prop}{lo hi:Int}{tk:Nat}(I:Inv X pins σ H s)(h1:-(2^62)<=lo)(h2:lo<2^62)(h3:-(2^62)<=hi)(h4:hi<2^62)(q:R (DA lo (hi-lo).toNat) H):wpAny (model X.prog X.w) X.A (pyIter (.ref s.heap.objs.size)) (Ha X pins σ tg R) E { s with heap:=s.heap.push { cls:=.type "range",data:=.fields #[.int lo t,.int hi u,.int 1 v] },toks:=tk }:=by
 refine wpAny_pyIter_range (IsRange.new ..) (small_one h1 h2 h3 h4) ?_;have I1:Inv X pins σ H { s with heap:=s.heap.push { cls:=.type "range",data:=.fields #[.int lo t,.int hi u,.int 1 v] },toks:=tk }:=I.kept λb o e=>Kq _ e
 refine⟨(s.heap.push { cls:=.type "range",data:=.fields #[.int lo t,.int hi u,.int 1 v] }).objs.size,[(s.heap.push { cls:=.type "range",data:=.fields #[.int lo t,.int hi u,.int 1 v] }).objs.size],_,_,H,rfl,
  I1.kept (t':=tk) λb o e=>Kq _ e,o5 _ lo (hi-lo).toNat,?_,λb hb=>?_,q⟩
 ·have e1:lo+((0:Nat):Int)*1=lo:=by simp
  have e2:(((hi-lo).toNat:Nat):Int)-((0:Nat):Int)=Builtin.Range.rangeSize lo hi 1:=by rw[rangeSize_one];split<;>lia
  show IsRangeIter _ _ (lo+((0:Nat):Int)*1) ((((hi-lo).toNat:Nat):Int)-((0:Nat):Int)) 1;rw[e1,e2];exact KB _ rfl
 ·have e:b=(s.heap.push { cls:=.type "range",data:=.fields #[.int lo t,.int hi u,.int 1 v] }).objs.size:=by simpa using hb
  subst e;exact I1.fpOk (Kw _) (I1.hok.fresh (Kw _))
noncomputable def DC(ta:TA):TI:=λσ H R=>ta σ H λvs H1=>∃j:Int,vs=[.int j]/\-(2^62)<=j/\j<2^62/\R (DA 0 j.toNat) H1
noncomputable def DD(ta:TA):TI:=λσ H R=>ta σ H λvs H1=>∃i j:Int,vs=[.int i,.int j]/\(-(2^62)<=i/\i<2^62/\-(2^62)<=j/\j<2^62)/\R (DA i (j-i).toNat) H1
theorem kW{a:Expr}{ta:TA}{p pos:Pos}(hg:Gl X "range")(hm:X.mg "range" = none)(ha:PA X [a] ta)(hs:starEach [a] X.env=[(false,eval a X.env)]:=by rfl):PI X tg (.Call (.Name "range" p) [a] [] pos) (DC ta):=by
 intro pins s σ H R I h;refine Call_ (cY I hg hm boot_range (PyProof.Rows.callWith_type1 (bq (ha pos pins s σ H _ I h) λus s1 ⟨vs,H1,I1,r1,q1⟩=>?_) hs rfl));obtain⟨j,e,q1,q2,q⟩:=q1;subst e
 cases r1 with
 |cons r rr=>
  cases rr;obtain⟨t,rfl⟩:=r;exact call_range_1 (ng I1 (by lia) (by lia) q1 q2 (by simpa using q))
theorem sj{a b:Expr}{ta:TA}{p pos:Pos}(hg:Gl X "range")(hm:X.mg "range" = none)(ha:PA X [a,b] ta)(hs:starEach [a,b] X.env=[(false,eval a X.env),(false,eval b X.env)]:=by rfl)(hs2:starEach [b] X.env=[(false,eval b X.env)]:=by rfl) :
  PI X tg (.Call (.Name "range" p) [a,b] [] pos) (DD ta):=by
 intro pins s σ H R I h;refine Call_ (cY I hg hm boot_range (PyProof.Rows.callWith_type1 (bq (ha pos pins s σ H _ I h) λus s1 ⟨vs,H1,I1,r1,q1⟩=>?_) (by rw[hs,hs2]) (by rw[hs2];rfl)));obtain⟨i,j,e,⟨q1,q2,q3,q4⟩,q⟩:=q1;subst e
 cases r1 with
 |cons r rr=>
  cases rr with
  |cons r' rr=>
   cases rr;obtain⟨t,rfl⟩:=r;obtain⟨t',rfl⟩:=r';exact call_range_2 (ng I1 q1 q2 q3 q4 q)
noncomputable def He(wi:TI)(g:TG)(tb:TS):TS:=λD σ H=>wi σ H λJ H1=>∃W:Nat->Nat->St->Hp->Prop,(∃m,W 0 m σ H1)/\∀i m σ H,W i m σ H->
 (J.stop i H/\D.nx σ H)\/(J.go i H/\∃N:St->Hp->Prop,(∀σ' H',N σ' H'->∃m',m'<m/\W (i+1) m' σ' H')/\∀x H',J.yld i H x H'->g x σ H' λσ2 H2=>tb { D with nx:=N,ct:=N,bk:=D.nx } σ2 H2)
noncomputable def lS(fp:List Addr)(h:Heap):List (Addr×Obj):=fp.filterMap λb=>(h.get? b).map λo=>(b,o)
theorem bZ{fp:List Addr}{h:Heap}(hb:b∈fp)(e:h.get? b=some o):(b,o)∈lS fp h:=Ml.mpr ⟨b,hb,by rw[e];rfl⟩
theorem sn{fp:List Addr}{h:Heap}{p:Addr×Obj}(hp:p∈lS fp h):p.1∈fp/\h.get? p.1=some p.2:=by
 obtain⟨b,hb,e⟩:=Ml.mp hp
 cases q:h.get? b with
 |none=>rw[q] at e;cases e
 |some o=>
  rw[q] at e;have e':(b,o)=p:=Option.some.inj e;subst e';exact⟨hb,q⟩
theorem Inv.pinned{pins:List (Addr×Obj)}{s:Shared}{fp:List Addr}(I:Inv X pins σ H s)(hf:∀b∈fp,jB X pins H b)(ho:∀b∈fp,∃o,s.heap.get? b=some o/\∀v,o.data≠.cell v):Inv X (pins++lS fp s.heap) σ H s:=
 I.pins_of λp hp=>(Mx.mp hp).elim (λz=>I.pin p (KH _ z)) λz=>by
  obtain⟨hb,e⟩:=sn z;obtain⟨f0,f1,f2,_⟩:=hf p.1 hb;obtain⟨o,e',d⟩:=ho p.1 hb;rw[e] at e';cases e';exact⟨e,f0,f1,f2,d⟩
theorem Inv.unpinned{pins pl:List (Addr×Obj)}(I:Inv X (pins++pl) σ H s):Inv X pins σ H s:=I.pins_of λp hp=>I.pin p (KH _ (LS _ hp))
theorem AM{iter:Expr}{body:List Stmt}{wi:TI}{g:TG}{tb:TS}{pos:Pos}(hp:PassesOwn (model X.prog X.w) X.A X.env X.xe)(hc:X.calm=true)(hi:PI X tg iter wi)(hg:PG X tg g)(hb:PSs X body tb)
  (hs:∀x,foldedSetIterable iter X.env x=pure x:=by intro _;rfl):PS X (.For tg iter body [] pos) (He wi g tb):=by
 intro pins s σ H D I h;refine wpAny_For (bq (hi pins s σ H _ I h) λv s1 h1=>bq h1 λitv s2 h2=>?_) hs;obtain⟨it,fp,tn,J,H2,e,I2,T,st2,f2,W,⟨m0,w0⟩,turn⟩:=h2;subst e
 -- what stays true of the iterator's objects through the loop
 have stat:∀{H':Hp},(∀b∈fp,H' b=none)->∀b∈fp,jB X pins H' b:=λhn b hb=>⟨hn b hb,(f2 b hb).2⟩;refine codeAny_forLoop_any (λn s'=>∃i σ' H',Inv X pins σ' H' s'/\tn i s'.heap/\(∀b∈fp,H' b=none)/\W i n σ' H') ?_ m0 ⟨0,σ,H2,I2,st2,λb hb=>(f2 b hb).1,w0⟩
 rintro n s3 ⟨i,σ3,H3,I3,st3,fr3,w3⟩
 rcases turn i n σ3 H3 w3 with⟨stop,qn⟩|⟨go,N,hN,step⟩
 ·refine wpAny_passesOwn hp (bq (T.done X rfl rfl rfl hc i pins s3 σ3 H3 X.xe I3 (stat fr3) st3 stop) λr s4 ⟨hr,I4⟩=>?_);subst hr;exact wpAny_execs_nil ⟨σ3,H3,I4,qn⟩
 ·refine wpAny_passesOwn hp (bq (T.item X rfl rfl rfl hc i pins s3 σ3 H3 X.xe I3 (stat fr3) st3 go) λr s4 ⟨u,hr,h4⟩=>?_);subst hr;refine wpAny_passesOwn hp (bq h4 λ_ s5 ⟨x,H5,I5,r5,y5,st5,fr5⟩=>?_);have I5':=I5.pinned (stat fr5) (T.obj _ _ st5);refine wpAny_passesOwn hp (bq (hg _ s5 σ3 H5 x u _ I5' r5 (step x H5 y5)) λ_ s6 ⟨σ6,H6,I6,q6⟩=>?_);refine wpAny_passesOwn hp (bq (hb _ s6 σ6 H6 _ I6 q6) λf s7 q7=>?_)
  have again:∀{σ7:St} {H7:Hp},Inv X (pins++lS fp s5.heap) σ7 H7 s7->N σ7 H7->∃m,m<n/\∃i σ' H',Inv X pins σ' H' s7/\tn i s7.heap/\(∀b∈fp,H' b=none)/\W i m σ' H':=λ{σ7 H7} I7 n7=>by
   obtain⟨m',hm,w7⟩:=hN σ7 H7 n7;refine⟨m',hm,i+1,σ7,H7,I7.unpinned,T.keep _ _ _ st5 λb hb o e=>(I7.pin (b,o) (KH _ (KH _ (bZ hb e)))).1,λb hb=>?_,w7⟩;obtain⟨o,e,d⟩:=T.obj _ _ st5 b hb;exact(I7.pin (b,o) (KH _ (KH _ (bZ hb e)))).2.1
  cases f with
  |next=>obtain⟨σ7,H7,I7,n7⟩:=q7;exact again I7 n7
  |cont=>obtain⟨σ7,H7,I7,n7⟩:=q7;exact again I7 n7
  |brk=>obtain⟨σ7,H7,I7,q7⟩:=q7;exact⟨σ7,H7,I7.unpinned,q7⟩
  |ret v=>obtain⟨x7,σ7,H7,I7,r7,q7⟩:=q7;exact⟨x7,σ7,H7,I7.unpinned,r7,q7⟩
end
end L2
namespace L2
open PySem PySem.Spec PyProof.Rows
noncomputable abbrev R2:=V->V->Hp->VK->Prop
noncomputable def i5(X:Cx)(f:Value->Value->Sem Value)(r:R2):Prop:=
 ∀(pins:List (Addr×Obj)) (s:Shared) (σ:St) (H:Hp) (x y:V) (v u:Value) (Q:VK),Inv X pins σ H s->RelV x v->RelV y u->r x y H Q->
  wpAny (model X.prog X.w) X.A (f v u) (EP X pins σ Q) X.xe s
noncomputable def Hf(X:Cx)(f:Value->Sem Value)(r:V->Hp->VK->Prop):Prop:=
 ∀(pins:List (Addr×Obj)) (s:Shared) (σ:St) (H:Hp) (x:V) (v:Value) (Q:VK),Inv X pins σ H s->RelV x v->r x H Q->
  wpAny (model X.prog X.w) X.A (f v) (EP X pins σ Q) X.xe s
noncomputable def eM(X:Cx)(f:Value)(r:List V->Hp->VK->Prop):Prop:=
 ∀(pins:List (Addr×Obj)) (s:Shared) (σ:St) (H:Hp) (xs:List V) (us:List Value) (Q:VK),Inv X pins σ H s->Vals xs us->r xs H Q->
  wpAny (model X.prog X.w) X.A (call f us) (EP X pins σ Q) X.xe s
noncomputable def Hg(X:Cx)(r:V->Hp->(Bool->Hp->Prop)->Prop):Prop:=
 ∀(pins:List (Addr×Obj)) (s:Shared) (σ:St) (H:Hp) (x:V) (v:Value) (Q:Bool->Hp->Prop),Inv X pins σ H s->RelV x v->r x H Q->
  wpAny (model X.prog X.w) X.A (truthy v) (TP X pins σ Q) X.xe s
noncomputable def Gn(r:R2)(ta tb:TE):TE:=λσ H Q=>ta σ H λx H1=>tb σ H1 λy H2=>r x y H2 Q
noncomputable def JM(r:V->Hp->VK->Prop)(ta:TE):TE:=λσ H Q=>ta σ H λx H1=>r x H1 Q
noncomputable def rI(C:Int->Int->Prop)(g:Int->Int->V):R2:=λx y H Q=>∃i j,x=.int i/\y=.int j/\C i j/\Q (g i j) H
noncomputable def xP(g:Int->Int->V):R2:=λx y H Q=>∃i j,x=.int i/\y=.int j/\Q (g i j) H
noncomputable def rU(g:Int->V):V->Hp->VK->Prop:=λx H Q=>∃i,x=.int i/\Q (g i) H
section
variable {X:Cx} {a b c:Expr} {ta tb tc:TE} {pos:Pos}
theorem AN(ha:PE X a ta)(hb:PE X b tb){pins:List (Addr×Obj)}{s:Shared}{σ:St}{H:Hp}{R:V->V->Hp->Prop}(I:Inv X pins σ H s)
  (h:ta σ H λx H1=>tb σ H1 λy H2=>R x y H2) {Q:Value->Shared->Prop} {f:Value->Value->Sem Value}
  (hf:∀v u s2 x y H2,Inv X pins σ H2 s2->RelV x v->RelV y u->R x y H2->wpAny (model X.prog X.w) X.A (f v u) Q X.xe s2) :
  wpAny (model X.prog X.w) X.A (eval a X.env) (λv s₁=>wpAny (model X.prog X.w) X.A (eval b X.env) (λu s₂=>wpAny (model X.prog X.w) X.A (f v u) Q X.xe s₂) X.xe s₁) X.xe s:=by
 refine bq (ha pins s σ H _ I h) λv s1 ⟨x,H1,I1,r1,q1⟩=>?_;refine bq (hb pins s1 σ H1 _ I1 q1) λu s2 ⟨y,H2,I2,r2,q2⟩=>?_;exact hf v u s2 x y H2 I2 r1 r2 q2
theorem zT(ho:i5 X (binaryOp op) r)(ha:PE X a ta)(hb:PE X b tb):PE X (.BinOp a op b pos) (Gn r ta tb):=by
 intro pins s σ H Q I h;exact wpAny_BinOp (AN ha hb I h λv u s2 x y H2 I2 rx ry q=>ho pins s2 σ H2 x y v u Q I2 rx ry q)
theorem DE{op:UnaryOp}{r:V->Hp->VK->Prop}(ho:Hf X (unaryOp op) r)(ha:PE X a ta):PE X (.UnaryOp op a pos) (JM r ta):=by
 intro pins s σ H Q I h;exact UnaryOp_ (bq (ha pins s σ H _ I h) λv s1 ⟨x,H1,I1,r1,q1⟩=>ho pins s1 σ H1 x v Q I1 r1 q1)
theorem DF{f:Value->Value->Sem Value}{C:Int->Int->Prop}{g:Int->Int->Int}
  (rule:∀(i j:Int) (t u:Tok) (s:Shared) (Q:Value->Shared->Prop) (E:Value->Shared->Prop),C i j->Q (.int (g i j) s.toks) { s with toks:=s.toks+1 }->wpAny (model X.prog X.w) X.A (f (.int i t) (.int j u)) Q E s) :
  i5 X f (rI C λi j=>.int (g i j)):=by
 intro pins s σ H x y v u Q I rx ry h;obtain⟨i,j,rfl,rfl,hc,q⟩:=h;obtain⟨t,rfl⟩:=rx;obtain⟨t',rfl⟩:=ry;exact rule i j t t' s _ _ hc ⟨.int (g i j),H,I.tok _,⟨_,rfl⟩,q⟩
theorem AO{f:Value->Value->Sem Value}{g:Int->Int->Int}
  (rule:∀(i j:Int) (t u:Tok) (s:Shared) (Q:Value->Shared->Prop) (E:Value->Shared->Prop),Q (.int (g i j) s.toks) { s with toks:=s.toks+1 }->wpAny (model X.prog X.w) X.A (f (.int i t) (.int j u)) Q E s) :
  i5 X f (xP λi j=>.int (g i j)):=by
 intro pins s σ H x y v u Q I rx ry h;obtain⟨i,j,rfl,rfl,q⟩:=h;obtain⟨t,rfl⟩:=rx;obtain⟨t',rfl⟩:=ry;exact rule i j t t' s _ _ ⟨.int (g i j),H,I.tok _,⟨_,rfl⟩,q⟩
theorem xQ{f:Value->Value->Sem Value}{g:Int->Int->Bool}
  (rule:∀(i j:Int) (t u:Tok) (s:Shared) (Q:Value->Shared->Prop) (E:Value->Shared->Prop),Q (.bool (g i j)) s->wpAny (model X.prog X.w) X.A (f (.int i t) (.int j u)) Q E s) :
  i5 X f (xP λi j=>.bl (g i j)):=by
 intro pins s σ H x y v u Q I rx ry h;obtain⟨i,j,rfl,rfl,q⟩:=h;obtain⟨t,rfl⟩:=rx;obtain⟨t',rfl⟩:=ry;exact rule i j t t' s _ _ ⟨.bl (g i j),H,I,rfl,q⟩
noncomputable def Hh(i j:Int):Prop:=0<=j/\j<=1000000/\i.natAbs<2^64
theorem AQ:i5 X (binaryOp .Add) (xP λi j=>.int (i+j)):=AO λ_ _ _ _ _ _ _ q=>add_int q
theorem AR:i5 X (binaryOp .Sub) (xP λi j=>.int (i-j)):=AO λ_ _ _ _ _ _ _ q=>sub_int q
theorem AS:i5 X (binaryOp .Mod) (rI (λ_ j=>0<j) λi j=>.int (i%j)):=DF λi j _ _ _ _ _ hc q=>by
 have h1:(0:Int)<j:=hc;exact mod_int' (by lia) (by rw[Int.fmod_eq_emod_of_nonneg i (by lia)];exact q)
theorem AT:i5 X (binaryOp .Pow) (rI Hh λi j=>.int (i^j.toNat)):=DF λ_ _ _ _ _ _ _ hc q=>pow_int_small hc.1 hc.2.1 hc.2.2 q
theorem xR:i5 X (inplaceOp .Add) (xP λi j=>.int (i+j)):=AO λ_ _ _ _ _ _ _ q=>iadd_int q
theorem JN{f:Value->Sem Value}{g:Int->Int}
  (rule:∀(i:Int) (t:Tok) (s:Shared) (Q:Value->Shared->Prop) (E:Value->Shared->Prop),Q (.int (g i) s.toks) { s with toks:=s.toks+1 }->wpAny (model X.prog X.w) X.A (f (.int i t)) Q E s) :
  Hf X f (rU λi=>.int (g i)):=by
 intro pins s σ H x v Q I rx h;obtain⟨i,rfl,q⟩:=h;obtain⟨t,rfl⟩:=rx;exact rule i t s _ _ ⟨.int (g i),H,I.tok _,⟨_,rfl⟩,q⟩
theorem AU:Hf X (unaryOp .USub) (rU λi=>.int (-i)):=JN λ_ _ _ _ _ q=>neg_int q
end
section
variable {X:Cx} {a b c:Expr} {ta tb tc:TE} {pos:Pos}
theorem DG:i5 X (compareOp .Lt) (xP λi j=>.bl (decide (i<j))):=xQ λ_ _ _ _ _ _ _ q=>lt_int q
theorem DH:i5 X (compareOp .LtE) (xP λi j=>.bl (decide (i<=j))):=xQ λ_ _ _ _ _ _ _ q=>le_int q
theorem DI:i5 X (compareOp .Gt) (xP λi j=>.bl (decide (j<i))):=xQ λ_ _ _ _ _ _ _ q=>gt_int q
theorem DJ:i5 X (compareOp .GtE) (xP λi j=>.bl (decide (j<=i))):=xQ λ_ _ _ _ _ _ _ q=>ge_int q
theorem xS{op:CmpOp}{r:R2}(ho:i5 X (compareOp op) r)(ha:PE X a ta)(hb:PE X b tb)(hm:behindInMarks op b=false):PE X (.Compare a [op] [b] pos) (Gn r ta tb):=by
 intro pins s σ H Q I h;exact wpAny_Compare1 (AN ha hb I h λv u s2 x y H2 I2 rx ry q=>ho pins s2 σ H2 x y v u Q I2 rx ry q) hm
noncomputable def zU(t:TE):TT:=λσ H Q=>t σ H λx H'=>∃k,x=.bl k/\Q k H'
theorem qw{op:CmpOp}(ho:i5 X (compareOp op) r)(ha:PE X a ta)(hb:PE X b tb)(hm:behindInMarks op b=false):PT X (.Compare a [op] [b] pos) (zU (Gn r ta tb)):=by
 intro pins s σ H Q I h
 refine wpAny_isTrue_Compare1 (bq (ha pins s σ H _ I h) λv s1 ⟨x,H1,I1,r1,q1⟩=>bq (hb pins s1 σ H1 _ I1 q1) λu s2 ⟨y,H2,I2,r2,q2⟩=>
  bq (ho pins s2 σ H2 x y v u _ I2 r1 r2 q2) λc s3 ⟨z,H3,I3,r3,k,e,q3⟩=>?_) hm
 subst e;cases r3;exact wpAny_truthy_bool ⟨H3,I3,q3⟩
noncomputable def o6(r r':R2)(ta tb tc:TE):TE:=λσ H Q=>ta σ H λx H1=>tb σ H1 λy H2=>r x y H2 λz H3=>∃k,z=.bl k/\
 (if k=true then tc σ H3 λw' H4=>r' y w' H4 Q else Q (.bl false) H3)
theorem uc(ho:i5 X (compareOp op) r)(ho':i5 X (compareOp op') r')(ha:PE X a ta)(hb:PE X b tb)(hc:PE X c tc)(hm:lastMarks [op,op'] [b,c]=false:=by with_unfolding_all rfl):PE X (.Compare a [op,op'] [b,c] pos) (o6 r r' ta tb tc):=by
 intro pins s σ H Q I h
 refine Compare_chain (bq (ha pins s σ H _ I h) λv s1 ⟨x,H1,I1,r1,q1⟩=>chain_link (bq (hb pins s1 σ H1 _ I1 q1) λu s2 ⟨y,H2,I2,r2,q2⟩=>
  bq (ho pins s2 σ H2 x y v u _ I2 r1 r2 q2) λd s3 ⟨z,H3,I3,r3,k,e,q3⟩=>?_)) hm
 subst e;cases r3;refine wpAny_truthy_bool ?_
 cases k with
 |false=>exact ite_ff ⟨.bl false,H3,I3,rfl,q3⟩
 |true=>exact ite_tt (chain_last (bq (hc pins s3 σ H3 _ I3 q3) λw' s4 ⟨z',H4,I4,r4,q4⟩=>ho' pins s4 σ H4 y z' u w' Q I4 r2 r4 q4))
theorem ud(ho:i5 X (compareOp op) r)(ho':i5 X (compareOp op') r')(ha:PE X a ta)(hb:PE X b tb)(hc:PE X c tc)(hm:lastMarks [op,op'] [b,c]=false:=by with_unfolding_all rfl):PT X (.Compare a [op,op'] [b,c] pos) (zU (o6 r r' ta tb tc)):=by
 intro pins s σ H Q I h
 refine isTrue_chain (bq (ha pins s σ H _ I h) λv s1 ⟨x,H1,I1,r1,q1⟩=>test_link (bq (hb pins s1 σ H1 _ I1 q1) λu s2 ⟨y,H2,I2,r2,q2⟩=>
  bq (ho pins s2 σ H2 x y v u _ I2 r1 r2 q2) λd s3 ⟨z,H3,I3,r3,k,e,q3⟩=>?_)) hm
 subst e;cases r3;refine wpAny_truthy_bool ?_
 cases k with
 |false=>
  obtain⟨k',e',q'⟩:=q3;cases e';exact ite_ff ⟨H3,I3,q'⟩
 |true=>
  refine ite_tt (test_last (bq (hc pins s3 σ H3 _ I3 q3) λw' s4 ⟨z',H4,I4,r4,q4⟩=>bq (ho' pins s4 σ H4 y z' u w' _ I4 r2 r4 q4) λd' s5 ⟨z2,H5,I5,r5,k2,e2,q5⟩=>?_));subst e2;cases r5;exact wpAny_truthy_bool ⟨H5,I5,q5⟩
noncomputable def xT(K:Km)(x:V)(H:Hp)(k:Bool):Prop:=
 match x with
 |.non=>k=false
 |.bl b=>k=b
 |.int i=>k=(i != 0)
 |.ref p=>(∃xs,SqL K H p xs/\k=!xs.isEmpty)\/(∃xs,SqT K H p xs/\k=!xs.isEmpty)\/False
 |_=>False
theorem jC{xs:List V}{its:List Value}(r:Vals xs its):(!its.toArray.isEmpty)=!xs.isEmpty:=by
 cases r<;>simp
theorem iq:(sizeLine:Nat)<2^63:=by rw[sizeLine_eq];decide
theorem fV:Hg X (λx H Q=>∃k,xT X.K x H k/\Q k H):=by
 intro pins s σ H x v Q I rx h;obtain⟨k,e,q⟩:=h;have hl:=iq;have hs:sizeLine=16777216:=sizeLine_eq
 cases x with
 |non=>
  cases rx;have e':k=false:=e;subst e';exact truthy_none ⟨H,I,q⟩
 |bl b=>
  cases rx;have e':k=b:=e;subst e';exact wpAny_truthy_bool ⟨H,I,q⟩
 |int i=>
  obtain⟨t,rfl⟩:=rx;have e':k=(i != 0):=e;subst e';exact PySem.P.truthy_int ⟨H,I,q⟩
 |ref p=>
  cases rx;have e':(∃xs,SqL X.K H p xs/\k=!xs.isEmpty)\/(∃xs,SqT X.K H p xs/\k=!xs.isEmpty)\/False:=e;rcases e' with⟨xs,hx,e'⟩|⟨xs,hx,e'⟩|z
  ·subst e';obtain⟨its,r,pl,hz⟩:=I.list hx;have hlen:=r.length;exact wpAny_truthy_list pl.isList (by simp only[Kv];lia) ⟨H,I.tok _,by rw[jC r];exact q⟩
  ·subst e';obtain⟨its,r,pl,hz⟩:=I.tuple hx;have hlen:=r.length;exact truthy_tuple pl (by simp only[Kv];lia) ⟨H,I.tok _,by rw[jC r];exact q⟩
  ·exact z.elim
 |_=>exact(show False from e).elim
theorem ue(ha:PE X a ta)(he:∀whole,isTrue a X.env whole=(do let v <- whole;standAt a.pos;holding [v] (truthy v))) :
  PT X a (λσ H Q=>ta σ H λx H'=>∃k,xT X.K x H' k/\Q k H'):=by
 intro pins s σ H Q I h;exact isTrue_plain (bq (ha pins s σ H _ I h) λv s1 ⟨x,H1,I1,r1,q1⟩=>fV pins s1 σ H1 x v Q I1 r1 q1) (he _)
theorem gA{x:V}(r:Vals [x] us):∃u,us=[u]/\RelV x u:=by
 cases r with
 |cons r1 r2=>cases r2;exact⟨_,rfl,r1⟩
theorem zV(r:Vals [x,y] us):∃u w',us=[u,w']/\RelV x u/\RelV y w':=by
 cases r with
 |cons r1 r2=>
  cases r2 with
  |cons r3 r4=>cases r4;exact⟨_,_,rfl,r1,r3⟩
theorem sr(hc:X.calm=true):eM X (.builtin "min") (λxs H Q=>∃i j,xs=[.int i,.int j]/\Q (.int (if j<i then j else i)) H):=by
 intro pins s σ H xs us Q I r h;obtain⟨i,j,rfl,q⟩:=h;obtain⟨u,w',rfl,⟨t,rfl⟩,⟨t',rfl⟩⟩:=zV r;refine min_two_ints (I.ok.hd hc) λh' tk k=>⟨_,H,I.kept k,?_,q⟩;by_cases hj:j<i
 ·rw[if_pos hj,if_pos hj];exact⟨_,rfl⟩
 ·rw[if_neg hj,if_neg hj];exact⟨_,rfl⟩
end
end L2
namespace L2
open PySem PySem.Spec PyProof.Rows
structure JO(h:Heap)(x dx C:Addr)(mA:Str->Option Value):Prop where
 obj:h.get? x=some (PySem.W.instObj C dx)
 ns:h.Ns1 dx mA
 ne:dx≠x
section
variable {prog:Program} {w:World} {A:Around} {E:Value->Shared->Prop} {s:Shared} {K:Km} {x dx C f:Addr} {mA:Str->Option Value} {name:Str} {v:Value}
end
noncomputable def putF(f:Str)(v:V):List (Str×V)->List (Str×V)
 |[]=>[(f,v)]
 |(g,x)::r=>if g=f then(g,v)::r else(g,x)::putF f v r
section
variable {P:Program} {w:World} {H H':Hp} {h h':Heap} {a C dx:Addr} {fs fs':List (Str×V)}
end
structure Hj(K:Km)(C:Addr):Prop where
 pg:PySem.W.plainGet K C Str.empty=true
 hd:PySem.W.hasDictIn K C=true
 po:PySem.W.plainOver K C=true
 sa:MK K (.ref C) "__setattr__" = some (some (.builtin "object.__setattr__"))
noncomputable def o8(K:Km)(C:Addr)(f:Str):Prop:=MK K (.ref C) f=some none
section
variable {X:Cx} {pins:List (Addr×Obj)} {σ:St} {H:Hp} {s:Shared} {a C dx:Addr} {fs:List (Str×V)} {f:Str} {v:V} {A:Around} {E:Value->Shared->Prop}
end
section
variable {X:Cx} {o e value:Expr} {f:Str} {pos pos' tpos:Pos} {ta tv:TE}
end
section
variable {X:Cx} {pins:List (Addr×Obj)} {σ:St} {H:Hp} {s:Shared} {A:Around} {E:Value->Shared->Prop} {Q:Value->Shared->Prop} {c:Value} {b:Bool}
inductive kC (K:Km) (H:Hp):V->Value->Prop where
 |non:kC K H .non (.type "NoneType")
 |bl (x:Bool):kC K H (.bl x) (.type "bool")
 |int (i:Int):kC K H (.int i) (.type "int")
 |str (x:Str):kC K H (.str x) (.type "str")
 |lst {a:Addr} {xs:List V} (e:H a=some (.lst xs)):kC K H (.ref a) (.type "list")
 |tup {a:Addr} {xs:List V} (e:H a=some (.tup xs)):kC K H (.ref a) (.type "tuple")
 |dK {a:Addr} {kvs:List (eP×V)} (e:H a=some (.dK kvs)):kC K H (.ref a) (.type "dict")
theorem su(I:Inv X pins σ H s)(rx:RelV x u)(ty:kC X.K H x t)(e:Ls X.K t c=some b)(h:∀tk,Q (.bool b) { s with toks:=tk }) :
  wpAny (model X.prog X.w) A (call (.builtin "isinstance") [u,c]) Q E s:=by
 cases ty with
 |non=>cases(show u=Value.none from rx);exact LH PySem.W.kitx_none I.kIn True.intro e (λz=>nomatch z) h
 |bl y=>cases(show u=Value.bool y from rx);exact LH PySem.W.kitx_bool I.kIn True.intro e (λz=>nomatch z) h
 |int i=>obtain⟨t,q⟩:=(show ∃t,u=Value.int i t from rx);cases q;exact LH PySem.W.kitx_int I.kIn True.intro e (λz=>nomatch z) h
 |str y=>obtain⟨t,q⟩:=(show ∃t,u=Value.str y t from rx);cases q;exact LH PySem.W.kitx_str I.kIn True.intro e (λz=>nomatch z) h
 |@lst a xs ea=>
  cases(show u=Value.ref a from rx);obtain⟨_,_,n,_,h1⟩:=(show ObjOk X.prog X.w H s.heap a (.lst xs) from I.hok a _ ea)
  exact LH PySem.W.kitx_list I.kIn ⟨_,h1,rfl⟩ e (λz=>nomatch z) h
 |@tup a xs ea=>
  cases(show u=Value.ref a from rx);obtain⟨_,_,_,p⟩:=(show ObjOk X.prog X.w H s.heap a (.tup xs) from I.hok a _ ea);obtain⟨o,h1,h2,_⟩:=p
  exact LH PySem.W.kitx_tuple I.kIn ⟨o,h1,h2⟩ e (λz=>nomatch z) h
 |@dK a kvs ea=>
  cases(show u=Value.ref a from rx);obtain⟨_,_,vs,_,p⟩:=(show ObjOk X.prog X.w H s.heap a (.dK kvs) from I.hok a _ ea);obtain⟨o,es,ep,h1,h2,_⟩:=p
  exact LH PySem.W.kitx_dict I.kIn ⟨o,h1,h2.1⟩ e (λz=>nomatch z) h
end
end L2
namespace L2
open PySem PySem.Spec PyProof.Rows
structure Room(k:Nat)(A:Around):Prop where
 hd:A.handled=none
 dp:A.depth+3*k+5<recursionLimit
 un:A.units+16*k+200<cLine
 gd:A.guards=some []
theorem Room.mono{j k:Nat}(r:Room k A)(h:j<=k):Room j A:=⟨r.hd,by have:=r.dp;lia,by have:=r.un;lia,r.gd⟩
theorem Room.deeper{k:Nat}{A:Around}(r:Room (k+1) A)(env:Env):Room k (A.deeper env):=
 ⟨r.hd,by have:=r.dp;show A.depth+1+3*k+5<_;lia,by have:=r.un;show A.units+3+16*k+200<_;lia,r.gd⟩
theorem Room.depth{k:Nat}{A:Around}(r:Room k A):A.depth<recursionLimit:=by have:=r.dp;lia
noncomputable def AV:TA:=λ_ H Q=>Q [] H
noncomputable def DL(ta:TE)(tr:TA):TA:=λσ H Q=>ta σ H λx H1=>tr σ H1 λxs H2=>Q (x::xs) H2
section
variable {X:Cx} {e:Expr} {es:List Expr} {te:TE} {t:TA} {pos:Pos}
theorem cF:PA X [] AV:=λ_ _ _ _ H Q I h=>Calls.spliced_nil ⟨[],H,I,.nil,h⟩
theorem a7(ha:PE X e te)(hr:PA X es t)(hs:starEach (e::es) X.env=(false,eval e X.env)::starEach es X.env:=by rfl):PA X (e::es) (DL te t):=by
 intro pos pins s σ H Q I h;rw[hs];show wpAny _ _ (spliced ((false,eval e X.env)::backTo pos (starEach es X.env))) _ _ s;refine Calls.spliced_cons (bq (ha pins s σ H _ I h) λu s1 ⟨x,H1,I1,r1,q1⟩=>?_);exact bq (hr pos pins s1 σ H1 _ I1 q1) λus s2 ⟨xs,H2,I2,r2,q2⟩=>⟨x::xs,H2,I2,.cons r1 r2,q2⟩
noncomputable def Hk(t:TA):TE:=λσ H Q=>t σ H λxs H1=>xs.length<=sizeLine/\∀p,H1 p=none->Q (.ref p) (upd H1 p (.tup xs))
noncomputable def Hl(t:TA):TE:=λσ H Q=>t σ H λxs H1=>xs.length<=sizeLine/\∀p,H1 p=none->Q (.ref p) (upd H1 p (.lst xs))
theorem lT{x1}(h:PA X es t):PE X (.Tuple es x1 pos) (Hk t):=by
 intro pins s σ H Q I hq;refine wpAny_Tuple_spliced (bq (h pos pins s σ H _ I hq) λus s1 ⟨xs,H1,I1,r,z,q⟩=>⟨by rw[<- r.length];exact z,?_⟩);have hf:H1 s1.heap.objs.size=none:=I1.hok.fresh (Kw _);refine⟨.ref s1.heap.objs.size,upd H1 s1.heap.objs.size (.tup xs),I1.laid (t':=s1.toks) (λb u e=>Kq _ e) (Kw _) ?_,rfl,q _ hf⟩;exact⟨z,us,r,⟨_,KB _ rfl,rfl,_,rfl⟩⟩
theorem uf(h:PA X es t):PE X (.List es pos) (Hl t):=by
 intro pins s σ H Q I hq;refine wpAny_List_spliced (bq (h pos pins s σ H _ I hq) λus s1 ⟨xs,H1,I1,r,z,q⟩=>⟨by rw[<- r.length];exact z,?_⟩);have hf:H1 s1.heap.objs.size=none:=I1.hok.fresh (Kw _);refine⟨.ref s1.heap.objs.size,upd H1 s1.heap.objs.size (.lst xs),I1.laid (t':=s1.toks) (λb u e=>Kq _ e) (Kw _) ?_,rfl,q _ hf⟩;exact⟨z,us,0,r,KB _ rfl⟩
end
noncomputable abbrev Sp:=List V->Hp->VK->XK->Prop
noncomputable abbrev sw:=List Env->Hp->Shared->XK->Value->Shared->Prop
structure xU(P:Program)(w:World)(K:Km)(mg:Str->Option Value)(base:Heap)(A:Around)(outer:List Env)(s:Shared)(H:Hp):Prop where
 frames:A.frames=some outer
 mod:Mod K mg base
 bs:∀b o,base.get? b=some o->s.heap.get? b=some o/\H b=none
 bsz:base.objs.size<=s.heap.objs.size
 funs:s.heap.FunFrames base outer
 frf:∀b∈tM outer,H b=none
 hok:HOk P w H s.heap
 bare:AllBare s.gens
noncomputable def CE(outer:List Env)(P:Program)(w:World)(H:Hp)(s:Shared)(Q:VK)(u:Value)(s':Shared):Prop:=
 ∃v H',s'.os=s.os/\AllBare s'.gens/\Un (tM outer) [] H H' s.heap s'.heap/\HOk P w H' s'.heap/\RelV v u/\Q v H'
noncomputable def CR(CX:sw)(outer:List Env)(P:Program)(w:World)(H:Hp)(s:Shared)(Q:VK)(E:XK)(r:Result)(s':Shared):Prop:=
 match r with
 |.ok (.ret u)=>CE outer P w H s Q u s'
 |.ok _=>False
 |.error e=>CX outer H s E e s'
structure FnOk(P:Program)(w:World)(K:Km)(mg:Str->Option Value)(base:Heap)(CX:sw)(k:Nat)(f:Addr)(fd:FuncData)(ps:List Str)(sp:Sp):Prop where
 len:∀vs H Q E,sp vs H Q E->vs.length=ps.length
 run:∀(A:Around) (outer:List Env) (s:Shared) (H:Hp) (args:Args) (us:List Value) (vs:List V) (Q:VK) (E:XK),Room k A->xU P w K mg base A outer s H->BindsTo s fd args (ps.zip us)->Vals vs us->sp vs H Q E->
  codeAny (model P w) A (.call (.ref f) args) (CR CX outer P w H s Q E) s
theorem FnOk.mono{P:Program}{w:World}{K:Km}{mg:Str->Option Value}{base:Heap}{CX:sw}{j k:Nat}{f:Addr}{fd:FuncData}{ps:List Str}{sp:Sp}(F:FnOk P w K mg base CX j f fd ps sp)(h:j<=k) :
  FnOk P w K mg base CX k f fd ps sp:=⟨F.len,λA outer s H args us vs Q E hr=>F.run A outer s H args us vs Q E (hr.mono h)⟩
theorem FnOk.imp{P:Program}{w:World}{K:Km}{mg:Str->Option Value}{base:Heap}{CX:sw}{k:Nat}{f:Addr}{fd:FuncData}{ps:List Str}{sp sp':Sp}(F:FnOk P w K mg base CX k f fd ps sp)
  (h:∀vs H Q E,sp' vs H Q E->sp vs H Q E):FnOk P w K mg base CX k f fd ps sp':=
 ⟨λvs H Q E q=>F.len vs H Q E (h _ _ _ _ q),λA outer s H args us vs Q E hr he hb hv hs=>F.run A outer s H args us vs Q E hr he hb hv (h _ _ _ _ hs)⟩
section
variable {X:Cx} {pins:List (Addr×Obj)} {σ:St} {H:Hp} {s s':Shared}
theorem Inv.env0(I:Inv X pins σ H s):xU X.prog X.w X.K X.mg X.base X.A X.stack s H:=
 ⟨I.ok.frames,I.ok.mod,I.bs,KN I.ok.bsz I.sz,I.stack,I.stkFree,I.hok,I.bare⟩
theorem Inv.after(I:Inv X pins σ H s)(h:CE X.stack X.prog X.w H s Q u s'):EP X pins σ Q u s':=by
 obtain⟨v,H',os,bare,un,hok,r,q⟩:=h;obtain⟨hh,g,d,t,os'⟩:=s';obtain rfl:os'=s.os:=os;exact⟨v,H',I.call (h':=hh) (g':=g) (d':=d) (t':=t) (ch:=[]) un hok bare (λb z=>absurd z (by simp)),r,q⟩
end
noncomputable def zW(sp:Sp)(dvs:List V)(E:XK)(t:TA):TE:=λσ H Q=>t σ H λvs H1=>sp (vs++dvs) H1 Q E
noncomputable def Binds(K:Km)(fd:FuncData)(ps:List Str)(ds:List Value):Prop:=
 ∀(s:Shared) (us:List Value),K.In s.heap->(us++ds).length=ps.length->BindsTo s fd ⟨us,[]⟩ (ps.zip (us++ds))
theorem Binds.all{K:Km}{fd:FuncData}{ps:List Str}(h:∀us:List Value,us.length=ps.length->bindArgs fd ⟨us,[]⟩=pure (ps.zip us)):Binds K fd ps []:=λs us _ hl=>by
 rw[Ly] at hl⊢;exact .of_eq (h us hl)
noncomputable def lU(CX:sw)(X:Cx)(E:XK):Prop:=∀(pins:List (Addr×Obj)) (σ:St) (H:Hp) (s:Shared) (e:Value) (s':Shared),Inv X pins σ H s->CX X.stack H s E e s'->X.xe e s'
section
variable {X:Cx} {CX:sw} {k:Nat} {f C:Addr} {fd:FuncData} {ps:List Str} {sp:Sp} {dvs:List V} {ds:List Value} {E:XK} {x m:Str} {p pos apos:Pos} {e o:Expr} {es:List Expr} {ta:TE} {t:TA}
theorem ug{vs:List V}(F:FnOk X.prog X.w X.K X.mg X.base CX k f fd ps sp)(hr:Room k X.A)(hb:Binds X.K fd ps ds)(hd:Vals dvs ds)(hx:lU CX X E)(I:Inv X pins σ H s)(r:Vals vs us)(h:sp (vs++dvs) H Q E):wpAny (model X.prog X.w) X.A (call (.ref f) us) (EP X pins σ Q) X.xe s:=by
 have r2:Vals (vs++dvs) (us++ds):=r.append hd;have hl:(us++ds).length=ps.length:=by rw[<- r2.length];exact F.len _ _ _ _ h
 refine wpAny_call (codeAny_mono (F.run X.A X.stack s H ⟨us,[]⟩ (us++ds) (vs++dvs) Q E hr I.env0 (hb s us I.kIn hl) r2 h) λr s' hq=>?_)
 cases r with
 |error e=>exact hx pins σ H s e s' I hq
 |ok fl=>
  cases fl with
  |ret u=>exact I.after hq
  |next=>exact False.elim hq
  |brk=>exact False.elim hq
  |cont=>exact False.elim hq
theorem qx(F:FnOk X.prog X.w X.K X.mg X.base CX k f fd ps sp)(hr:Room k X.A)(hg:Gl X x)(hm:X.mg x=some (.ref f))(hk:Lo X.K (.ref f)=true)(hb:Binds X.K fd ps ds)(hd:Vals dvs ds)(hx:lU CX X E)
  (ha:PA X (e::es) t) (hdb:(x==("__debug__":Str))=false:=by decide) (he:starEach (e::es) X.env=(false,eval e X.env)::starEach es X.env:=by rfl) (hpl:(backTo pos (starEach es X.env)).any (·.1)=false:=by rfl) :
  PE X (.Call (.Name x p) (e::es) [] pos) (zW sp dvs E t):=by
 intro pins s σ H Q I h;refine wpAny_Call_Name_kw (lQ I hg hm ?_ hdb);refine PySem.W.callWith_K (h₀:=X.base) I.ok.mod.kin hk (bq (ha pos pins s σ H _ I h) λus s1 ⟨vs,H1,I1,r,q⟩=>⟨I1.kIn,?_⟩) he hpl;exact ug F hr hb hd hx I1 r q
theorem uh(F:FnOk X.prog X.w X.K X.mg X.base CX k f fd ps sp)(hr:Room k X.A)(hg:Gl X x)(hm:X.mg x=some (.ref f))(hk:Lo X.K (.ref f)=true)(hb:Binds X.K fd ps ds)(hd:Vals dvs ds)(hx:lU CX X E)
  (hdb:(x==("__debug__":Str))=false:=by decide):PE X (.Call (.Name x p) [] [] pos) (zW sp dvs E AV):=by
 intro pins s σ H Q I h;refine wpAny_Call_Name_kw (lQ I hg hm ?_ hdb);exact PySem.W.callWith_K0 I.kIn hk (ug (us:=[]) F hr hb hd hx I .nil h)
structure Mk(K:Km)(C f:Addr):Prop where
 makes:PySem.W.makesIn K C=true
 init:MK K (.ref C) "__init__" = some (some (.ref f))
 fn:PySem.W.isFn K (.ref f)=true
 kp:Lo K (.ref C)=true
end
section
variable {X:Cx} {CX:sw} {k:Nat} {f C:Addr} {fd:FuncData} {ps ks:List Str} {sp:Sp} {E:XK} {x m:Str} {p pos apos kpos:Pos} {e o:Expr} {es:List Expr} {kws:List Keyword} {te ta:TE} {t tk:TA} {nm:Option Str}
structure Hm(K:Km)(fd:FuncData)(ps ks:List Str)(g:List Value->List Value->List Value)(gV:List V->List V->List V):Prop where
 to:∀(s:Shared) (us ws:List Value),K.In s.heap->(g us ws).length=ps.length->BindsTo s fd ⟨us,ks.zip ws⟩ (ps.zip (g us ws))
 rel:∀{vs:List V} {us:List Value} {zs:List V} {ws:List Value},Vals vs us->Vals zs ws->Vals (gV vs zs) (g us ws)
variable {g:List Value->List Value->List Value} {gV:List V->List V->List V}
end
structure am(N P:List Str)(sc:Scope):Prop where
 kind:sc.kind=.function
 co:sc.isCoroutine=false
 gen:sc.isGenerator=false
 nd:N.Nodup
 pre:N.take P.length=P
 par:∀x∈P,sc.names.lookup x=some .local\/sc.names.lookup x=some .cell
 nofree:∀y∈sc.names,y.2≠.free
theorem kX{kindOf:Str->Option NameKind}{x:Str}:∀{binds:List (Str×Value)} {m:Str->Option Value},(∀v,(x,v)∉binds)->bindL kindOf binds m x=m x
 |[],_,_=>rfl
 |(n,v)::r,m,h=>by
  unfold bindL;rw[kX λw hw=>h w (Kx _ hw)];split
  ·have:x≠n:=by rintro rfl;exact h v KF
   simp[this]
  ·rfl
theorem kY{kindOf:Str->Option NameKind}{x:Str}:∀{binds:List (Str×Value)} {m:Str->Option Value},(∀v,(x,v)∉binds)->bindC kindOf binds m x=m x
 |[],_,_=>rfl
 |(n,v)::r,m,h=>by
  unfold bindC;rw[kY λw hw=>h w (Kx _ hw)];split
  ·rfl
  ·have:x≠n:=by rintro rfl;exact h v KF
   simp[this]
theorem kZ{kindOf:Str->Option NameKind}{x:Str}{v:Value}:∀{P:List Str} {vs:List Value} {i:Nat} {m:Str->Option Value},P.Nodup->P[i]?=some x->vs[i]?=some v->kindOf x=some .local->
  bindL kindOf (P.zip vs) m x=some v
 |[],_,_,_,_,h,_,_=>by simp at h
 |_::_,[],_,_,_,_,h,_=>by simp at h
 |p::P,w::vs,0,m,nd,h1,h2,hk=>by
  simp at h1 h2;subst h1;subst h2;show bindL kindOf ((p,w)::P.zip vs) m p=_;unfold bindL;rw[kX λv hv=>(Li.mp nd).1 (My hv).1,if_pos hk];simp
 |p::P,w::vs,i+1,m,nd,h1,h2,hk=>by
  show bindL kindOf ((p,w)::P.zip vs) m x=_;unfold bindL;exact kZ (i:=i) (Li.mp nd).2 (by simpa using h1) (by simpa using h2) hk
theorem k4{kindOf:Str->Option NameKind}{x:Str}{v:Value}:∀{P:List Str} {vs:List Value} {i:Nat} {m:Str->Option Value},P.Nodup->P[i]?=some x->vs[i]?=some v->kindOf x≠some .local->
  bindC kindOf (P.zip vs) m x=some v
 |[],_,_,_,_,h,_,_=>by simp at h
 |_::_,[],_,_,_,_,h,_=>by simp at h
 |p::P,w::vs,0,m,nd,h1,h2,hk=>by
  simp at h1 h2;subst h1;subst h2;show bindC kindOf ((p,w)::P.zip vs) m p=_;unfold bindC;rw[kY λv hv=>(Li.mp nd).1 (My hv).1,if_neg hk];simp
 |p::P,w::vs,i+1,m,nd,h1,h2,hk=>by
  show bindC kindOf ((p,w)::P.zip vs) m x=_;unfold bindC;exact k4 (i:=i) (Li.mp nd).2 (by simpa using h1) (by simpa using h2) hk
noncomputable def cm(N:List Str)(vs:List V):St:=vs.map some++List.replicate (N.length-vs.length) none
noncomputable def nh(CX:sw)(P:Program)(w:World)(K:Km)(mg:Str->Option Value)(base:Heap)(N:List Str)(qual:Str)(scope:Scope)(f:Addr)(cd:Value)(A:Around)(outer:List Env)(s:Shared)(H:Hp)(E:XK):Cx where
 prog:=P
 w:=w
 K:=K
 mg:=mg
 base:=base
 A:=A.deeper (envOfC qual scope s.heap.objs.size f cd)
 N:=N
 s₀:=s
 H₀:=H
 env:=envOfC qual scope s.heap.objs.size f cd
 outer:=outer
 stack:=envOfC qual scope s.heap.objs.size f cd::outer
 ex:=[]
 calm:=true
 fn:=λ_=>true
 pn:=[]
 xe:=λe s'=>wpAny (model P w) (A.deeper (envOfC qual scope s.heap.objs.size f cd)) (leaving (envOfC qual scope s.heap.objs.size f cd) e) (λ_ s''=>CX outer H s E e s'') (λe' s''=>CX outer H s E e' s'') s'
theorem nj{sc:Scope}{n:Nat}{x:Str}(h:sc.names.lookup x=some .cell):∃c,(cellsFrom n sc.names []).lookup x=some c:=by
 have q:=MC sc.names n [] (.inl h);exact Option.isSome_iff_exists.mp q
theorem sA{CX:sw}{P:Program}{w:World}{K:Km}{mg:Str->Option Value}{base:Heap}{N ps:List Str}{qual:Str}{scope:Scope}{f:Addr}{cd:Value}{A:Around}{outer:List Env}{s s1:Shared}{H:Hp}{E:XK}{us:List Value}{vs:List V}
  (S:am N ps scope) (hd:A.handled=none) (e0:xU P w K mg base A outer s H) (hl:vs.length=ps.length) (r:Vals vs us)
  (x:InCallC s s.heap.objs.size (bindL (envOfC qual scope s.heap.objs.size f cd).kindOf (ps.zip us) λ_=>none) (cellsFrom (s.heap.objs.size+1) scope.names []) (bindC (envOfC qual scope s.heap.objs.size f cd).kindOf (ps.zip us) λ_=>none) s1) :
  Inv (nh CX P w K mg base N qual scope f cd A outer s H E) [] (cm N vs) H s1:=by
 have hpl:ps.length<=N.length:=by have:=congrArg LY S.pre;rw[La] at this;lia
 obtain⟨h1,tk,rfl,hk⟩:=x.done;have noA:∀b:Addr,b∉(nh CX P w K mg base N qual scope f cd A outer s H E).ex:=λb z=>absurd (show b∈([]:List Addr) from z) (by simp)
 refine⟨⟨e0.mod,S.kind,rfl,rfl,Kw _,λy z c h1 h2=>?_,λy hy=>?_,λy c _ h=>?_,λ_=>hd,Around.frames_deeper e0.frames,.inr ⟨rfl,rfl⟩,λb z=>absurd z (noA b),e0.bs,e0.bsz,λb _ _=>noA b,λb z=>absurd z (noA b),e0.funs,e0.frf⟩,
  rfl,e0.bare,Un.kept hk,⟨_,x.toInCall.ns,λi y v h1 h2 h3=>?_⟩,λy c h=>⟨_,x.cell y c h⟩,e0.hok.fresh (Kw _),λy c h=>?_,λp hp=>absurd (show p∈([]:List (Addr×Obj)) from hp) (by simp),e0.hok.kept hk,?_⟩
 ·exact name_of_addr x.apart (PySem.mem_of_lookup h1) (PySem.mem_of_lookup h2)
 ·have hy:scope.names.lookup y=some .cell\/scope.names.lookup y=some .free:=hy;rcases hy with hy|hy
  ·exact nj hy
  ·exact absurd rfl (S.nofree _ (PySem.mem_of_lookup hy))
 ·exact L4 (x.above y c (PySem.mem_of_lookup h))
 ·have hi:i<vs.length:=by
   unfold cm at h2;by_cases hi:i<vs.length
   ·exact hi
   ·rw[Mn (by simpa using hi)] at h2;rw[Mv] at h2
    split at h2<;>cases h2
  have ha:vs[i]?=some v:=by
   unfold cm at h2;rw[LZ (by simpa using hi),Kr] at h2
   cases e:vs[i]? with
   |none=>rw[e] at h2;cases h2
   |some a=>rw[e] at h2;cases h2;rfl
  obtain⟨u,hu,rv⟩:=r.get ha
  have hp:ps[i]?=some y:=by
   rw[<- S.pre,List.getElem?_take_of_lt (by lia)];exact h1
  have ndP:ps.Nodup:=by rw[<- S.pre];exact S.nd.sublist (Nb _ _)
  refine⟨u,rv,?_⟩;rcases S.par y (KP hp) with k|k
  ·exact .inl ⟨k,kZ ndP hp hu k⟩
  ·obtain⟨c,e⟩:=nj (n:=s.heap.objs.size+1) k;refine .inr ⟨.inl k,c,e,?_⟩;have q:=x.cell y c e;rw[k4 ndP hp hu (by show scope.names.lookup y≠_;rw[k];decide)] at q;exact q
 ·exact e0.hok.fresh (L4 (x.above y c (PySem.mem_of_lookup h)))
 ·unfold cm;show _=N.length;rw[K9,Kp,ML]
  lia
theorem DM{CX:sw}{P:Program}{w:World}{K:Km}{mg:Str->Option Value}{base:Heap}{k:Nat}{f:Addr}{name qual:Str}{params:Arguments}{body:List Stmt}{scope:Scope}{dV kV doc pm cdv ct oc:Value}{an od:Option Addr}
  {osl:Array (Option Value)} {N ps:List Str} {sp:Sp} (lk:K.lookup f=some ⟨oc,od,.func (LG name qual params body scope dV kV doc pm an cdv ct),osl⟩) (hcd:Mi K cdv qual=true) (S:am N ps scope)
  (len:∀vs H Q E,sp vs H Q E->vs.length=ps.length)
  (hbody:∀(A:Around) (outer:List Env) (s:Shared) (H:Hp) (vs:List V) (Q:VK) (E:XK),Room k (A.deeper (envOfC qual scope s.heap.objs.size f cdv))->sp vs H Q E->
   ∃t,PSs (nh CX P w K mg base N qual scope f cdv A outer s H E) body t/\t { nx:=λ_ H'=>Q .non H',rt:=Q } (cm N vs) H) :
  FnOk P w K mg base CX (k+1) f (LG name qual params body scope dV kV doc pm an cdv ct) ps sp:=by
 refine⟨len,λA outer s H args us vs Q E hr e0 hb r hsp=>?_⟩;have hl:=len _ _ _ _ hsp;have KX:K.In s.heap:=e0.mod.kin.keeps λb o e=>(e0.bs b o e).1;have lim:s.heap.NoLimit:=e0.mod.nolimit.keeps λb o e=>(e0.bs b o e).1
 have hkind:∀y∈ps.zip us,scope.names.lookup y.1=some .local\/(scope.names.lookup y.1=some .cell/\((cellsFrom (s.heap.objs.size+1) scope.names []).lookup y.1).isSome=true):=λ⟨n,v⟩ hy=>by
  rcases S.par n (My hy).1 with q|q
  ·exact .inl q
  ·exact .inr ⟨q,MC _ _ _ (.inl q)⟩
 refine codeAny_call_function hr.depth (KX _ _ lk) rfl S.co S.gen rfl (PySem.W.codeRec_of KX hcd) (hb _ _ _ _ ?_);refine wpAny_newFunctionEnv_cells S.kind hkind λenv he s1 x=>?_;subst he;refine⟨lim.keeps x.toInCall.keep,codeAny_func ?_⟩;obtain⟨t,ht,hq⟩:=hbody A outer s H vs Q E (hr.deeper _) hsp;have I:Inv (nh CX P w K mg base N qual scope f cdv A outer s H E) [] (cm N vs) H s1:=sA S hr.hd e0 hl r x;refine wpAny_mono (ht [] s1 (cm N vs) H _ I hq) (λfl s' hs=>?_) λe s' hs=>hs
 have fin:∀{σ':St} {H':Hp} {v:V} {u:Value},Inv (nh CX P w K mg base N qual scope f cdv A outer s H E) [] σ' H' s'->RelV v u->Q v H'->CE outer P w H s Q u s':=
  λ{σ' H' v u} J rv q=>⟨v,H',J.os,J.bare,J.base,J.hok,rv,q⟩
 cases fl with
 |ret u=>
  obtain⟨v,σ',H',J,rv,q⟩:=hs;exact fin J rv q
 |next=>
  obtain⟨σ',H',J,q⟩:=hs;exact fin (v:=V.non) (u:=Value.none) J rfl q
 |brk=>
  obtain⟨_,_,_,q⟩:=hs;exact False.elim q
 |cont=>
  obtain⟨_,_,_,q⟩:=hs;exact False.elim q
end L2
namespace L2
open PySem PySem.Spec PyProof.Rows
section
variable {X:Cx} {x:Str} {p pos:Pos} {e:Expr} {es:List Expr} {t:TA} {id T:String} {r:List V->Hp->VK->Prop}
noncomputable def Ju(r:List V->Hp->VK->Prop)(t:TA):TE:=λσ H Q=>t σ H λvs H1=>r vs H1 Q
theorem cn(hc:eM X (.builtin id) r)(hg:Gl X x)(hm:X.mg x=none)(hv:bootBuiltins x=some (.builtin id))(ha:PA X (e::es) t)(hn:x≠"__name__":=by decide)(hdb:(x==("__debug__":Str))=false:=by decide)
  (he:starEach (e::es) X.env=(false,eval e X.env)::starEach es X.env:=by rfl) (hpl:(backTo pos (starEach es X.env)).any (·.1)=false:=by rfl):PE X (.Call (.Name x p) (e::es) [] pos) (Ju r t):=by
 intro pins s σ H Q I h;refine wpAny_Call_Name_kw (cY I hg hm hv ?_ hn hdb);exact PyProof.Rows.callWith_builtin1 (bq (ha pos pins s σ H _ I h) λus s1 ⟨vs,H1,I1,r1,q1⟩=>hc pins s1 σ H1 vs us Q I1 r1 q1) he hpl
theorem dI(hc:eM X (.type T) r)(hg:Gl X x)(hm:X.mg x=none)(hv:bootBuiltins x=some (.type T))(ha:PA X (e::es) t)(hn:x≠"__name__":=by decide)(hdb:(x==("__debug__":Str))=false:=by decide)
  (he:starEach (e::es) X.env=(false,eval e X.env)::starEach es X.env:=by rfl) (hpl:(backTo pos (starEach es X.env)).any (·.1)=false:=by rfl):PE X (.Call (.Name x p) (e::es) [] pos) (Ju r t):=by
 intro pins s σ H Q I h;refine wpAny_Call_Name_kw (cY I hg hm hv ?_ hn hdb);exact PyProof.Rows.callWith_type1 (bq (ha pos pins s σ H _ I h) λus s1 ⟨vs,H1,I1,r1,q1⟩=>hc pins s1 σ H1 vs us Q I1 r1 q1) he hpl
end
end L2
namespace HT
open PySem PyProof.Rows
section
open PySem.SeqAt
open PySem.AutoSeq1 (wpAny_loadPart')
open PySem.MeetsSeq PySem.MeetsSeq2 PySem.MeetsSeq3
end
section
variable {prog:Program} {w:World} {A:Around} {E:Value->Shared->Prop} {s:Shared}
noncomputable def i6(n d:Nat):Option Int->Nat
 |none=>d
 |some v=>if v<0 then(v+(n:Int)).toNat else min v.toNat n
theorem dJ(n d:Nat):i6 n d none=d:=rfl
theorem ji(n d k:Nat):i6 n d (some (k:Int))=min k n:=by
 show(if(k:Int)<0 then((k:Int)+(n:Int)).toNat else min (k:Int).toNat n)=min k n
 rw[if_neg (by lia),Lh]
end
end HT
namespace L2
open PySem PySem.Spec PyProof.Rows
noncomputable abbrev TO:=St->Hp->(Option Int->Hp->Prop)->Prop
noncomputable def PO(X:Cx)(e:Option Expr)(t:TO):Prop:=
 ∀(pins:List (Addr×Obj)) (s:Shared) (σ:St) (H:Hp) (Q:Option Int->Hp->Prop),Inv X pins σ H s->t σ H Q->
  wpAny (model X.prog X.w) X.A (evalPart e X.env) (λu s'=>∃o H',Inv X pins σ H' s'/\IsPart u o/\Q o H') X.xe s
noncomputable def xV:TO:=λ_ H Q=>Q none H
noncomputable def DN(t:TE):TO:=λσ H Q=>t σ H λx H1=>∃i,x=.int i/\Q (some i) H1
section
variable {X:Cx} {e:Expr} {te:TE} {lo hi:Option Expr} {tl th:TO} {pos p2:Pos}
theorem qy:PO X none xV:=by
 intro pins s σ H Q I h;rw[evalPart_none];exact wpAny_pure ⟨none,H,I,.none,h⟩
theorem qz(h:PE X e te):PO X (some e) (DN te):=by
 intro pins s σ H Q I hw;rw[evalPart_some];refine bq (h pins s σ H _ I hw) λu s1 ⟨x,H1,I1,r1,q1⟩=>?_;obtain⟨i,rfl,q⟩:=q1;obtain⟨t,rfl⟩:=r1;exact⟨some i,H1,I1,.int i t,q⟩
noncomputable def Jv(X:Cx)(r:V->Option Int->Option Int->Hp->VK->Prop):Prop:=
 ∀(pins:List (Addr×Obj)) (s:Shared) (σ:St) (H:Hp) (x:V) (v vl vu:Value) (lo hi:Option Int) (sl:Addr) (Q:VK),Inv X pins σ H s->RelV x v->s.heap.IsSliceOf sl vl vu .none->IsPart vl lo->IsPart vu hi->r x lo hi H Q->
  ∃T id,typeLookup (.type T) "__getitem__" = pure (some (.builtin id))/\s.TypeIs v T/\wpAny (model X.prog X.w) X.A (getItem v (.ref sl)) (EP X pins σ Q) X.xe s
noncomputable def JP(r:V->Option Int->Option Int->Hp->VK->Prop)(te:TE)(tl th:TO):TE:=λσ H Q=>te σ H λx H1=>tl σ H1 λl H2=>th σ H2 λu H3=>r x l u H3 Q
theorem jD(hr:Jv X r)(he:PE X e te)(hl:PO X lo tl)(hu:PO X hi th):PE X (.Subscript e (.Slice lo hi none p2) pos) (JP r te tl th):=by
 intro pins s σ H Q I h;refine Subscript_ (bq (he pins s σ H _ I h) λv s1 ⟨x,H1,I1,r1,q1⟩=>?_);refine wpAny_Slice (bq (hl pins s1 σ H1 _ I1 q1) λvl s2 ⟨l,H2,I2,pl,q2⟩=>bq (hu pins s2 σ H2 _ I2 q2) λvu s3 ⟨u,H3,I3,pu,q3⟩=>?_);rw[evalPart_none];refine wpAny_pure ?_;have I4:Inv X pins σ H3 { s3 with heap:=s3.heap.push { cls:=.type "slice",data:=.fields #[vl,vu,.none] } }:=I3.kept (t':=s3.toks) λb ob q=>Kq _ q;obtain⟨T,id,hT,ht,hg⟩:=hr pins { s3 with heap:=s3.heap.push { cls:=.type "slice",data:=.fields #[vl,vu,.none] } } σ H3 x v vl vu l u s3.heap.objs.size Q I4 r1 (Heap.IsSliceOf.new ..) pl pu q3;show wpAny (model X.prog X.w) X.A (subscriptTail e (.Slice lo hi none p2) v (.ref s3.heap.objs.size)) (EP X pins σ Q) X.xe { s3 with heap:=s3.heap.push { cls:=.type "slice",data:=.fields #[vl,vu,.none] } };exact tail_any (ops:=[.ref s3.heap.objs.size,v]) ht hT hg (by with_unfolding_all rfl)
noncomputable def sB(xs:List V)(lo hi:Option Int):List V:=(xs.drop (HT.i6 xs.length 0 lo)).take (HT.i6 xs.length xs.length hi-HT.i6 xs.length 0 lo)
theorem nk(xs:List V)(lo hi:Option Int):(sB xs lo hi).length<=xs.length:=by
 unfold sB;rw[La,Ma]
 lia
end
end L2
namespace L2
open PySem PySem.Spec PyProof.Rows
noncomputable def ir(n:Nat)(i:Int):Option Nat:=if 0<=i then(if i<n then some i.toNat else none) else if -(n:Int)<=i then some (i+n).toNat else none
noncomputable def nq{α:Type}(xs:List α)(i:Int):Option α:=(ir xs.length i).bind λj=>xs[j]?
theorem lV{n:Nat}{i:Int}{j:Nat}(h:ir n i=some j):seqIndex? i n=some j/\j<n/\-(n:Int)<=i/\i<n:=by
 unfold ir at h;by_cases h0:0<=i
 ·rw[if_pos h0] at h;by_cases h1:i<n
  ·rw[if_pos h1] at h;have e:i.toNat=j:=Option.some.inj h;exact⟨by rw[seqIndex_of h0 h1,e],by lia,by lia,h1⟩
  ·rw[if_neg h1] at h;cases h
 ·rw[if_neg h0] at h;by_cases h1:-(n:Int)<=i
  ·rw[if_pos h1] at h;have e:(i+n).toNat=j:=Option.some.inj h;exact⟨by rw[seqIndex_neg (by lia) h1,e],by lia,h1,by lia⟩
  ·rw[if_neg h1] at h;cases h
theorem lW{α:Type}{xs:List α}{i:Int}{v:α}(h:nq xs i=some v):∃j,seqIndex? i xs.length=some j/\xs[j]?=some v/\j<xs.length/\-(xs.length:Int)<=i/\i<xs.length:=by
 unfold nq at h
 cases e:ir xs.length i with
 |none=>rw[e] at h;cases h
 |some j=>
  rw[e] at h;obtain⟨h1,h2,h3,h4⟩:=lV e;exact⟨j,h1,h,h2,h3,h4⟩
noncomputable def qA(b:Expr):Prop:=∀o i,subscripted b false o i=operate [o,i] (getItem o i)
noncomputable def IxR(X:Cx)(r:R2):Prop:=
 ∀(value slice:Expr) (pins:List (Addr×Obj)) (s:Shared) (σ:St) (H:Hp) (x y:V) (v u:Value) (Q:VK),Inv X pins σ H s->RelV x v->RelV y u->r x y H Q->
  subscripted slice false v u=operate [v,u] (getItem v u)->wpAny (model X.prog X.w) X.A (subscriptTail value slice v u) (EP X pins σ Q) X.xe s
noncomputable def Go(X:Cx)(id:String)(r:V->List V->Hp->VK->Prop):Prop:=
 ∀(pins:List (Addr×Obj)) (s:Shared) (σ:St) (H:Hp) (x:V) (xs:List V) (v:Value) (us:List Value) (Q:VK),Inv X pins σ H s->RelV x v->Vals xs us->r x xs H Q->
  wpAny (model X.prog X.w) X.A (call (.builtin id) (v::us)) (EP X pins σ Q) X.xe s
section
variable {X:Cx} {a b:Expr} {ta tb:TE} {pos:Pos}
theorem IxR.or{r r':R2}(h:IxR X r)(h':IxR X r'):IxR X (λx y H Q=>r x y H Q\/r' x y H Q):=by
 intro value slice pins s σ H x y v u Q I rx ry q hs;rcases q with q|q
 ·exact h value slice pins s σ H x y v u Q I rx ry q hs
 ·exact h' value slice pins s σ H x y v u Q I rx ry q hs
theorem qB(hr:IxR X r)(ha:PE X a ta)(hb:PE X b tb)(hs:qA b):PE X (.Subscript a b pos) (Gn r ta tb):=by
 intro pins s σ H Q I h;exact Subscript_ (AN ha hb I h λv u s2 x y H2 I2 rx ry q=>hr a b pins s2 σ H2 x y v u Q I2 rx ry q (hs _ _))
noncomputable def DO(K:Km):R2:=λx y H Q=>∃p xs i v,x=.ref p/\y=.int i/\SqL K H p xs/\nq xs i=some v/\Q v H
noncomputable def DP(K:Km):R2:=λx y H Q=>∃p xs i v,x=.ref p/\y=.int i/\SqT K H p xs/\nq xs i=some v/\Q v H
noncomputable def DQ:R2:=λx y H Q=>∃z i c,x=.str z/\y=.int i/\z.length<=sizeLine/\nq z.cps.toList i=some c/\Q (.str ⟨#[c]⟩) H
theorem ix_list:IxR X (DO X.K):=by
 intro value slice pins s σ H x y v u Q I rx ry h hs;obtain⟨p,xs,i,z,rfl,rfl,hq,he,q⟩:=h;cases rx;obtain⟨t,rfl⟩:=ry;obtain⟨its,r,pl,hz⟩:=I.list hq;obtain⟨j,h1,h2,h3,h4,h5⟩:=lW he;obtain⟨w,ew,rw'⟩:=r.get h2;have hl:=r.length;have hn:=iq;have fin:EP X pins σ Q w s:=⟨z,H,I,rw',q⟩;by_cases h0:0<=i
 ·have hj:i.toNat=j:=by
   rw[seqIndex_of h0 h5] at h1;exact Option.some.inj h1
  exact item_listR pl.isList h0 (by lia) (by rw[hj];simpa using ew) fin hs
 ·have hj:(i+(its.toArray.size:Int)).toNat=j:=by
   rw[seqIndex_neg (by lia) h4] at h1;rw[Kv,<- hl];exact Option.some.inj h1
  exact subscriptTail_builtinR (x:=w) pl.isList.typeIs slot_list_getitem.lookup
   (wpAny_getItem_list_neg (Q:=λr s'=>r=w/\EP X pins σ Q r s') pl.isList (by lia) (by rw[Kv]<;>lia) (by lia) (by rw[hj];simpa using ew) ⟨rfl,fin⟩) hs
theorem ix_tup:IxR X (DP X.K):=by
 intro value slice pins s σ H x y v u Q I rx ry h hs;obtain⟨p,xs,i,z,rfl,rfl,hq,he,q⟩:=h;cases rx;obtain⟨t,rfl⟩:=ry;obtain⟨its,r,pl,hz⟩:=I.tuple hq;obtain⟨j,h1,h2,h3,h4,h5⟩:=lW he;obtain⟨w,ew,rw'⟩:=r.get h2;have hl:=r.length;have hn:=iq;have fin:EP X pins σ Q w s:=⟨z,H,I,rw',q⟩;exact subscriptTail_builtinR (x:=w) pl.typeIs slot_tuple_getitem.lookup
  (getItem_tuple (j:=j) (Q:=λr s'=>r=w/\EP X pins σ Q r s') pl (by lia) (by lia) (by rw[Kv,<- hl];exact h1) (by simpa using ew) ⟨rfl,fin⟩) hs
theorem AW:IxR X DQ:=by
 intro value slice pins s σ H x y v u Q I rx ry h hs;obtain⟨z,i,c,rfl,rfl,hz,he,q⟩:=h;obtain⟨t,rfl⟩:=rx;obtain⟨t',rfl⟩:=ry;obtain⟨j,h1,h2,h3,h4,h5⟩:=lW he;have hl:z.cps.toList.length=z.length:=by simp[Str.length]
 rw[hl] at h1 h4 h5;have hn:=iq
 exact tail_any (typeIs_str s z t) slot_str_getitem.lookup (getItem_str (c:=c) (by
  have e1:decide (i < -(2^63:Int))=false:=decide_eq_false (by lia);have e2:decide (i ≥ 2^63)=false:=decide_eq_false (by lia);rw[e1,e2,MW]) (by rw[h1];simpa using h2) ⟨.str ⟨#[c]⟩,H,I.tok _,⟨_,rfl⟩,q⟩) hs
noncomputable def Jw(K:Km):R2:=λx y H Q=>DO K x y H Q\/DP K x y H Q\/DQ x y H Q
theorem lX:IxR X (Jw X.K):=ix_list.or (ix_tup.or AW)
theorem o9(its:List Value)(n j:Nat)(u:Value):Obj.mapSeq (·.setIfInBounds j u) { cls:=.type "list",data:=.seq its.toArray n }={ cls:=.type "list",data:=.seq (its.set j u).toArray n }:=by
 simp[Obj.mapSeq]
theorem Inv.lst{pins:List (Addr×Obj)}{σ:St}{H:Hp}{s:Shared}{p:Addr}{xs:List V}(I:Inv X pins σ H s)(h:H p=some (.lst xs)) :
  ∃(its:List Value) (n:Nat),Vals xs its/\s.heap.get? p=some { cls:=.type "list",data:=.seq its.toArray n }/\xs.length<=sizeLine:=by
 obtain⟨z,its,n,r,e⟩:=I.hok p _ h;exact⟨its,n,r,e,z⟩
theorem Inv.lstUpd{H:Hp}{s:Shared}{xs ys:List V}{its its':List Value}{n n':Nat}(I:Inv X pins σ H s)(h:H p=some (.lst xs))(ho:s.heap.get? p=some { cls:=.type "list",data:=.seq its.toArray n })(hf:f { cls:=.type "list",data:=.seq its.toArray n }={ cls:=.type "list",data:=.seq its'.toArray n' })(r:Vals ys its')(hz:ys.length<=sizeLine)(t:Nat) :
  Inv X pins σ (upd H p (.lst ys)) { s with heap:=s.heap.update p f,toks:=t }:=by
 have e:(s.heap.update p f).get? p=some { cls:=.type "list",data:=.seq its'.toArray n' }:=by
  rw[Lj f ho (by rw[hf]<;>rfl),hf]
 refine I.write (x:=p) (e:=p) (by rw[h];trivial) (.inl rfl) (λb u hb q=>(LC _ _ (Ne.symm hb)).trans q) ⟨_,e⟩ ?_;exact⟨hz,its',n',r,e⟩
noncomputable def DR:V->V->V->Hp->(Hp->Prop)->Prop:=λo i v H Q=>∃p xs k j,o=.ref p/\i=.int k/\H p=some (.lst xs)/\ir xs.length k=some j/\Q (upd H p (.lst (xs.set j v)))
theorem ui:Dy X DR:=by
 intro pins s σ H o i v ov iv u Q I ro ri rv h;obtain⟨p,xs,k,j,rfl,rfl,hp,hj,q⟩:=h;cases ro;obtain⟨t,rfl⟩:=ri;obtain⟨its,n,r,ho,hz⟩:=I.lst hp;obtain⟨h1,h2,h3,h4⟩:=lV hj;have hl:=r.length;have hn:=iq
 have I':Inv X pins σ (upd H p (.lst (xs.set j v))) { s with heap:=s.heap.update p (Obj.mapSeq (·.setIfInBounds j u)) }:=
  I.lstUpd hp ho (o9 its n j u) (r.set rv j) (by rw[List.length_set];exact hz) s.toks
 by_cases h0:0<=k
 ·have hk:k.toNat=j:=by
   rw[seqIndex_of h0 h4] at h1;exact Option.some.inj h1
  exact PySem.W.ki_setAt ho h0 (by lia) (by rw[Kv,<- hl];exact h4) (by rw[hk];exact⟨_,I',q⟩)
 ·have hk:(k+(its.toArray.size:Int)).toNat=j:=by
   rw[seqIndex_neg (by lia) h3] at h1;rw[Kv,<- hl];exact Option.some.inj h1
  exact PySem.W.ki_setBack ho (by lia) (by rw[Kv,<- hl];exact h3) (by lia) (by rw[hk];exact⟨_,I',q⟩)
theorem lY(lo hi:Option Int)(n:Nat):(sliceBounds lo hi none n).1=((HT.i6 n 0 lo:Nat):Int)/\(sliceBounds lo hi none n).2.1=((HT.i6 n n hi:Nat):Int)/\(sliceBounds lo hi none n).2.2=1:=by
 refine⟨?_,?_,rfl⟩
 ·cases lo with
  |none=>simp[sliceBounds,HT.i6]
  |some i=>
   simp only[sliceBounds,HT.i6,Mt,show(1:Int) > 0 by decide,if_true];by_cases h:i<0
   ·simp only[h,if_true]<;>lia
   ·simp only[h,if_false]<;>lia
 ·cases hi with
  |none=>simp[sliceBounds,HT.i6]
  |some i=>
   simp only[sliceBounds,HT.i6,Mt,show(1:Int) > 0 by decide,if_true];by_cases h:i<0
   ·simp only[h,if_true]<;>lia
   ·simp only[h,if_false]<;>lia
theorem kE(its:List Value)(lo hi:Option Int):slicePick its.toArray lo hi none=((its.drop (HT.i6 its.length 0 lo)).take (HT.i6 its.length its.length hi-HT.i6 its.length 0 lo)).toArray:=by
 obtain⟨h1,h2,h3⟩:=lY lo hi its.toArray.size;unfold slicePick;rw[h1,h2,h3]
 simp only[sliceRange_one,pick_run,Kv]<;>rfl
noncomputable def Hn(K:Km):V->Option Int->Option Int->Hp->VK->Prop:=λx lo hi H Q=>∃a xs,x=.ref a/\SqL K H a xs/\∀p,H p=none->Q (.ref p) (upd H p (.lst (sB xs lo hi)))
theorem lZ:Jv X (Hn X.K):=by
 intro pins s σ H x v vl vu lo hi sl Q I rx hs pl pu h;obtain⟨a,xs,rfl,hx,q⟩:=h;cases rx;obtain⟨its,r,ht,hz⟩:=I.list hx;have hlen:=r.length;refine⟨"list",_,slot_list_getitem.lookup,ht.isList.typeIs,?_⟩
 refine wpAny_getItem_list_slice ht.isList hs pl pu .none (by simp) ?_ (by rw[Kv]<;>lia)
 rw[kE,<- hlen];refine⟨.ref s.heap.objs.size,_,I.laid (t':=s.toks) (o:=.lst (sB xs lo hi)) (λb ob q=>Kq _ q) (Kw _) ?_,rfl,q _ (I.hok.fresh (Kw _))⟩;exact⟨KN (nk xs lo hi) hz,_,0,(r.drop (HT.i6 xs.length 0 lo)).take (HT.i6 xs.length xs.length hi-HT.i6 xs.length 0 lo),KB _ rfl⟩
theorem l0:eM X (.builtin "len") (λxs H Q=>∃p ys,xs=[.ref p]/\(SqL X.K H p ys\/SqT X.K H p ys)/\Q (.int ys.length) H):=by
 intro pins s σ H xs us Q I r h;obtain⟨p,ys,rfl,hq,q⟩:=h;obtain⟨u,rfl,rx⟩:=gA r;cases rx;have hn:=iq;rcases hq with hq|hq
 ·obtain⟨its,r',pl,hz⟩:=I.list hq;have hlen:=r'.length
  exact Calls.call_len_list pl.isList (by simp only[Kv]<;>lia) ⟨.int ys.length,H,I.tok _,⟨s.toks+1,by rw[Kv,hlen]⟩,q⟩
 ·obtain⟨its,r',pl,hz⟩:=I.tuple hq;have hlen:=r'.length
  exact len_tuple pl (by simp only[Kv]<;>lia) ⟨.int ys.length,H,I.tok _,⟨s.toks+1,by rw[Kv,hlen]⟩,q⟩
theorem d7:eM X (.type "list") (λxs H Q=>∃p ys,xs=[.ref p]/\(SqL X.K H p ys\/SqT X.K H p ys)/\∀l,H l=none->Q (.ref l) (upd H l (.lst ys))):=by
 intro pins s σ H xs us Q I r h;obtain⟨p,ys,rfl,hq,q⟩:=h;obtain⟨u,rfl,rx⟩:=gA r;cases rx
 have fin:∀(its:List Value),Vals ys its->ys.length<=sizeLine->∀(h':Heap) (c':Nat),(∀b o',s.heap.get? b=some o'->h'.get? b=some o')->
   h'.get? s.heap.objs.size=some { cls:=.type "list",dict:=none,data:=.seq its.toArray c',slots:=#[] }->EP X pins σ Q (.ref s.heap.objs.size) { s with heap:=h' }:=λits r' hz h' c' kp e=>
  ⟨.ref s.heap.objs.size,_,I.laid (t':=s.toks) kp (Kw _) (show ObjOk X.prog X.w _ h' _ (.lst ys) from⟨hz,its,c',r',e⟩),rfl,q _ (I.hok.fresh (Kw _))⟩
 rcases hq with hq|hq
 ·obtain⟨its,r',pl,hz⟩:=I.list hq;have hlen:=r'.length;obtain⟨o,ho,hc,n,hd⟩:=pl.isList
  exact call_list_seq p (.inl rfl) ho hc hd (λh' c' kp e=>fin its r' hz h' c' kp e) (by simp only[Kv]<;>lia)
 ·obtain⟨its,r',pl,hz⟩:=I.tuple hq;have hlen:=r'.length;obtain⟨o,ho,hc,n,hd⟩:=pl
  exact call_list_seq p (.inr rfl) ho hc hd (λh' c' kp e=>fin its r' hz h' c' kp e) (by simp only[Kv]<;>lia)
theorem kF:eM X (.type "tuple") (λxs H Q=>∃p ys,xs=[.ref p]/\((SqL X.K H p ys/\∀l,H l=none->Q (.ref l) (upd H l (.tup ys)))\/(SqT X.K H p ys/\Q (.ref p) H))):=by
 intro pins s σ H xs us Q I r h;obtain⟨p,ys,rfl,h⟩:=h;obtain⟨u,rfl,rx⟩:=gA r;cases rx;rcases h with⟨hq,q⟩|⟨hq,q⟩
 ·obtain⟨its,r',pl,hz⟩:=I.list hq;have hlen:=r'.length
  refine call_tuple_list pl.isList (λh' kp=>?_) (by simp only[Kv]<;>lia)
  have I1:Inv X pins σ H { s with heap:=h' }:=I.kept (t':=s.toks) kp
  have I2:Inv X pins σ (upd H h'.objs.size (.tup ys)) { s with heap:=h'.push { cls:=.type "tuple",data:=.seq its.toArray } }:=
   I1.laid (t':=s.toks) (λb o e=>Kq _ e) (Kw _) (show ObjOk X.prog X.w _ _ _ (.tup ys) from⟨hz,its,r',IsTup.new _ _⟩)
  exact⟨.ref h'.objs.size,_,I2,rfl,q _ (I1.hok.fresh (Kw _))⟩
 ·obtain⟨its,r',pl,hz⟩:=I.tuple hq;exact call_tuple_same pl ⟨.ref p,H,I,rfl,q⟩
noncomputable def Ho(K:Km)(T:String)(x:V)(H:Hp):Prop:=match x with
 |.ref p=>(T="list"/\∃xs,SqL K H p xs)\/False
 |_=>False
theorem uj{s:Shared}{T:String}(I:Inv X pins σ H s)(r:RelV x v)(ty:Ho X.K T x H) :
  s.TypeIs v T/\∀a,v=.ref a->∃ob,s.heap.get? a=some ob/\ob.dict=none:=by
 cases x with
 |ref p=>
  cases r;rcases ty with⟨rfl,xs,hq⟩|z
  ·obtain⟨its,_,pl,_⟩:=I.list hq;refine⟨pl.isList.typeIs,λa e=>?_⟩;cases e;obtain⟨o,n,e,c,hd,_⟩:=pl;exact⟨o,e,hd⟩
  ·exact z.elim
 |_=>exact False.elim ty
noncomputable def Hq(K:Km)(T:String)(r:V->List V->Hp->VK->Prop)(to:TE):TE:=λσ H Q=>to σ H λx H1=>Ho K T x H1/\r x [] H1 Q
noncomputable def JQ(K:Km)(T:String)(r:V->List V->Hp->VK->Prop)(to:TE)(t:TA):TE:=λσ H Q=>to σ H λx H1=>Ho K T x H1/\t σ H1 λxs H2=>r x xs H2 Q
variable {o e:Expr} {es:List Expr} {to:TE} {t:TA} {name:Str} {apos cpos:Pos} {T id:String} {r:V->List V->Hp->VK->Prop}
theorem AX(pa:PlainAttrs T)(slot:Slot T name id)(hty:typeOf (.builtin id)=pure (.type "method_descriptor"))(hm:Go X id r)(ho:PE X o to)
  (hbase:attributeBase o name X.env (eval o X.env)=eval o X.env:=by rfl) (hline:(apos.endLine==cpos.line)=true:=by rfl):PE X (.Call (.Attribute o name apos) [] [] cpos) (Hq X.K T r to):=by
 intro pins s σ H Q I h;refine wpAny_Call_method0_late hbase hline (bq (ho pins s σ H _ I h) λv s1 ⟨x,H1,I1,r1,ty,q1⟩=>?_);obtain⟨h1,h2⟩:=uj I1 r1 ty;exact⟨T,id,pa,slot,hty,h1,h2,Calls.callWith_builtin rfl (PySem.evalArgs_none (hm pins s1 σ H1 x [] v [] Q I1 r1 .nil q1))⟩
theorem uk(pa:PlainAttrs T)(slot:Slot T name id)(hty:typeOf (.builtin id)=pure (.type "method_descriptor"))(hm:Go X id r)(ho:PE X o to)(ha:PA X (e::es) t)
  (hbase:attributeBase o name X.env (eval o X.env)=eval o X.env:=by rfl)
  (hfew:((backTo cpos (starEach (e::es) X.env)).all (λx=>!x.1)&&(backToKw cpos (keywordEach [] X.env)).all (λx=>x.1.isSome)
   && decide ((e::es).length+([]:List Keyword).length+(if([]:List Keyword).isEmpty then 0 else 1)<30))=true:=by rfl)
  (hline:(apos.endLine==cpos.line)=true:=by rfl) (hs:starEach (e::es) X.env=(false,eval e X.env)::starEach es X.env:=by rfl) (hplain:(backTo cpos (starEach es X.env)).any (·.1)=false:=by rfl) :
  PE X (.Call (.Attribute o name apos) (e::es) [] cpos) (JQ X.K T r to t):=by
 intro pins s σ H Q I h;refine wpAny_Call_method_late hbase hfew hline rfl (bq (ho pins s σ H _ I h) λv s1 ⟨x,H1,I1,r1,ty,q1⟩=>?_);obtain⟨h1,h2⟩:=uj I1 r1 ty;refine⟨T,id,pa,slot,hty,h1,h2,?_⟩;have hA:=ha cpos pins s1 σ H1 _ I1 q1;rw[hs] at hA⊢
 refine Calls.callWith_builtin (by show(false||(backTo cpos (starEach es X.env)).any (·.1))=false;rw[hplain]<;>rfl) (Calls.evalArgs_plain ?_)
 exact bq hA λus s2 ⟨vs,H2,I2,r2,q2⟩=>hm pins s2 σ H2 x vs v us Q I2 r1 r2 q2
/- xs.append(e),list.index on a module's tuple .. are Go facts of 06m -/
end
end L2
namespace L2
open PySem PySem.Spec PyProof.Rows
noncomputable def Hr(X:Cx)(id:String)(r:V->List V->Hp->VK->Prop):Prop:=
 ∀(pins:List (Addr×Obj)) (s:Shared) (σ:St) (H:Hp) (x:V) (xs:List V) (v:Value) (us:List Value) (Q:VK),Inv X pins σ H s->RelV x v->Vals xs us->r x xs H Q->
  wpAny (model X.prog X.w) X.A (call (.builtin id) (v::us)) (EP X pins σ Q) X.xe s
theorem Vals.one:∀{x:V} {us:List Value},Vals [x] us->∃u,us=[u]/\RelV x u
 |_,_,.cons r .nil=>⟨_,rfl,r⟩
theorem Vals.two:∀{x y:V} {us:List Value},Vals [x,y] us->∃u v,us=[u,v]/\RelV x u/\RelV y v
 |_,_,_,.cons r (.cons q .nil)=>⟨_,_,rfl,r,q⟩
theorem Vals.eraseIdx:∀{xs:List V} {us:List Value} (i:Nat),Vals xs us->Vals (xs.eraseIdx i) (us.eraseIdx i)
 |_,_,_,.nil=>.nil
 |_,_,0,.cons _ t=>t
 |_,_,i+1,.cons r t=>.cons r (Vals.eraseIdx i t)
theorem k6{α:Type}:∀(l:List α) (i:Nat),(l.eraseIdx i).length<=l.length
 |[],_=>Kw _
 |_::_,0=>LD _
 |_::r,i+1=>Nat.succ_le_succ (k6 r i)
section
variable {X:Cx} {pins:List (Addr×Obj)} {σ:St} {H:Hp} {s:Shared} {l b:Addr} {xs ys zs:List V}
theorem Inv.lset{its its':List Value}{n:Nat}{f:Array Value->Array Value}{t':Nat}(I:Inv X pins σ H s)(hH:H l=some (.lst xs))
  (e:s.heap.get? l=some { cls:=.type "list",data:=.seq its.toArray n }) (hf:f its.toArray=its'.toArray) (hv:Vals ys its') (hz:ys.length<=sizeLine) :
  Inv X pins σ (upd H l (.lst ys)) { s with heap:=s.heap.update l (Obj.mapSeq f),toks:=t' }:=by
 have q:=PySem.IsL.update e f;rw[hf] at q;refine I.write (x:=l) (e:=l) (by rw[hH];exact trivial) (.inl rfl) (λb' u hb hu=>(LC s.heap (Obj.mapSeq f) (Ne.symm hb)).trans hu) ⟨_,q⟩ ?_;exact⟨hz,its',_,hv,q⟩
theorem Inv.lnew{its:List Value}{t':Nat}(I:Inv X pins σ H s)(hv:Vals ys its)(hz:ys.length<=sizeLine) :
  Inv X pins σ (upd H s.heap.objs.size (.lst ys)) { s with heap:=s.heap.push { cls:=.type "list",data:=.seq its.toArray },toks:=t' }:=
 I.laid (λ_ _ q=>Kq _ q) (Kw _) ⟨hz,its,0,hv,KB _ rfl⟩
theorem Inv.fresh(I:Inv X pins σ H s):H s.heap.objs.size=none:=I.hok.fresh (Kw _)
theorem Inv.lstM(I:Inv X pins σ H s)(hH:H l=some (.lst xs)):xs.length<=sizeLine/\∃(its:List Value) (n:Nat),Vals xs its/\xs.length=its.length/\s.heap.get? l=some { cls:=.type "list",data:=.seq its.toArray n }:=by
 obtain⟨z,its,n,r,e⟩:=I.hok l _ hH;exact⟨z,its,n,r,r.length,e⟩
theorem ul{n:Nat}(h:n<=sizeLine):Builtin.List.listTooLong n=false:=by
 unfold Builtin.List.listTooLong;exact decide_eq_false (by lia)
end
section
variable {X:Cx}
noncomputable def qC:V->List V->Hp->VK->Prop:=λx vs H Q=>∃l xs y,x=.ref l/\vs=[y]/\H l=some (.lst xs)/\xs.length<sizeLine/\Q .non (upd H l (.lst (xs++[y])))
theorem k7:Hr X "list.append" qC:=by
 intro pins s σ H x vs v us Q I rx rv h;obtain⟨l,xs,y,rfl,rfl,hH,hz,q⟩:=h;cases rx;obtain⟨u,rfl,ru⟩:=rv.one;obtain⟨z,its,n,r,hl,e⟩:=I.lstM hH;refine call_meets F.slot_list_append ⟨_,e,rfl⟩ F.entry_list_append (F.args_list_append_2 _ _) (PySem.list_append l its.toArray n u (by rw[Kv];lia)) ⟨e,?_⟩;refine⟨.non,_,I.lset (its':=its++[u]) hH e (by simp) (r.append (.cons ru .nil)) ?_,rfl,q⟩;rw[K9,List.length_singleton]
 lia
noncomputable def qD:V->List V->Hp->VK->Prop:=λx vs H Q=>∃l b xs zs,x=.ref l/\vs=[.ref b]/\H l=some (.lst xs)/\H b=some (.lst zs)/\xs.length+zs.length<=sizeLine/\Q .non (upd H l (.lst (xs++zs)))
noncomputable def um:V->List V->Hp->VK->Prop:=λx vs H Q=>∃l xs i k y,x=.ref l/\vs=[.int i]/\H l=some (.lst xs)/\-(2^63)<=i/\i<2^63/\seqIndex? i xs.length=some k/\xs[k]?=some y/\Q y (upd H l (.lst (xs.eraseIdx k)))
theorem uo:Hr X "list.pop" um:=by
 intro pins s σ H x vs v us Q I rx rv h;obtain⟨l,xs,i,k,y,rfl,rfl,hH,h1,h2,hk,hy,q⟩:=h;cases rx;obtain⟨u,rfl,ru⟩:=rv.one;obtain⟨t,rfl⟩:=ru;obtain⟨z,its,n,r,hl,e⟩:=I.lstM hH;obtain⟨w,hw,rw'⟩:=r.get hy;refine call_meets F.slot_list_pop ⟨_,e,rfl⟩ F.entry_list_pop (F.args_list_pop_2 _ _)
  (MeetsSeq.list_pop_at l its.toArray n i t k w (fitsIndex_both h1 h2) (by rw[Kv,<- hl];exact hk) (by rw[<- Lu];exact hw) (by rw[Kv];lia)) ⟨e,?_⟩
 refine⟨y,_,I.lset (its':=its.eraseIdx k) hH e ?_ (r.eraseIdx k) ?_,rw',q⟩
 ·show its.toArray.eraseIdxIfInBounds k=(its.eraseIdx k).toArray;rw[List.eraseIdxIfInBounds_toArray]
 ·have:=k6 xs k
  lia
noncomputable def Hs:R2:=λx y H Q=>∃l b xs zs,x=.ref l/\y=.ref b/\H l=some (.lst xs)/\H b=some (.lst zs)/\xs.length+zs.length<=sizeLine/\∀p,H p=none->Q (.ref p) (upd H p (.lst (xs++zs)))
theorem AY:i5 X (binaryOp .Add) Hs:=by
 intro pins s σ H x y v u Q I rx ry h;obtain⟨l,b,xs,zs,rfl,rfl,hH,hB,hz,q⟩:=h;cases rx;cases ry;obtain⟨z,its,n,r,hl,e⟩:=I.lstM hH;obtain⟨z2,its2,n2,r2,hl2,e2⟩:=I.lstM hB;refine PySem.P.add_list e e2 ?_ (by rw[Kv,Kv];lia);have ea:its.toArray++its2.toArray=(its++its2).toArray:=by simp
 rw[ea];exact⟨.ref _,_,I.lnew (t':=s.toks) (r.append r2) (by rw[K9];lia),rfl,q _ I.fresh⟩
end
section
variable {prog:Program} {w:World} {A:Around} {E:Value->Shared->Prop} {s:Shared}
end
section
variable {X:Cx}
end
end L2
namespace Att
open PySem PySem.W PySem.Calls PyProof.Rows
theorem i7:∀(ns:List Int) (vs:List Value),WellAll P h vs (ns.map WData.int)->IntsAre vs ns:=by
 intro ns
 induction ns with
 |nil=>
  intro vs w;rw[List.map_nil] at w;cases w;exact .nil
 |cons n ns ih=>
  intro vs w;rw[K6] at w
  cases w with
  |cons a b=>
   cases a;exact .cons _ _ (ih _ b)
theorem sC{l:OpenLaw}{n:Nat}(hn:l.most=some n){P:Params}{h:Heap}{args:List WData}{vals:List Value}
  (hpre:l.row.toRowW.claim.pre args=true) (hwl:WellAll P h vals args) :
  ∃a vs ns,vals=[Value.ref a]/\args=[WData.list (ns.map WData.int)]/\h.get? a=some { cls:=.type "list",data:=.seq vs.toArray }/\IntsAre vs ns/\ns.length<=n:=by
 have hsh:WShape.hasAll [] args [.list .int]=true:=(pre_splitW hpre).1;have hc:l.pre.holds [] { args:=args }=true:=(pre_splitW hpre).2;obtain⟨d,r,rfl,h1,h2⟩:=hasAllW_cons hsh;obtain rfl:=hasAllW_nil h2;obtain⟨xs,rfl,h3⟩:=hasW_list h1;obtain⟨ns,rfl⟩:=items_int h3
 have hlen:ns.length<=n:=by
  unfold OpenLaw.pre at hc
  have h4:(WTm.not (.lt (.lit (.int (n:Int))) (.len (.arg 0)))).holds [] { args:=[.list (ns.map .int)] }=true:=by
   have h4:=(holds_andW hc).1;rw[hn] at h4;exact h4
  have h5:=condW_of h4 (w_not (w_lt w_lit (w_len_list (w_arg rfl))));rw[Kp] at h5;refine Nat.le_of_not_lt λq=>?_;have q':(n:Int)<((ns.length:Nat):Int):=by lia
  first
   |(rw[decide_eq_true q'] at h5;exact absurd h5 (by decide))
   |(simp at h5;lia)
 cases hwl with
 |cons w1 w2=>
  cases w2
  cases w1 with
  |list ho hall=>exact⟨_,_,ns,rfl,rfl,ho,i7 ns _ hall,hlen⟩
theorem sD(l:OpenLaw)(args:List WData):l.row.toRowW.claim.post args (.bool true) args=true:=
 postW_of (r:=l.row.toRowW) (X:=(true==true))
  (show WShape.has [] (.bool true) .bool=true by first|rfl|decide|simp[WShape.has,WShape.arms,WShape.armsAll])
  (show(WTm.eq .res (.lit (.bool true))).value [] { args:=args,res:=some (.bool true),after:=args }=some (.bool (true==true)) from w_eq_bool (w_res rfl) w_lit) rfl
theorem nr{l:OpenLaw}{n:Nat}{YP:World->Heap->Prop}{d:DefRec}(hn:l.most=some n)(hdf:d.params.defaults=[])(call:∀(w:World) (s₀ s₁:Shared) (mg mb:Str->Option Value) (fa:Addr) (o:Obj) (pm cd doc:Value) (a:Addr) (vs:List Value) (ns:List Int),
   Ground q loose [] XP w s₀ mg mb s₁.heap->YP w s₁.heap->
   s₁.heap.get? fa=some o->o.data=.func (docDef d.name d.params d.body d.scope pm cd doc)->s₁.heap.CodeRec cd d.name->mg d.name=some (.ref fa)->
   s₁.heap.get? a=some { cls:=.type "list",data:=.seq vs.toArray }->IntsAre vs ns->ns.length<=n->s₁.gens=#[]->
   codeAny (model l.prog w) callerA (.call (.ref fa) ⟨[.ref a],[]⟩) (λr s'=>r=.ok (.ret (.bool true))/\OldK s₁.heap s'.heap/\s'.os=s₁.os/\AllBare s'.gens) s₁) :
  WalkO q loose XP YP l.row.toRowW d [] (λf vs=>PySem.call f vs):=by
 intro w s₀ s₁ mg mb G Y fa o pm cd doc dV kV ho hd hcd hD hmg hg args vals as hpre hlay hrd hwl hlo;obtain rfl:dV=.none:=Dflts.none hD hdf;obtain rfl:kV=.none:=Dflts.noKw hD;obtain⟨a,vs,ns,rfl,rfl,hobj,hints,hlen⟩:=sC hn hpre hwl;refine enter_call (codeAny_mono (call w s₀ s₁ mg mb fa o pm cd doc a vs ns G Y ho (fd_plain hd) hcd hmg hobj hints hlen hg) λr s' hq=>?_);obtain⟨rfl,h2,h3,h4⟩:=hq
 exact⟨.inl ⟨.bool true,.bool true,[],rfl,λ_=>rfl,.bool true,sD l _,λ_=>⟨List.Pairwise.nil,λ_ hm=>(nomatch hm)⟩⟩,h2,h3,h4⟩
section
variable {prog:Program} {w:World} {A:Around} {E:Value->Shared->Prop} {s:Shared} {K:Frag}
end
end Att
namespace L2
open PySem PySem.Spec PyProof.Rows
theorem dL:∀{vs:List Value} {ns:List Int},IntsAre vs ns->Vals (ns.map V.int) vs
 |_,_,.nil=>.nil
 |_,_,.cons n t h=>.cons ⟨t,rfl⟩ (dL h)
noncomputable def AZ(H:Hp):Prop:=∀b,H b=none\/∃o xs,H b=some (.frz o (.lst xs))
theorem uq{K:Km}{mg mb:Str->Option Value}{k:Nat}{x:Str}{s₁:Shared}{vs:List Value}{ns:List Int}(KX:K.In s₁.heap)(hns:s₁.heap.Ns mainGlobals mg)(hb:s₁.heap.Ns builtinsNs mb)(hbb:∀x:Str,x≠"__name__"->mb x=bootBuiltins x)(hlim:s₁.heap.NoLimit)(hg:s₁.gens=#[])(ha:s₁.heap.get? a=some { cls:=.type "list",data:=.seq vs.toArray })(hi:IntsAre vs ns)(hl:ns.length<=sizeLine)(hr:Room k callerA)(F:∀base:Heap,K.In base->base.Ns mainGlobals mg->FnOk P w K mg base CX k fa fd [x] sp)(hbind:∀(s:Shared) (u:Value),BindsTo s fd ⟨[u],[]⟩ [(x,u)])(hsp:∀H:Hp,AZ H->SqL K H a (ns.map V.int)->sp [.ref a] H (λv _=>v=.bl true) λ_ _ _=>False)(hCX:∀H e s',CX [] H s₁ (λ_ _ _=>False) e s'->False) :
  codeAny (model P w) callerA (.call (.ref fa) ⟨[.ref a],[]⟩) (λr s'=>r=.ok (.ret (.bool true))/\OldK s₁.heap s'.heap/\s'.os=s₁.os/\AllBare s'.gens) s₁:=by
 have rv:=dL hi;have lenV:=hi.length
 -- from an abstract heap in which nothing but the script may be tracked
 have core:∀H:Hp,AZ H->SqL K H a (ns.map V.int)->HOk P w H s₁.heap->(∀b,H b≠none->b=a)->(H a≠none->K.lookup a=none)->
   codeAny (model P w) callerA (.call (.ref fa) ⟨[.ref a],[]⟩) (λr s'=>r=.ok (.ret (.bool true))/\OldK s₁.heap s'.heap/\s'.os=s₁.os/\AllBare s'.gens) s₁:=by
  intro H hO hS hok hA hK;have base_of:∀{b:Addr} {o:Obj},s₁.heap.get? b=some o->H b=none->(lP s₁.heap H).get? b=some o:=λe n=>tV e n
  have noA:∀{b:Addr} {o:Obj} {es:Array DictEntry} {ep:Nat},s₁.heap.get? b=some o->o.data=.dict es ep->H b=none:=λ{b o es ep} e d=>by
   cases q:H b with
   |none=>rfl
   |some u=>
    have e':b=a:=hA b (by rw[q];simp);subst e';rw[ha] at e;cases e;have d':Data.seq vs.toArray _=Data.dict es ep:=d;cases d'
  have fI:∀{b:Addr} {m:Str->Option Value},s₁.heap.Ns b m->(lP s₁.heap H).Ns b m:=λ{b m} ⟨o,es,ep,e,d,r⟩=>⟨o,es,ep,base_of e (noA e d),d,r⟩
  have hKb:K.In (lP s₁.heap H):=λb o e=>base_of (KX b o e) (by
   cases q:H b with
   |none=>rfl
   |some u=>
    have e':b=a:=hA b (by rw[q];simp);subst e';rw[hK (by rw[q];simp)] at e;cases e)
  have hM:Mod K mg (lP s₁.heap H):=⟨hKb,fI hns,⟨mb,fI hb,hbb⟩,let ⟨mc,h1,h2⟩:=hlim;⟨mc,fI h1,h2⟩⟩;have e0:xU P w K mg (lP s₁.heap H) callerA [] s₁ H:=⟨rfl,hM,λb o e=>xI e,Nat.le_of_eq (r9 _ _),trivial,λb hb=>absurd (show b∈([]:List Addr) from hb) (by simp),hok,.of_eq hg⟩;refine codeAny_mono ((F _ hKb (fI hns)).run callerA [] s₁ H ⟨[.ref a],[]⟩ [.ref a] [.ref a] _ _ hr e0 (hbind s₁ (.ref a)) (.cons rfl .nil) (hsp H hO hS)) λr s' h=>?_
  cases r with
  |error e=>exact(hCX H e s' h).elim
  |ok fl=>
   cases fl with
   |next=>exact False.elim h
   |brk=>exact False.elim h
   |cont=>exact False.elim h
   |ret u=>
    obtain⟨v,H',os,bare,un,hok',r',q⟩:=h;have q':v=.bl true:=q;subst q';obtain rfl:u=Value.bool true:=r';refine⟨rfl,OldK.of_keep λb o e=>?_,os,bare⟩
    cases q:H b with
    |none=>exact un.keep b o e q (by intro z;exact absurd (show b∈([]:List Addr) from z) (by simp)) (by simp)
    |some u=>
     rcases hO b with z|⟨ob,xs,z⟩
     ·rw[q] at z;cases z
     ·have z2:=un.frzs b ob _ z;obtain⟨e1,_⟩:=hok b _ z;obtain⟨e2,_⟩:=hok' b _ z2;rw[e] at e1;cases e1;exact e2
 cases hk:K.lookup a with
 |some o=>
  -- the script is one of the module's own objects
  have e:=KX a o hk;rw[ha] at e;cases e;refine core (λ_=>none) (λ_=>.inl rfl) (.inr ⟨_,vs.toArray,_,hk,rfl,rfl,rfl,by rw[Kv,lenV];exact hl,by simpa using rv⟩) (λb u z=>by have z':(none:Option HO)=some u:=z;cases z') (λb z=>absurd rfl z) λz=>absurd rfl z
 |none=>
  refine core (λb=>if b=a then some (.frz { cls:=.type "list",data:=.seq vs.toArray } (.lst (ns.map V.int))) else none) (λb=>?_) (.inl (.inr ⟨{ cls:=.type "list",data:=.seq vs.toArray },if_pos rfl⟩)) (λb u z=>?_) (λb z=>?_) λ_=>hk
  ·by_cases hb:b=a
   ·exact .inr ⟨_,_,if_pos hb⟩
   ·exact .inl (if_neg hb)
  ·by_cases hb:b=a
   ·have z':=(if_pos hb).symm.trans z;cases z';subst hb;exact⟨ha,by rw[Kp];exact hl,vs,_,rv,ha⟩
   ·have z':=(if_neg hb).symm.trans z;cases z'
  ·by_cases hb:b=a
   ·exact hb
   ·exact absurd (if_neg hb) z
end L2
namespace L2
open PySem PySem.Spec PyProof.Rows
theorem xW{l:PySem.W.OpenLaw}{n k:Nat}{YP:World->Heap->Prop}{d:DefRec}{K:Params->Km}{CX:World->sw}{sp:World->Sp}{x:Str}(hn:l.most=some n)(hn2:n<=sizeLine)(hdf:d.params.defaults=[])(hr:Room k callerA)(hY:∀(w:World) (h:Heap),YP w h->(K w.params).In h)(F:∀(w:World) (mg:Str->Option Value) (fa:Addr) (h:Heap),(K w.params).In h->h.Ns mainGlobals mg->mg d.name=some (.ref fa)->
   ∃fd:FuncData,(∀(s:Shared) (u:Value),BindsTo s fd ⟨[u],[]⟩ [(x,u)])/\
    ∀base:Heap,(K w.params).In base->base.Ns mainGlobals mg->FnOk l.prog w (K w.params) mg base (CX w) k fa fd [x] (sp w))(hsp:∀(w:World) (H:Hp) (a:Addr) (ns:List Int),ns.length<=n->AZ H->SqL (K w.params) H a (ns.map V.int)->sp w [.ref a] H (λv _=>v=.bl true) λ_ _ _=>False)(hCX:∀(w:World) (H:Hp) (s:Shared) (e:Value) (s':Shared),CX w [] H s (λ_ _ _=>False) e s'->False) :
  PySem.W.WalkO q loose XP YP l.row.toRowW d [] (λf vs=>PySem.call f vs):=by
 refine Att.nr hn hdf λw s₀ s₁ mg mb fa o pm cd doc a vs ns G Y ho hd hcd hmg hobj hints hlen hg=>?_;have KX:=hY w _ Y;obtain⟨fd,hb,hF⟩:=F w mg fa _ KX G.T.g hmg;exact uq KX G.T.g G.T.b G.T.builtins G.T.nolimit hg hobj hints (KN hlen hn2) hr hF hb (λH hO hS=>hsp w H a ns hlen hO hS) λH e s'=>hCX w H s₁ e s'
end L2
namespace L2
open PySem PySem.Spec PyProof.Rows
noncomputable def du(s:Stmt):Arguments:=match s with
 |.FunctionDef _ a _ _ _ _ _ _ _ _=>a
 |_=>{ posonlyargs:=[],args:=[],vararg:=none,kwonlyargs:=[],kw_defaults:=[],kwarg:=none,defaults:=[] }
noncomputable def bH(s:Stmt):List Stmt:=match s with
 |.FunctionDef _ _ b _ _ _ _ _ _ _=>b
 |_=>[]
noncomputable def ab(s:Stmt):Scope:=match s with
 |.FunctionDef _ _ _ _ _ _ sc _ _ _=>sc
 |_=>{ kind:=.function,names:=[],isGenerator:=false,isCoroutine:=false }
noncomputable abbrev qE:sw:=λ_ _ _ _ _ _=>False
noncomputable abbrev E0:XK:=λ_ _ _=>False
theorem ur:lU qE X E0:=λ_ _ _ _ _ _ _ h=>h.elim
structure Fun(K:Km)(x qual:Str)(st:Stmt)(f:Addr)(fd:FuncData):Prop where
 ex:∃(oc:Value) (od:Option Addr) (kV doc pm:Value) (an:Option Addr) (cdv ct:Value) (osl:Array (Option Value)),
  fd=LG x qual (du st) (bH st) (ab st) .none kV doc pm an cdv ct/\K.lookup f=some ⟨oc,od,.func fd,osl⟩/\Mi K cdv qual=true
 kp:Lo K (.ref f)=true
section
variable {P:Program} {w:World} {K:Km} {mg:Str->Option Value} {base:Heap}
theorem Fun.ok{x qual:Str}{st:Stmt}{f:Addr}{fd:FuncData}{N ps:List Str}{k:Nat}{sp:Sp}(F:Fun K x qual st f fd)(S:am N ps (ab st))(len:∀vs H Q E,sp vs H Q E->vs.length=ps.length)
  (hbody:∀(cdv:Value) (A:Around) (outer:List Env) (s:Shared) (H:Hp) (vs:List V) (Q:VK) (E:XK),Room k (A.deeper (envOfC qual (ab st) s.heap.objs.size f cdv))->sp vs H Q E->
   ∃t,PSs (nh qE P w K mg base N qual (ab st) f cdv A outer s H E).nox (bH st) t/\t { nx:=λ_ H'=>Q .non H',rt:=Q } (cm N vs) H):FnOk P w K mg base qE (k+1) f fd ps sp:=by
 obtain⟨oc,od,kV,doc,pm,an,cdv,ct,osl,rfl,lk,hcd⟩:=F.ex;refine DM lk hcd S len λA outer s H vs Q E hr hsp=>?_;obtain⟨t,h,q⟩:=hbody cdv A outer s H vs Q E hr hsp;exact⟨t,h.nox,q⟩
theorem Fun.binds{x qual:Str}{st:Stmt}{f:Addr}{fd:FuncData}{ps:List Str}(F:Fun K x qual st f fd)
  (h:∀(kV doc pm:Value) (an:Option Addr) (cdv ct:Value) (us:List Value),us.length=ps.length->bindArgs (LG x qual (du st) (bH st) (ab st) .none kV doc pm an cdv ct) ⟨us,[]⟩=pure (ps.zip us)):Binds K fd ps []:=by
 obtain⟨oc,od,kV,doc,pm,an,cdv,ct,osl,rfl,lk,hcd⟩:=F.ex;exact .all (h kV doc pm an cdv ct)
theorem A0{x qual:Str}{st:Stmt}{f:Addr}{oc:Value}{od an:Option Addr}{osl:Array (Option Value)}{kV doc pm cdv ct:Value}(l:K.lookup f=some ⟨oc,od,.func (LG x qual (du st) (bH st) (ab st) .none kV doc pm an cdv ct),osl⟩)
  (c:Mi K cdv qual=true) (k:Lo K (.ref f)=true):Fun K x qual st f (LG x qual (du st) (bH st) (ab st) .none kV doc pm an cdv ct):=⟨⟨oc,od,kV,doc,pm,an,cdv,ct,osl,rfl,l,c⟩,k⟩
end
section
variable {X:Cx}
end
theorem ut{A B:Prop}(h:B):if false=true then A else B:=by
 rw[if_neg LF];exact h
theorem uu{A B:Prop}(h:A):if true=true then A else B:=by
 rw[if_pos rfl];exact h
noncomputable def Same(H H':Hp):Prop:=∀b o,H b=some o->H' b=some o
theorem Same.refl(H:Hp):Same H H:=λ_ _ h=>h
theorem Same.trans(a:Same H H1)(b:Same H1 H2):Same H H2:=λc o h=>b c o (a c o h)
theorem Same.free{H H':Hp}(e:Same H H'){l:Addr}(h:H' l=Option.none):H l=Option.none:=by
 cases q:H l with
 |none=>rfl
 |some o=>
  rw[e l o q] at h;cases h
end L2
namespace HT
open PySem PySem.Spec PyProof.Rows
section
variable {prog:Program} {w:World} {A:Around} {E:Value->Shared->Prop} {s:Shared}
end
end HT
namespace L2
open PySem PySem.Spec PyProof.Rows
section
variable {X:Cx}
end
end L2
namespace L2
open PySem PySem.Spec PyProof.Rows
section
variable {κ:Type} [DecidableEq κ]
end
section
variable {P:Program} {w:World} {H:Hp} {h:Heap} {a:Addr}
theorem DS(ok:HOk P w H h)(e:Rd H a u):ObjOk P w H h a u:=e.ok ok
theorem DT{kvs:List (eP×V)}(ok:HOk P w H h)(e:Rd H a (.dK kvs)):kvs.length<=sizeLine/\(a==sysModules)=false/\∃vs,KV kvs vs/\h.DictOf (gz P w) a vs:=
 show ObjOk P w H h a (.dK kvs) from DS ok e
theorem DU{kvs:List (eP×V)}(ok:HOk P w H h)(e:H a=some (.dK kvs)):kvs.length<=sizeLine/\(a==sysModules)=false/\∃vs,KV kvs vs/\h.DictOf (gz P w) a vs:=DT ok (.inl e)
end
section
variable {X:Cx} {pins:List (Addr×Obj)} {σ:St} {H:Hp} {s:Shared} {a:Addr} {y v:V} {u r:Value} {o:Option V} {A:Around} {E:Value->Shared->Prop}
theorem Inv.big(I:Inv X pins σ H s):sysModules<s.heap.objs.size:=by
 have h:mainGlobals<s.heap.objs.size:=(I.mod.glob.keeps I.bk).lt;exact Ll (by decide) h
end
section
variable {X:Cx} {pins:List (Addr×Obj)} {σ:St} {H:Hp} {s:Shared} {a:Addr} {kvs:List (eP×V)} {k:eP} {u:Value} {A:Around} {E:Value->Shared->Prop}
end
section
variable {X:Cx} {o i e value:Expr} {pos pos' tpos:Pos} {td ty tv:TE}
end
theorem uv(h:Heap)(hb:sysModules<h.objs.size):ObjOk P w H (h.push { cls:=.type "dict",data:=.dict #[] }) h.objs.size (.dK []):=
 ⟨K2 _,beq_eq_false_iff_ne.mpr (Ne.symm (KC hb)),[],.nil,Heap.DictOf.new h⟩
noncomputable def A1:TE:=λ_ H Q=>∀p,H p=none->Q (.ref p) (upd H p (.dK []))
section
variable {X:Cx} {pos:Pos}
theorem uw:PE X (.Dict [] [] pos) A1:=λpins s σ H Q I h=>
 wpAny_Dict_empty ⟨.ref s.heap.objs.size,_,I.laid (a:=s.heap.objs.size) (o:=.dK []) (t':=s.toks) (λ_ _ q=>Kq _ q) (Kw _) (uv s.heap I.big),rfl,h _ (I.hok.fresh (Kw _))⟩
end
structure M1(X:Cx)(o:Expr)(m:Str)(apos:Pos)(e:Expr)(cpos:Pos):Prop where
 base:attributeBase o m X.env (eval o X.env)=eval o X.env
 few:((backTo cpos (starEach [e] X.env)).all (λx=>!x.1)&&(backToKw cpos (keywordEach [] X.env)).all (λx=>x.1.isSome)
  && decide (([e]:List Expr).length+([]:List Keyword).length+(if([]:List Keyword).isEmpty then 0 else 1)<30))=true
 line:(apos.endLine==cpos.line)=true
 trees:backTo cpos (starEach [e] X.env)=[(false,eval e X.env)]
structure M2(X:Cx)(o:Expr)(m:Str)(apos:Pos)(e f:Expr)(cpos:Pos):Prop where
 base:attributeBase o m X.env (eval o X.env)=eval o X.env
 few:((backTo cpos (starEach [e,f] X.env)).all (λx=>!x.1)&&(backToKw cpos (keywordEach [] X.env)).all (λx=>x.1.isSome)
  && decide (([e,f]:List Expr).length+([]:List Keyword).length+(if([]:List Keyword).isEmpty then 0 else 1)<30))=true
 line:(apos.endLine==cpos.line)=true
 trees:backTo cpos (starEach [e,f] X.env)=[(false,eval e X.env),(false,eval f X.env)]
section
variable {X:Cx} {pins:List (Addr×Obj)} {σ:St} {H:Hp} {s:Shared} {a:Addr} {y d:V} {u r:Value} {o:Option V} {A:Around} {E:Value->Shared->Prop}
end
section
variable {X:Cx} {o e f:Expr} {apos cpos:Pos} {td ty tx:TE}
end
section
variable {X:Cx} {pins:List (Addr×Obj)} {σ:St} {H:Hp} {s:Shared} {a:Addr} {kvs:List (eP×V)} {A:Around} {E:Value->Shared->Prop}
end
section
variable {X:Cx} {pins:List (Addr×Obj)} {σ:St} {H:Hp} {s:Shared} {a:Addr} {y:V} {u:Value} {A:Around} {E:Value->Shared->Prop}
end
end L2
namespace L2
open PySem PySem.Spec PyProof.Rows
section
variable {prog:Program} {w:World} {A:Around} {E:Value->Shared->Prop} {s:Shared}
end
end L2
namespace L2
open PySem PySem.Spec PyProof.Rows
section
variable {prog:Program} {w:World} {K:Type} [DecidableEq K] {knd:HeapKind prog w K} {A:Around} {E:Value->Shared->Prop} {s:Shared} {d a:Addr} {k:K} {xs:List (K×Addr×Value)}
end
section
variable {X:Cx} {pins:List (Addr×Obj)} {σ:St} {H:Hp} {s:Shared} {a b:Addr} {m ep:Nat} {kvs:List (List (eP ⊕ List eP)×V)} {k:List (eP ⊕ List eP)} {v:V} {r:Value} {A:Around} {E:Value->Shared->Prop}
end
end L2
namespace L2
open PySem PySem.Spec PyProof.Rows
section
variable {prog:Program} {w:World} {A:Around} {E:Value->Shared->Prop} {s:Shared} {d:Addr}
end
end L2
namespace L2
open PySem PySem.Spec PyProof.Rows
section
variable {prog:Program} {w:World} {A:Around} {E:Value->Shared->Prop} {s:Shared} {d it:Addr} {o:Obj} {es:Array DictEntry} {ep i:Nat}
end
end L2
namespace L2
open PySem PySem.Spec PyProof.Rows
noncomputable def fW(cells:List (Str×Addr)):List (Str×NameKind)->List (Str×Addr)->List (Str×Addr)
 |[],acc=>acc
 |(n,k)::r,acc=>fW cells r (if k=.free then(match cells.lookup n with|some c=>(n,c)::acc|none=>acc) else acc)
theorem dM{cells:List (Str×Addr)}:∀{names:List (Str×NameKind)} {acc:List (Str×Addr)},(∀x c,acc.lookup x=some c->cells.lookup x=some c)->
  ∀x c,(fW cells names acc).lookup x=some c->cells.lookup x=some c
 |[],_,h=>h
 |(n,k)::r,acc,h=>by
  unfold fW;refine dM (names:=r) λx c=>?_;split
  ·cases e:cells.lookup n with
   |none=>exact h x c
   |some d=>
    dsimp only;intro q;rw[KL] at q
    cases hx:x==n with
    |true=>
     rw[hx] at q;have:x=n:=by simpa using hx
     subst this;cases q;exact e
    |false=>
     rw[hx] at q;exact h x c q
  ·exact h x c
theorem k8:∀{names:List (Str×NameKind)} {acc:List (Str×Addr)} {x:Str},(∃c,acc.lookup x=some c)->∃c,(fW cells names acc).lookup x=some c
 |[],_,_,h=>h
 |(n,k)::r,acc,x,h=>by
  unfold fW;refine k8 (names:=r) ?_;split
  ·cases e:cells.lookup n with
   |none=>exact h
   |some d=>
    dsimp only;rw[KL]
    cases x==n with
    |true=>exact⟨d,rfl⟩
    |false=>exact h
  ·exact h
theorem jE{cells:List (Str×Addr)}:∀{names:List (Str×NameKind)} {acc:List (Str×Addr)} {x:Str},(x,NameKind.free)∈names->(∃c,cells.lookup x=some c)->∃c,(fW cells names acc).lookup x=some c
 |(n,k)::r,acc,x,h,hc=>by
  unfold fW;rcases Ku.mp h with e|h
  ·cases e;obtain⟨c,hc⟩:=hc;refine k8 ⟨c,?_⟩;rw[if_pos rfl,hc];simp
  ·exact jE h hc
theorem kG{scope:Scope}{env:Env}(h:∀y∈scope.names,y.2=.free->∃c,env.cells.lookup y.1=some c):closureFor scope env=pure (fW env.cells scope.names []):=by
 have key:∀(names:List (Str×NameKind)) (acc:List (Str×Addr)),(∀y∈names,y.2=.free->∃c,env.cells.lookup y.1=some c)->
   (forIn names acc λ(x:Str×NameKind) (r:List (Str×Addr))=>(match x with|(name,kind)=>if(kind==.free)=true then do let a <- cellOf env name;pure (ForInStep.yield ((name,a)::r)) else pure (ForInStep.yield r):Sem (ForInStep (List (Str×Addr)))))=pure (fW env.cells names acc):=by
  intro names
  induction names with
  |nil=>intro acc _;rfl
  |cons y r ih=>
   intro acc hh;obtain⟨n,k⟩:=y;rw[List.forIn_cons];dsimp only;by_cases hk:k=.free
   ·obtain⟨c,hc⟩:=hh (n,k) KF hk;subst hk;have e:cellOf env n=pure c:=by unfold cellOf;rw[hc]
    rw[e];simp only[beq_self_eq_true,if_true,pure_bind];rw[ih _ λy hy=>hh y (Kx _ hy)]
    conv=>rhs;unfold fW
    rw[if_pos rfl];have hc':env.cells.lookup n=some c:=hc;rw[hc']
   ·have e:(k==NameKind.free)=false:=by simpa using hk
    rw[e];simp only[L5,if_false,pure_bind];rw[ih _ λy hy=>hh y (Kx _ hy)]
    conv=>rhs;unfold fW
    rw[if_neg hk]
 unfold closureFor;exact(congrArg (λm=>m >>= λr=>pure r) (key scope.names [] h)).trans (by simp)
theorem ci:∀(names:List (Str×NameKind)) (n:Nat) (acc:List (Str×Addr)),cellsFrom n names acc=cellsFrom n names []++acc
 |[],n,acc=>rfl
 |(x,k)::r,n,acc=>by
  unfold cellsFrom;split
  ·rw[ci r (n+1) ((x,n)::acc),ci r (n+1) [(x,n)],Nc];rfl
  ·exact ci r n acc
theorem uA{x:Str}{c:Addr}:∀{names:List (Str×NameKind)} {n:Nat} {acc:List (Str×Addr)},(cellsFrom n names acc).lookup x=some c->((x,NameKind.cell)∈names/\n<=c)\/acc.lookup x=some c
 |[],_,_,h=>.inr h
 |(y,k)::r,n,acc,h=>by
  unfold cellsFrom at h;split at h
  ·rename_i hk;have hk:k=.cell:=by simpa using hk
   subst hk;rcases uA h with⟨h1,h2⟩|h1
   ·exact .inl ⟨Kx _ h1,L6 h2⟩
   ·rw[KL] at h1
    cases hx:x==y with
    |true=>
     rw[hx] at h1;have:x=y:=by simpa using hx
     subst this;cases h1;exact .inl ⟨KF,Kw _⟩
    |false=>rw[hx] at h1;exact .inr h1
  ·rcases uA h with⟨h1,h2⟩|h1
   ·exact .inl ⟨Kx _ h1,h2⟩
   ·exact .inr h1
theorem pb{x:Str}:∀{names:List (Str×NameKind)} {n:Nat} {acc:List (Str×Addr)},(x,NameKind.cell)∉names->(cellsFrom n names acc).lookup x=acc.lookup x
 |[],_,_,_=>rfl
 |(y,k)::r,n,acc,h=>by
  unfold cellsFrom;have hr:(x,NameKind.cell)∉r:=λz=>h (Kx _ z);split
  ·rename_i hk;have hk:k=.cell:=by simpa using hk
   subst hk;rw[pb hr,KL]
   have:(x==y)=false:=by
    have:x≠y:=λz=>h (by rw[z];exact KF);simpa using this
   rw[this]
  ·exact pb hr
theorem l3{x:Str}:∀{names:List (Str×NameKind)} {n:Nat} {acc:List (Str×Addr)},((x,NameKind.cell)∈names\/∃c,acc.lookup x=some c)->∃c,(cellsFrom n names acc).lookup x=some c
 |[],_,_,h=>by
  rcases h with h|h
  ·simp at h
  ·exact h
 |(y,k)::r,n,acc,h=>by
  unfold cellsFrom;split
  ·rename_i hk;have hk:k=.cell:=by simpa using hk
   subst hk;refine l3 ?_;by_cases hx:x=y
   ·subst hx;exact .inr ⟨n,by rw[KL];simp⟩
   ·have e:(x==y)=false:=by simpa using hx
    rcases h with h|h
    ·rcases Ku.mp h with z|z
     ·exact absurd (by cases z;rfl) hx
     ·exact .inl z
    ·exact .inr (by rw[KL,e];exact h)
  ·rename_i hk;refine l3 ?_;rcases h with h|h
   ·rcases Ku.mp h with z|z
    ·exact absurd (by cases z;rfl) hk
    ·exact .inl z
   ·exact .inr h
theorem pc{x:Str}{m:Nat}:∀{names:List (Str×NameKind)} {n:Nat} {acc:List (Str×Addr)},((x,NameKind.cell)∈names\/∀c,acc.lookup x=some c->m<=c)->m<=n->∀c,(cellsFrom n names acc).lookup x=some c->m<=c
 |[],_,_,h,_,c,e=>by
  rcases h with h|h
  ·simp at h
  ·exact h c e
 |(y,k)::r,n,acc,h,hm,c,e=>by
  unfold cellsFrom at e;split at e
  ·rename_i hk;have hk:k=.cell:=by simpa using hk
   subst hk;refine pc ?_ (Nat.le_succ_of_le hm) c e;by_cases hx:x=y
   ·subst hx;refine .inr λc e=>?_;rw[KL] at e;simp at e;exact e▸hm
   ·have e2:(x==y)=false:=by simpa using hx
    rcases h with h|h
    ·rcases Ku.mp h with z|z
     ·exact absurd (by cases z;rfl) hx
     ·exact .inl z
    ·exact .inr (by intro c e;rw[KL,e2] at e;exact h c e)
  ·rename_i hk;refine pc ?_ hm c e;rcases h with h|h
   ·rcases Ku.mp h with z|z
    ·exact absurd (by cases z;rfl) hk
    ·exact .inl z
   ·exact .inr h
theorem pe:∀{names:List (Str×NameKind)} {n:Nat} {acc:List (Str×Addr)},(∀x c,acc.lookup x=some c->c<n)->(∀x y c,acc.lookup x=some c->acc.lookup y=some c->x=y)->∀x y c,(cellsFrom n names acc).lookup x=some c->(cellsFrom n names acc).lookup y=some c->x=y
 |[],_,_,_,h=>h
 |(z,k)::r,n,acc,hb,h=>by
  unfold cellsFrom;split
  ·refine pe (λx c e=>?_) λx y c e1 e2=>?_
   ·rw[KL] at e
    cases hx:x==z with
    |true=>rw[hx] at e;cases e;exact Lb _
    |false=>rw[hx] at e;exact K3 (hb x c e)
   ·rw[KL] at e1 e2
    cases hx:x==z with
    |true=>
     rw[hx] at e1;cases e1
     cases hy:y==z with
     |true=>rw[(by simpa using hx:x=z),(by simpa using hy:y=z)]
     |false=>rw[hy] at e2;exact absurd (hb y _ e2) (KZ _)
    |false=>
     rw[hx] at e1
     cases hy:y==z with
     |true=>rw[hy] at e2;cases e2;exact absurd (hb x _ e1) (KZ _)
     |false=>rw[hy] at e2;exact h x y c e1 e2
  ·exact pe hb h
noncomputable def Dc(cells:List (Str×Addr))(names:List (Str×NameKind))(C:Addr):List (Str×Addr):=cellsFrom (C+1) names (fW cells names [])
theorem uB{cells:List (Str×Addr)}{C:Addr}{x:Str}(h:(Dc cells names C).lookup x=some c):C+1<=c\/cells.lookup x=some c:=by
 rcases uA h with h|h
 ·exact .inl h.2
 ·exact .inr (dM (λ_ _ z=>by cases z) x c h)
theorem kH{s:Shared}{scope:Scope}{qual:Str}{Q:Env->Shared->Prop}(hQ:Q (newEnv scope s.heap.objs.size globals (cellsFrom (s.heap.objs.size+1) scope.names cl) qual none .none (some outer) builtinsNs) { s with heap:=pushCells (s.heap.push { cls:=.type "dict",data:=.dict #[] }) scope.names }) :
  wpAny M A (newFunctionEnv scope globals cl [] qual none .none (some outer)) Q E s:=by
 simp only[newFunctionEnv,Option.isSome_some,if_true];refine wpAny_bind (wpAny_alloc ?_)
 refine wpAny_bind (wpAny_layCells _ (λname kind cells=>by cases hkc:kind==NameKind.cell<;>simp[hkc]) _ _ _ _ ?_)
 rw[show({ s with heap:=s.heap.push { cls:=.type "dict",data:=.dict #[] } }:Shared).heap.objs.size=s.heap.objs.size+1 from Lv ..];rw[List.forIn_nil];exact wpAny_bind (wpAny_pure (wpAny_pure hQ))
noncomputable def aI(X:Cx)(N':List Str)(scope:Scope)(C:Addr)(s:Shared)(H:Hp)(ex:List Addr):Cx where
 prog:=X.prog
 w:=X.w
 K:=X.K
 mg:=X.mg
 base:=X.base
 A:=X.A
 N:=N'
 s₀:=s
 H₀:=H
 env:=compEnvC scope (Dc X.env.cells scope.names C) C X.env
 outer:=X.stack
 stack:=X.stack
 ex:=ex
 fn:=λx=>scope.names.lookup x==some .cell
 calm:=X.calm
 pn:=[]
 xe:=λ_ _=>False
theorem ca{α β:Type}[BEq α][LawfulBEq α]:∀{l:List (α×β)} {x:α} {y:β},l.lookup x=some y->(x,y)∈l
 |(a,b)::r,x,y,h=>by
  rw[KL] at h
  cases e:x==a with
  |true=>
   rw[e] at h;have:x=a:=by simpa using e
   subst this;cases h;exact KF
  |false=>
   rw[e] at h;exact Kx _ (ca h)
theorem jF{scope:Scope}{x:Str}(h:(relabel scope env).names.lookup x=some .cell\/(relabel scope env).names.lookup x=some .free):(x,NameKind.cell)∈scope.names\/(x,NameKind.free)∈scope.names:=by
 have key:∀k,(k=NameKind.cell\/k=NameKind.free)->(x,k)∈(relabel scope env).names->(x,NameKind.cell)∈scope.names\/(x,NameKind.free)∈scope.names:=λk hk hm=>by
  obtain⟨⟨n,k'⟩,hy,e⟩:=Lf.mp hm;dsimp only at e;split at e
  ·rename_i q
   have:k'=NameKind.free:=by
    simp only[Kn,beq_iff_eq] at q;exact q.1.1
   subst this;cases e;exact .inr hy
  ·cases e;rcases hk with rfl|rfl
   ·exact .inl hy
   ·exact .inr hy
 rcases h with h|h
 ·exact key _ (.inl rfl) (ca h)
 ·exact key _ (.inr rfl) (ca h)
section
variable {X:Cx} {pins:List (Addr×Obj)} {σ:St} {H:Hp} {s:Shared}
theorem uC(I:Inv X pins σ H s){fp:List Addr}{N':List Str}{scope:Scope}{C:Addr}(hf:∀b∈fp,jB X pins H b)(hfo:∀b∈fp,b<s.heap.objs.size)(hkind:scope.kind=.function)(hC:s.heap.objs.size<=C)
  (hfree:∀y∈scope.names,y.2=.free->X.env.kindOf y.1=some .cell\/X.env.kindOf y.1=some .free):(aI X N' scope C s H fp).Ok where
 mod:=I.ok.mod
 kind:=hkind
 glob:=I.ok.glob
 blt:=I.ok.blt
 above:=hC
 inj:=pe (λx c h=>by
   obtain⟨v,o,g,_⟩:=I.cell x c (dM (λ_ _ z=>by cases z) x c h);exact K3 (Kz (Ks g) hC)) λx y c h1 h2=>I.ok.inj x y c (dM (λ_ _ z=>by cases z) x c h1) (dM (λ_ _ z=>by cases z) y c h2)
 has:=λx hx=>by
  rcases jF hx with m|m
  ·exact l3 (.inl m)
  ·exact l3 (.inr (jE m (I.ok.has x (hfree _ m rfl))))
 cab:=λx c h e=>by
  have h:scope.names.lookup x=some .cell:=by simpa[aI] using h
  exact KN hC (L6 (pc (.inl (ca h)) (Kw _) c e))
 hd:=I.ok.hd
 frames:=I.ok.frames
 stk:=.inl rfl
 exf:=λb hb=>⟨KC (Kz (hfo b hb) hC),λx c h=>by
  rcases uB h with h|h
  ·exact Lx (Kz (K3 (Kz (hfo b hb) hC)) h)
  ·exact(hf b hb).2.2.2.2.1 x c h⟩
 bs:=I.bs
 bsz:=KN I.ok.bsz I.sz
 noex:=λb o e hb=>by
  obtain⟨_,_,_,h,_⟩:=hf b hb;rcases h with h|h
  ·exact I.ok.noex b o e h
  ·exact absurd (Kz (Ks e) (KN I.ok.bsz h)) (KZ _)
 exfs:=λb hb hz=>by
  obtain⟨_,h1,h2,_⟩:=hf b hb;rcases Ku.mp (I.stkSub b hz) with e|e
  ·exact h1 e
  ·exact h2 e
 funs:=I.stack
 frf:=I.stkFree
noncomputable def dv(σ:St)(cap:List (Option Nat)):St:=cap.map λo=>o.bind λi=>(σ[i]?).join
structure jG(X:Cx)(N':List Str)(scope:Scope)(cap:List (Option Nat)):Prop where
 kind:scope.kind=.function
 cell:∀y∈scope.names,y.2=.cell->scope.names.lookup y.1=some .cell
 names:∀y∈scope.names,y.2=.local->scope.names.lookup y.1=some .local
 free:∀y∈scope.names,y.2=.free->X.env.kindOf y.1=some .cell\/X.env.kindOf y.1=some .free
 len:cap.length=N'.length
 cap:∀(j i:Nat) (x:Str),N'[j]?=some x->cap[j]?=some (some i)->X.N[i]?=some x/\scope.names.lookup x=some .free/\(X.env.kindOf x=some .cell\/X.env.kindOf x=some .free)
theorem gB{scope:Scope}{env:Env}{x:Str}:∀{names:List (Str×NameKind)},names.lookup x=some .free->
  (names.map λ(n,k)=>if(k==NameKind.free&&env.scope.kind==.function&&env.kindOf n==some .cell) then(n,NameKind.cell) else(n,k)).lookup x=some .cell\/
  (names.map λ(n,k)=>if(k==NameKind.free&&env.scope.kind==.function&&env.kindOf n==some .cell) then(n,NameKind.cell) else(n,k)).lookup x=some .free
 |(n,k)::r,h=>by
  have ih:=@gB scope env x r
  show MD x ((if(k==NameKind.free&&env.scope.kind==.function&&env.kindOf n==some .cell)=true then(n,NameKind.cell) else(n,k))::_)=_\/MD x ((if(k==NameKind.free&&env.scope.kind==.function&&env.kindOf n==some .cell)=true then(n,NameKind.cell) else(n,k))::_)=_
  cases hx:x==n with
  |true=>
   simp only[KL,hx] at h;cases h;by_cases hc:(NameKind.free==NameKind.free&&env.scope.kind==.function&&env.kindOf n==some .cell)=true
   ·rw[if_pos hc];left;simp only[KL,hx]
   ·rw[if_neg hc];right;simp only[KL,hx]
  |false=>
   simp only[KL,hx] at h;by_cases hc:(k==NameKind.free&&env.scope.kind==.function&&env.kindOf n==some .cell)=true
   ·rw[if_pos hc];simp only[KL,hx];exact ih h
   ·rw[if_neg hc];simp only[KL,hx];exact ih h
theorem uD(I:Inv X pins σ H s){fp:List Addr}{N':List Str}{scope:Scope}{cap:List (Option Nat)}{C D:Addr}{h₁:Heap}{tk n:Nat}{m:Str->Option Value}(O:jG X N' scope cap)(hf:∀b∈fp,jB X pins H b)(hfo:∀b∈fp,b<s.heap.objs.size)
  (hC:s.heap.objs.size<=C) (hD:s.heap.objs.size<=D) (hDC:D<C) (hcs:∀x c,(cellsFrom (C+1) scope.names []).lookup x=some c->h₁.IsCell c none) (hn:h₁.Ns C m) (old:∀b o,s.heap.get? b=some o->h₁.get? b=some o)
  (new:h₁.get? D=some { cls:=.type "list",data:=.seq ([]:List Value).toArray n }) :
  Inv (aI X N' scope C s H fp) [] (dv σ cap) (upd H D (.lst [])) { s with heap:=h₁,toks:=tk }:=by
 have sub:∀x c,(fW X.env.cells scope.names []).lookup x=some c->X.env.cells.lookup x=some c:=dM (λ_ _ z=>by cases z)
 have offc:∀x,scope.names.lookup x=some .free->(Dc X.env.cells scope.names C).lookup x=(fW X.env.cells scope.names []).lookup x:=λx h=>pb λz=>by
  have:=O.cell _ z rfl;rw[h] at this;cases this
 refine⟨uC I hf hfo O.kind hC O.free,rfl,I.bare,Un.laid old hD (I.hok.fresh hD),⟨m,hn,λj x v h1 h2 h3=>?_⟩,λx c e=>?_,?_,λx c e=>?_,λp hp=>absurd hp (by simp[aI]),I.hok.laid old hD ⟨K2 _,[],n,.nil,new⟩,?_⟩
 ·have h2':(dv σ cap)[j]?=some (some v):=h2;unfold dv at h2';rw[Kr] at h2'
  cases hc:cap[j]? with
  |none=>rw[hc] at h2';cases h2'
  |some o=>
   rw[hc] at h2'
   cases o with
   |none=>cases h2'
   |some i=>
    have hv:(σ[i]?).join=some v:=by simpa using h2'
    have hv2:σ[i]?=some (some v):=by
     cases q:σ[i]? with
     |none=>rw[q] at hv;cases hv
     |some z=>rw[q] at hv;have:z=some v:=hv;rw[this]
    obtain⟨c1,c2,c3⟩:=O.cap j i x h1 hc;obtain⟨mo,hno,hl⟩:=I.loc;have vis:Du X.env.scope x:=c3.elim (λz=>.inr (.inl z)) λz=>.inr (.inr z);obtain⟨u,ru,l⟩:=hl i x v c1 hv2 vis;refine⟨u,ru,?_⟩;rcases l with⟨k,_⟩|⟨_,c,ec,ic⟩
    ·rcases c3 with z|z
     ·rw[z] at k;cases k
     ·rw[z] at k;cases k
    ·obtain⟨c',ec'⟩:=jE (cells:=X.env.cells) (acc:=[]) (ca c2) ⟨c,ec⟩;have e2:=sub x c' ec';rw[ec] at e2;cases e2;obtain⟨oc,hoc,hdc⟩:=ic;exact .inr ⟨gB (scope:=scope) c2,c,(offc x c2).trans ec',oc,old _ _ hoc,hdc⟩
 ·have e:(Dc X.env.cells scope.names C).lookup x=some c:=e;unfold Dc at e;rw[ci,List.lookup_append] at e
  cases q:(cellsFrom (C+1) scope.names []).lookup x with
  |some c'=>
   rw[q] at e;cases e;exact⟨none,hcs x _ q⟩
  |none=>
   rw[q] at e;obtain⟨v,oc,hoc,hdc⟩:=I.cell x c (sub x c e);exact⟨v,oc,old _ _ hoc,hdc⟩
 ·rw[show(aI X N' scope C s H fp).env.locals=C from rfl,aj (Ne.symm (KC hDC))];exact I.hok.fresh hC
 ·rcases uB e with e'|e'
  ·rw[aj (Lx (Ll hDC e'))];exact I.hok.fresh (KN hC (L6 e'))
  ·obtain⟨v,oc,hoc,hdc⟩:=I.cell x c e';rw[aj (KC (Kz (Ks hoc) hD))];exact I.freeC x c e'
 ·show(dv σ cap).length=N'.length;unfold dv;rw[Kp,O.len]
theorem nu(I:Inv X pins σ H s){fp:List Addr}{N':List Str}{scope:Scope}{C:Addr}{σ':St}{H':Hp}{s':Shared}{h':Heap}(hf:∀b∈fp,jB X pins H b)(J:Inv (aI X N' scope C s H fp) [] σ' H' s')(hsb:Heap.SameBut C s'.heap h') :
  Inv X pins σ H' { s' with heap:=h' }:=by
 have hC:s.heap.objs.size<=C:=J.ok.above;have neC:∀b o,s.heap.get? b=some o->b≠C:=λb o e=>KC (Kz (Ks e) hC);have U:Un (tM X.stack) fp H H' s.heap s'.heap:=J.base;refine I.call' (s':={ s' with heap:=h' }) (ch:=fp) (J.os) ⟨λb o e n h1 h2=>?_,λb o e n h1 h2=>?_,U.free,λb o e h2=>?_,U.tups,U.frzs,U.tbls⟩ (λb o e=>?_) J.bare λb hb=>?_
 ·exact(hsb.2 b (neC b o e)).trans (U.keep b o e n h1 h2)
 ·obtain⟨sl,q⟩:=U.slot b o e n h1 h2;exact⟨sl,(hsb.2 b (neC b o e)).trans q⟩
 ·obtain⟨o',q⟩:=U.there b o e h2;exact⟨o',(hsb.2 b (neC b o e)).trans q⟩
 ·have fr:H' C=none:=J.free;refine(J.hok b o e).stay (λc v hc q=>(hsb.2 c ?_).trans q) (λ_ q=>q) λ_ _ q=>q
  rintro rfl
  rcases hc with rfl|hc
  ·rw[fr] at e;cases e
  ·rw[fr] at hc;cases hc
 ·obtain⟨h0,h1,h2,h3,h4,h5⟩:=hf b hb;exact⟨h3,h1,h4,h5⟩
theorem l4{R:Result->Shared->Prop}{s:Shared}(I:Nat->Shared->Prop)(turn:∀n s,I n s->wpAny (model prog w) A (pyNext it) (λr s₁=>match r with
   |none=>R (.ok .next) s₁
   |some v=>wpAny (model prog w) A (letOwnedTupleGo target it v) (λ_ s₁'=>wpAny (model prog w) A (assign target env v) (λ_ s₂=>
     wpAny (model prog w) A (forIn ifs true λc r=>if r=true then do let ok <- isTrue c env (eval c env);pure (ForInStep.yield ok) else pure (ForInStep.yield r)) (λok s₃=>
      if ok=true then wpAny (model prog w) A (eval elt env) (λx s₄=>
       wpAny (model prog w) A (call (.builtin "list.append") [acc,x]) (λ_ s₅=>∃m,m<n/\I m s₅) (λ_ _=>False) s₄) (λ_ _=>False) s₃
      else ∃m,m<n/\I m s₃) (λ_ _=>False) s₂) (λ_ _=>False) s₁') (λ_ _=>False) s₁) (λ_ _=>False) s)(n:Nat)(h:I n s) :
  codeAny (model prog w) A (.compLoop (.ListComp elt [⟨target,iter,ifs,0⟩] scope pos) 0 it acc env) R s:=by
 refine codeAny_loop rfl I (λn s hI=>?_) n h;show wpAny _ A ((compTurn (.ListComp elt [⟨target,iter,ifs,0⟩] scope pos) 0 it acc env).onRaise (λx=>do noteFrame x env;theTreesLotGoes x)) _ _ s;refine wpAny_noted ?_;rw[compTurn_list];refine wpAny_bind (wpAny_standAt (wpAny_bind (wpAny_mono (turn n s hI) (λr s₁ h₁=>?_) λ_ _ h'=>h'.elim)))
 cases r with
 |none=>exact wpAny_pure h₁
 |some v=>
  refine wpAny_bind (wpAny_mono h₁ (λ_ s₁' h₁'=>?_) λ_ _ h'=>h'.elim);refine wpAny_bind (wpAny_mono h₁' (λ_ s₂ h₂=>wpAny_bind (wpAny_mono h₂ (λok s₃ h₃=>?_) λ_ _ h'=>h'.elim)) λ_ _ h'=>h'.elim)
  cases ok with
  |false=>exact wpAny_pure ⟨rfl,h₃⟩
  |true=>
   exact wpAny_bind (wpAny_bind (wpAny_mono h₃ (λx s₄ h₄=>wpAny_bind (wpAny_mono h₄ (λ_ s₅ h₅=>wpAny_pure (wpAny_pure ⟨rfl,h₅⟩)) λ_ _ h'=>h'.elim)) λ_ _ h'=>h'.elim))
end
end L2
namespace L2
open PySem PySem.Spec PyProof.Rows
section
variable {X:Cx} {pins:List (Addr×Obj)} {σ:List (Option V)} {H:Hp} {s:Shared} {h':Heap}
theorem Inv.junk(I:Inv X pins σ H s)(hs:Heap.SameBut C s.heap h')(h0:X.s₀.heap.objs.size<=C)(hL:X.env.locals≠C)(hc:∀x c,X.env.cells.lookup x=some c->c≠C)(hp:∀p∈X.pn++pins,p.1≠C)(hH:H C=none):Inv X pins σ H { s with heap:=h' }:=by
 have ne:∀b o,X.s₀.heap.get? b=some o->b≠C:=λb o e=>KC (Kz (Ks e) h0);obtain⟨m,hn,hl⟩:=id I.loc;refine⟨I.ok,I.os,I.bare,⟨λb o e n hb hx=>?_,λb o e n hb hx=>?_,I.base.free,λb o e hx=>?_,I.base.tups,I.base.frzs,I.base.tbls⟩,⟨m,hn.sameBut hs hL,λj y v' e1 e2 e3=>?_⟩,λy c e=>?_,I.free,I.freeC,λp hpp=>?_,λb ob e=>?_,I.len⟩
 ·exact(hs.2 b (ne b o e)).trans (I.base.keep b o e n hb hx)
 ·obtain⟨sl,e1⟩:=I.base.slot b o e n hb hx;exact⟨sl,(hs.2 b (ne b o e)).trans e1⟩
 ·obtain⟨o',e1⟩:=I.base.there b o e hx;exact⟨o',(hs.2 b (ne b o e)).trans e1⟩
 ·obtain⟨u',r',q⟩:=hl j y v' e1 e2 e3;refine⟨u',r',?_⟩;rcases q with⟨k,e⟩|⟨k,c,e,z⟩
  ·exact .inl ⟨k,e⟩
  ·refine .inr ⟨k,c,e,?_⟩;obtain⟨o,g,d⟩:=z;exact⟨o,(hs.2 c (hc y c e)).trans g,d⟩
 ·obtain⟨v,o,g,d⟩:=I.cell y c e;exact⟨v,o,(hs.2 c (hc y c e)).trans g,d⟩
 ·obtain⟨g,r⟩:=I.pin p hpp;exact⟨(hs.2 _ (hp p hpp)).trans g,r⟩
 ·refine(I.hok b ob e).stay (λc w' hcc q=>(hs.2 c ?_).trans q) (λ_ q=>q) λ_ _ q=>q
  rintro rfl
  rcases hcc with rfl|hcc
  ·rw[hH] at e;cases e
  ·rw[hH] at hcc;cases hcc
noncomputable def Ht(K:Km)(n:Nat)(t:t0):TG:=λv σ H Q=>∃a xs,v=.ref a/\SqL K H a xs/\xs.length=n/\t xs σ H Q
theorem A2{k:Nat}{n:Nat}(hc:X.calm=true)(h:AG X es t)(hn:(assignEach es X.env).length=n)(hst:(assignEach es X.env).findIdx? (·.1)=none):PG X (.Tuple es k pos) (Ht X.K n t):=by
 intro pins s σ H v u Q I r hw;obtain⟨a,xs,e1,hq,hl,hw⟩:=hw;subst e1;cases r;obtain⟨its,rv,ht,hz⟩:=I.list hq;rw[assign_Tuple];refine wpAny_bind (wpAny_standAt ?_);unfold unpack;rw[hst,show(assignEach es X.env).length=its.toArray.size by rw[hn,<- hl,rv.length,Kv]];refine wpAny_bind (wpAny_holding (PySem.W.kun_itemsOf (I.ok.hd hc) ht.isList λh' hx=>?_));have I1:Inv X pins σ H { s with heap:=h' }:=I.kept (t':=s.toks) λb o e=>hx b o (KC (Ks e)) e;exact h pins _ σ H xs _ Q I1 (by simpa using rv) hw
theorem iT(ns:List Int):∀j,j<=ns.length->PySem.preSum (λi=>(ns[i]?).getD 0) j=(ns.take j).sum
 |0,_=>by simp[PySem.preSum]
 |j+1,h=>by
  have ih:=iT ns j (by lia);show PySem.preSum (λi=>(ns[i]?).getD 0) j+(ns[j]?).getD 0=_;have e:ns.take (j+1)=ns.take j++[ns[j]]:=by rw[L7,Ko (by lia)];rfl
  rw[ih,e,List.sum_append,Ko (by lia)];simp
theorem fJ(hc:X.calm=true):eM X (.builtin "sum") (λxs H Q=>∃(p:Addr) (ns:List Int),xs=[.ref p]/\SqL X.K H p (ns.map V.int)/\Q (.int ns.sum) H):=by
 intro pins s σ H xs us Q I r h;obtain⟨p,ns,rfl,hq,q⟩:=h;obtain⟨u,rfl,rx⟩:=gA r;cases rx;obtain⟨its,rv,pl,hz⟩:=I.list hq;have hlen:=rv.length;have hh:X.A.in1.handled=none:=I.ok.hd hc
 have hnz:p≠s.heap.objs.size:=by
  obtain⟨o,n,e,_⟩:=pl;exact KC (Ks e)
 refine PySem.call_sum_walkAnyS (wpAny_pyIter_list pl.isList ?_)
 have hp:(s.heap.push { cls:=.type "list_iterator",data:=.fields #[.ref p,.int 0 0] }).IsList p its.toArray:=by
  obtain⟨o,e,r⟩:=pl.isList;exact⟨o,Kq _ e,r⟩
 refine⟨s.heap.objs.size,_,_,_,_,_,_,λi=>(ns[i]?).getD 0,rfl,(Walks.list hh s.heap.objs.size p hnz its.toArray).toS,⟨⟨_,KB _ rfl,rfl,rfl⟩,hp⟩,λb hb=>?_,λi v hP=>?_,λs' t' mv=>?_⟩
 ·show b<(s.heap.push _).objs.size;rw[Lv];rcases Ku.mp hb with rfl|hb
  ·exact Lb _
  ·rw[K0.mp hb];obtain⟨o,n,e,_⟩:=pl;exact K3 (Ks e)
 ·have hP':its[i]?=some v:=by simpa using hP
  cases hb:ns[i]? with
  |none=>
   have h1:(ns.map V.int)[i]?=none:=by rw[Kr,hb];rfl
   rw[rv.none_of h1] at hP';cases hP'
  |some b=>
   have h1:(ns.map V.int)[i]?=some (.int b):=by rw[Kr,hb];rfl
   obtain⟨u,e1,e2⟩:=rv.get h1;rw[hP'] at e1;cases e1;obtain⟨t,rfl⟩:=e2;refine⟨t,?_⟩;simp only[hb,Lq]
 ·obtain⟨h',g',d',t2,o'⟩:=s';obtain⟨m1,m2,m3,m4,m5⟩:=mv;have m2':g'=s.gens:=m2;have m3':d'=s.drawn:=m3;have m4':o'=s.os:=m4;subst m2' m3' m4';have hl:its.toArray.size=ns.length:=by rw[Kv,<- hlen,Kp]
  have e:PySem.preSum (λi=>(ns[i]?).getD 0) its.toArray.size=ns.sum:=by
   rw[hl,iT ns _ (Kw _),LM]
  rw[e];refine⟨.int ns.sum,H,I.kept (h':=h') (t':=t2) λb o eb=>m1 b o (λz=>?_) (Kq _ eb),⟨t',rfl⟩,q⟩;have:=Ks eb;rw[K0.mp z] at this;exact KZ _ this
end
end L2
namespace G
open PySem PySem.Spec PyProof.Rows L2
inductive D where
 |non|bl (b:Bool)|int (i:Int)|str (x:Str)|lst (xs:List D)|tup (xs:List D)|scr (ns:List Int)|dic (ks:List eP) (vs:List D)
noncomputable def DV(K:Km)(a:Addr)(xs:List V):Prop:=
 ∃(o:Obj) (its:Array Value) (n:Nat),K.lookup a=some o/\o.cls=.type "list"/\o.dict=none/\o.data=.seq its n/\its.size<=sizeLine/\Vals xs its.toList
mutual
noncomputable def Rp(K:Km)(H:Hp)(S:List Addr):D->V->Prop
 |.non,v=>v=.non
 |.bl b,v=>v=.bl b
 |.int i,v=>v=.int i
 |.str x,v=>v=.str x
 |.lst ds,v=>∃a xs,v=.ref a/\a∉S/\H a=some (.lst xs)/\RpL K H S ds xs
 |.tup ds,v=>∃a xs,v=.ref a/\a∉S/\H a=some (.tup xs)/\RpL K H S ds xs
 |.scr ns,v=>∃a,v=.ref a/\((a∉S/\Rd H a (.lst (ns.map V.int)))\/DV K a (ns.map V.int))
 |.dic ks vs,v=>∃a kvs,v=.ref a/\a∉S/\H a=some (.dK kvs)/\kvs.map (·.1)=ks/\RpL K H S vs (kvs.map (·.2))
noncomputable def RpL(K:Km)(H:Hp)(S:List Addr):List D->List V->Prop
 |[],xs=>xs=[]
 |d::ds,xs=>∃y ys,xs=y::ys/\Rp K H S d y/\RpL K H S ds ys
end
section
variable {K:Km} {H H':Hp} {S S':List Addr}
end
inductive Kd where
 |sh|fr|bo
 deriving DecidableEq
noncomputable def VR(K:Km)(H0 H:Hp)(S:List Addr):Kd->D->V->Prop
 |.sh,d,v=>Rp K H S d v
 |.fr,.lst ds,v=>∃a xs,v=.ref a/\H0 a=none/\H a=some (.lst xs)/\RpL K H (a::S) ds xs
 |.bo,.lst ds,v=>∃a xs,v=.ref a/\H a=some (.lst xs)/\RpL K H S ds xs
 |_,_,_=>False
section
variable {K:Km} {H0 H H':Hp} {S:List Addr}
end
end G
namespace G
open PySem PySem.Spec PyProof.Rows L2
section
variable {X:Cx}
section
variable {pins:List (Addr×Obj)} {s:Shared} {σ:L2.St} {H:Hp}
end
end
noncomputable def Gp(K:Km)(a:Addr):It:=
 ⟨λi H=>∃xs x,SqL K H a xs/\xs[i]?=some x,λi H x H'=>∃p v,H p=none/\H'=upd H p (.tup [.int i,v])/\x=.ref p/\∀xs,SqL K H a xs->xs[i]?=some v,λi H=>∃xs,SqL K H a xs/\xs.length<=i⟩
theorem sE{P:Program}{w:World}{K:Km}{es:List Expr}{kk:Nat}{tp:Pos}(a e it:Addr)(hne:e≠it):sg P w K (.Tuple es kk tp) (Gp K a) [e,it] e (λi h=>(∃old,IsEnum h e it ((i:Nat):Int) old)/\h.IsListIter it a i) where
 mem:=by simp
 obj:=λi h st b hb=>by
  obtain⟨⟨old,h1⟩,o,h2,h3,h4⟩:=st;rcases Ku.mp hb with rfl|hb
  ·exact⟨_,h1,λv z=>by
    have z':Data.fields _=Data.cell v:=z;cases z'⟩
  ·have:b=it:=by simpa using hb
   subst this;exact⟨o,h2,λv z=>by rw[h4] at z;cases z⟩
 keep:=λi h h' st k=>by
  obtain⟨⟨old,h1⟩,h2⟩:=st;exact⟨⟨old,k e (by simp) _ h1⟩,h2.at λo q=>k it (by simp) o q⟩
 item:=by
  intro X hP hw hK hc i pins s σ H E I hf st hg;subst hP hw hK;obtain⟨⟨old,he⟩,hit⟩:=st;obtain⟨xs,x,hq,hx⟩:=hg;obtain⟨its,rv,p,hz⟩:=I.list hq;obtain⟨u,hu,ru⟩:=rv.get hx;obtain⟨f0,f1,f2,f3,f4,f5⟩:=hf e (by simp);obtain⟨g0,g1,g2,g3,g4,g5⟩:=hf it (by simp);have hes:=Ks he;refine wpAny_pyNext_enum_item he hit p.isList (x:=u) (by simpa using hu) hne λh1 ho hit1 ht hs1 kk1=>?_;refine⟨_,rfl,wpAny_letOwnedTupleGo_enum ho λh2 he2 sb2=>?_⟩;have sb2':Heap.SameBut e h1 h2:=sb2;have step1:∀b o,b≠e->b≠it->s.heap.get? b=some o->h2.get? b=some o:=λb o n1 n2 q=>(sb2'.2 b n1).trans (kk1 b o n1 n2 q);have fr:=I.hok.fresh (Kw s.heap.objs.size);have htup:h2.get? s.heap.objs.size=some { cls:=.type "tuple",data:=.seq #[.int i s.toks,u] }:=(sb2'.2 _ (Lx hes)).trans ht
  have I1:Inv X pins σ (upd H s.heap.objs.size (.tup [.int i,x])) { s with heap:=h2,toks:=s.toks+1 }:=by
   have nit:∀b o,H b=some o->b≠e/\b≠it:=λb o q=>⟨(λz=>by rw[z,f0] at q;cases q),(λz=>by rw[z,g0] at q;cases q)⟩
   have hok':HOk X.prog X.w (upd H s.heap.objs.size (.tup [.int i,x])) h2:=λb o q=>by
    by_cases hb:b=s.heap.objs.size
    ·subst hb;rw[aE] at q;cases q;exact⟨(by show 2<=sizeLine;decide),[.int i s.toks,u],.cons ⟨_,rfl⟩ (.cons ru .nil),_,htup,rfl,_,rfl⟩
    ·rw[aj hb] at q;refine(I.hok b o q).stay (λc v hc' q'=>step1 c v ?_ ?_ q') (λc q'=>by rw[aj (aD q' fr)];exact q') λc ys q'=>by rw[aj (aD q' fr)];exact q'
     ·rcases hc' with rfl|hc'
      ·exact(nit _ _ q).1
      ·exact(nit _ _ hc').1
     ·rcases hc' with rfl|hc'
      ·exact(nit _ _ q).2
      ·exact(nit _ _ hc').2
   refine I.step (g':=s.gens) (d':=s.drawn) (t':=s.toks+1) (ch:=[e,it]) (λb hb=>?_) (λb o _ _ hcx q _=>step1 b o (λz=>hcx (by simp[z])) (λz=>hcx (by simp[z])) q)
    (λb o _ _ hcx q _=>⟨o.slots,step1 b o (λz=>hcx (by simp[z])) (λz=>hcx (by simp[z])) q⟩) (λb o hcx q n=>by rw[aj (KC (Ks q))];exact n)
    (λb o hcx q=>⟨o,step1 b o (λz=>hcx (by simp[z])) (λz=>hcx (by simp[z])) q⟩) (λb ys q=>by rw[aj (aD q fr)];exact q) (λb o z q=>by rw[aj (aD q fr)];exact q)
    (λb ps q=>⟨#[],by rw[aj (aD q fr),q];simp⟩) (λm hm=>?_) hok' I.bare
   ·rcases Ku.mp hb with rfl|hb
    ·exact⟨f3,f1,f4,f5⟩
    ·have:b=it:=by simpa using hb
     subst this;exact⟨g3,g1,g4,g5⟩
   ·obtain⟨o,es',ep,ho',r'⟩:=hm;exact⟨o,es',ep,step1 _ o (Ne.symm f1) (Ne.symm g1) ho',r'⟩
  refine⟨.ref s.heap.objs.size,_,I1,rfl,⟨s.heap.objs.size,x,fr,rfl,rfl,λys hy=>by rw[I.list_inj hy hq];exact hx⟩,⟨⟨u,by
    have:(((i+1:Nat):Int))=(i:Int)+1:=by lia
    rw[this];exact he2⟩,hit1.extBut sb2'.extBut (Ne.symm hne)⟩,λb hb=>?_⟩
  have hb0:=(hf b hb).1
  have hlt:b<s.heap.objs.size:=by
   rcases Ku.mp hb with rfl|hb
   ·exact hes
   ·have:b=it:=by simpa using hb
    subst this;obtain⟨o,q,_⟩:=hit;exact Ks q
  rw[aj (KC hlt)];exact hb0
 done:=by
  intro X hP hw hK hc i pins s σ H E I hf st hg;subst hP hw hK;obtain⟨⟨old,he⟩,hit⟩:=st;obtain⟨xs,hq,hx⟩:=hg;obtain⟨its,rv,p,hz⟩:=I.list hq;obtain⟨f0,f1,f2,f3,f4,f5⟩:=hf it (by simp);have hl:=rv.length;exact wpAny_pyNext_enum_end (I.ok.hd hc) he hit p.isList (by simp;lia) λh' eb=>⟨rfl,I.turned (t':=s.toks) (λb o hb q=>eb b o hb q) f0 f1 f3 f4 f5⟩
 self:=λ_ _ _ _ _ st h=>let ⟨_,q⟩:=st.1;wpAny_pyIter_enum q h
section
variable {X:Cx}
noncomputable def DW(K:Km)(ta:TA):TI:=λσ H R=>ta σ H λvs H1=>∃a,vs=[.ref a]/\(∃xs,SqL K H1 a xs)/\R (Gp K a) H1
theorem xX{a:Expr}{kk:Nat}(hg:Gl X "enumerate")(hm:X.mg "enumerate" = none)(ha:PA X [a] ta)(hs:starEach [a] X.env=[(false,eval a X.env)]) :
  PI X (.Tuple es kk tp) (.Call (.Name "enumerate" p) [a] [] pos) (DW X.K ta):=by
 intro pins s σ H R I h;refine Call_ (cY I hg hm boot_enumerate (PyProof.Rows.callWith_type1 (bq (ha pos pins s σ H _ I h) λus s1 ⟨vs,H1,I1,r1,q1⟩=>?_) hs rfl));obtain⟨l,e,⟨xs,hq⟩,q⟩:=q1;subst e;obtain⟨u,rfl,rx⟩:=gA r1;cases rx;obtain⟨its,rv,pl,hz⟩:=I1.list hq;refine call_enumerate_list pl.isList λh' he hit hsz hk=>?_;refine wpAny_pyIter_enum (s:={ s1 with heap:=h' }) he ?_;have I2:Inv X pins σ H1 { s1 with heap:=h' }:=I1.kept (t':=s1.toks) hk;refine⟨s1.heap.objs.size+1,[s1.heap.objs.size+1,s1.heap.objs.size],_,_,H1,rfl,I2,sE l _ _ (Lx (Lb _)),⟨⟨_,he⟩,hit⟩,λb hb=>?_,q⟩
 have hb':s1.heap.objs.size<=b:=by
  rcases Ku.mp hb with rfl|hb
  ·exact LD _
  ·have:b=s1.heap.objs.size:=by simpa using hb
   rw[this];exact Kw _
 exact I1.fpOk hb' (I1.hok.fresh hb')
end
end G
namespace G
open PySem PySem.Spec PyProof.Rows L2
open AutoSeq1 (wpAny_loadPart')
section
variable {prog:Program} {w:World} {A:Around} {E:Value->Shared->Prop} {s:Shared}
end
section
variable {X:Cx}
end
end G
namespace G
open PySem PySem.Spec PyProof.Rows L2
noncomputable def Hu(K:Km)(a b:Addr):It:=
 ⟨λi H=>∃xs ys x y,SqL K H a xs/\SqL K H b ys/\xs[i]?=some x/\ys[i]?=some y,λi H x H'=>∃p v u,H p=none/\H'=upd H p (.tup [v,u])/\x=.ref p/\(∀xs,SqL K H a xs->xs[i]?=some v)/\∀ys,SqL K H b ys->ys[i]?=some u,
  λi H=>∃xs ys,SqL K H a xs/\SqL K H b ys/\(xs.length<=i\/ys.length<=i)⟩
theorem k9{h:Heap}{z TI TO i1 i2 l a b:Addr}{us:Array Value}{x y:Value}{i j:Nat}(hl:h.IsList l us)(hz:IsZip h z TI TO .none)(hTI:IsPair h TI (.ref i1) (.ref i2))(hTO:IsPair h TO x y)(h1:h.IsListIter i1 a i)(h2:h.IsListIter i2 b j):∀c∈[z,TI,TO,i1,i2],l≠c:=λc hc e=>by
 subst e;obtain⟨o,q,q1,_⟩:=hl;simp only[Ku,KO,or_false] at hc;rcases hc with rfl|rfl|rfl|rfl|rfl
 ·rw[hz] at q;cases q;exact absurd (show Value.type "zip" = .type "list" from q1) (by decide)
 ·rw[hTI] at q;cases q;exact absurd (show Value.type "tuple" = .type "list" from q1) (by decide)
 ·rw[hTO] at q;cases q;exact absurd (show Value.type "tuple" = .type "list" from q1) (by decide)
 ·obtain⟨o2,r,r1,_⟩:=h1;rw[r] at q;cases q;rw[r1] at q1;exact absurd q1 (by decide)
 ·obtain⟨o2,r,r1,_⟩:=h2;rw[r] at q;cases q;rw[r1] at q1;exact absurd q1 (by decide)
theorem zX{h:Heap}{z TI TO i1 i2 a b:Addr}{us vs:Array Value}{x y:Value}{i j:Nat}(nd:[z,TI,TO,i1,i2].Nodup)(hl:h.IsList a us)(hl2:h.IsList b vs)(hz:IsZip h z TI TO .none)(hTI:IsPair h TI (.ref i1) (.ref i2))(hTO:IsPair h TO x y)(h1:h.IsListIter i1 a i)(h2:h.IsListIter i2 b j):ZipApart z TI TO i1 i2 a b:=by
 have n1:=k9 hl hz hTI hTO h1 h2;have n2:=k9 hl2 hz hTI hTO h1 h2;simp only[Li,Ku,KO,or_false,not_or,List.nodup_nil,and_true,not_false_iff] at nd;obtain⟨⟨a1,a2,a3,a4⟩,⟨b1,b2,b3⟩,⟨c1,c2⟩,d1⟩:=nd;exact⟨Ne.symm a1,Ne.symm a2,Ne.symm a3,Ne.symm a4,b1,b2,b3,c1,c2,d1,n1 _ (by simp),n1 _ (by simp),n1 _ (by simp),n1 _ (by simp),n2 _ (by simp),n2 _ (by simp),n2 _ (by simp),n2 _ (by simp)⟩
theorem uE{P:Program}{w:World}{K:Km}{es:List Expr}{kk:Nat}{tp:Pos}(a b z TI TO i1 i2:Addr)(nd:[z,TI,TO,i1,i2].Nodup):sg P w K (.Tuple es kk tp) (Hu K a b) [z,TI,TO,i1,i2] z (λi h=>IsZip h z TI TO .none/\IsPair h TI (.ref i1) (.ref i2)/\(∃x y,IsPair h TO x y)/\h.IsListIter i1 a i/\h.IsListIter i2 b i) where
 mem:=by simp
 obj:=λi h st c hc=>by
  obtain⟨h1,h2,⟨x,y,h3⟩,⟨o4,h4,h5,h6⟩,o7,h7,h8,h9⟩:=st;simp only[Ku,KO,or_false] at hc;rcases hc with rfl|rfl|rfl|rfl|rfl
  ·exact⟨_,h1,λv z=>by
    have z':Data.fields _=Data.cell v:=z;cases z'⟩
  ·exact⟨_,h2,λv z=>by
    have z':Data.seq _ _=Data.cell v:=z;cases z'⟩
  ·exact⟨_,h3,λv z=>by
    have z':Data.seq _ _=Data.cell v:=z;cases z'⟩
  ·exact⟨o4,h4,λv z=>by rw[h6] at z;cases z⟩
  ·exact⟨o7,h7,λv z=>by rw[h9] at z;cases z⟩
 keep:=λi h h' st k=>by
  obtain⟨h1,h2,⟨x,y,h3⟩,h4,h5⟩:=st;exact⟨k z (by simp) _ h1,k TI (by simp) _ h2,⟨x,y,k TO (by simp) _ h3⟩,h4.at λo q=>k i1 (by simp) o q,h5.at λo q=>k i2 (by simp) o q⟩
 item:=by
  intro X hP hw hK hc i pins s σ H E I hf st hg;subst hP hw hK;obtain⟨hz,hTI,⟨x0,y0,hTO⟩,hi1,hi2⟩:=st;obtain⟨xs,ys,x,y,hq,hq2,hx,hy⟩:=hg;obtain⟨its,rv,p,hsz⟩:=I.list hq;obtain⟨its2,rv2,p2,hsz2⟩:=I.list hq2;obtain⟨u,hu,ru⟩:=rv.get hx;obtain⟨u2,hu2,ru2⟩:=rv2.get hy;have un:∀c∈[z,TI,TO,i1,i2],H c=none:=λc hc=>(hf c hc).1;have D:=zX nd p.isList p2.isList hz hTI hTO hi1 hi2
  have hlt:∀c∈[z,TI,TO,i1,i2],c<s.heap.objs.size:=λc hc=>by
   simp only[Ku,KO,or_false] at hc;rcases hc with rfl|rfl|rfl|rfl|rfl
   ·exact Ks hz
   ·exact Ks hTI
   ·exact Ks hTO
   ·obtain⟨o,q,_⟩:=hi1;exact Ks q
   ·obtain⟨o,q,_⟩:=hi2;exact Ks q
  refine wpAny_pyNext_zip_item D hz hTI hTO hi1 hi2 p.isList p2.isList (x:=u) (y:=u2) (by simpa using hu) (by simpa using hu2) λh1 hz1 hTO1 hi11 hi21 ht hs1 kk1=>?_;refine⟨_,rfl,wpAny_letOwnedTupleGo_zip hz1 λh2 hz2 sb2=>?_⟩;have sb2':Heap.SameBut z h1 h2:=sb2
  have step1:∀c o,c∉[z,TI,TO,i1,i2]->s.heap.get? c=some o->h2.get? c=some o:=λc o n q=>
   (sb2'.2 c (λe=>n (by simp[e]))).trans (kk1 c o (λe=>n (by simp[e])) (λe=>n (by simp[e])) (λe=>n (by simp[e])) (λe=>n (by simp[e])) q)
  have fr:=I.hok.fresh (Kw s.heap.objs.size);have htup:h2.get? s.heap.objs.size=some { cls:=.type "tuple",data:=.seq #[u,u2] }:=(sb2'.2 _ (Lx (hlt z (by simp)))).trans ht
  have I1:Inv X pins σ (upd H s.heap.objs.size (.tup [x,y])) { s with heap:=h2 }:=by
   have nit:∀c o,H c=some o->c∉[z,TI,TO,i1,i2]:=λc o q hc=>by rw[un c hc] at q;cases q
   have hok':HOk X.prog X.w (upd H s.heap.objs.size (.tup [x,y])) h2:=λc o q=>by
    by_cases hb:c=s.heap.objs.size
    ·subst hb;rw[aE] at q;cases q;exact⟨(by show 2<=sizeLine;decide),[u,u2],.cons ru (.cons ru2 .nil),_,htup,rfl,_,rfl⟩
    ·rw[aj hb] at q;refine(I.hok c o q).stay (λd v hc' q'=>step1 d v ?_ q') (λd q'=>by rw[aj (aD q' fr)];exact q') λd ys q'=>by rw[aj (aD q' fr)];exact q'
     rcases hc' with rfl|hc'
     ·exact nit _ _ q
     ·exact nit _ _ hc'
   refine I.step (g':=s.gens) (d':=s.drawn) (t':=s.toks) (ch:=[z,TI,TO,i1,i2]) (λc hc=>?_) (λc o _ _ hcx q _=>step1 c o hcx q)
    (λc o _ _ hcx q _=>⟨o.slots,step1 c o hcx q⟩) (λc o hcx q n=>by rw[aj (KC (Ks q))];exact n)
    (λc o hcx q=>⟨o,step1 c o hcx q⟩) (λc ys q=>by rw[aj (aD q fr)];exact q) (λc o z q=>by rw[aj (aD q fr)];exact q)
    (λc ps q=>⟨#[],by rw[aj (aD q fr),q];simp⟩) (λm hm=>?_) hok' I.bare
   ·obtain⟨f0,f1,f2,f3,f4,f5⟩:=hf c hc;exact⟨f3,f1,f4,f5⟩
   ·obtain⟨o,es',ep,ho',r'⟩:=hm;exact⟨o,es',ep,step1 _ o (λhc=>(hf _ hc).2.1 rfl) ho',r'⟩
  refine⟨.ref s.heap.objs.size,_,I1,rfl,⟨s.heap.objs.size,x,y,fr,rfl,rfl,λzs hy=>by rw[I.list_inj hy hq];exact hx,λzs hz=>by rw[I.list_inj hz hq2];exact hy⟩,⟨hz2,?_,⟨u,u2,(sb2'.2 TO D.TOz).trans hTO1⟩,hi11.extBut sb2'.extBut D.i1z,hi21.extBut sb2'.extBut D.i2z⟩,λc hc=>?_⟩
  ·exact(sb2'.2 TI D.TIz).trans (kk1 TI _ D.TIz D.TITO D.TIi1 D.TIi2 hTI)
  ·rw[aj (KC (hlt c hc))];exact un c hc
 done:=by
  intro X hP hw hK hc i pins s σ H E I hf st hg;subst hP hw hK;obtain⟨hz,hTI,⟨x0,y0,hTO⟩,hi1,hi2⟩:=st;obtain⟨xs,ys,hq,hq2,hx⟩:=hg;obtain⟨its,rv,p,hsz⟩:=I.list hq;obtain⟨its2,rv2,p2,hsz2⟩:=I.list hq2;have D:=zX nd p.isList p2.isList hz hTI hTO hi1 hi2;have l1:=rv.length;have l2:=rv2.length;refine wpAny_pyNext_zip_end (I.ok.hd hc) D hz hTI hTO hi1 hi2 p.isList p2.isList (hx.imp (λh=>by simp;lia) λh=>by simp;lia) λh' kk=>⟨rfl,?_⟩;have un:∀c∈[z,TI,TO,i1,i2],H c=none:=λc hc=>(hf c hc).1
  have step1:∀c o,c∉[z,TI,TO,i1,i2]->s.heap.get? c=some o->h'.get? c=some o:=λc o n q=>
   kk c o (λe=>n (by simp[e])) (λe=>n (by simp[e])) (λe=>n (by simp[e])) (λe=>n (by simp[e])) q
  have nit:∀c o,H c=some o->c∉[z,TI,TO,i1,i2]:=λc o q hc=>by rw[un c hc] at q;cases q
  refine I.step (g':=s.gens) (d':=s.drawn) (t':=s.toks) (ch:=[z,TI,TO,i1,i2]) (λc hc=>?_) (λc o _ _ hcx q _=>step1 c o hcx q)
   (λc o _ _ hcx q _=>⟨o.slots,step1 c o hcx q⟩) (λ_ _ _ _ n=>n)
   (λc o hcx q=>⟨o,step1 c o hcx q⟩) (λ_ _ q=>q) (λ_ _ _ q=>q)
   (λc ps q=>⟨#[],by rw[q];simp⟩) (λm hm=>?_) (λc o q=>?_) I.bare
  ·obtain⟨f0,f1,f2,f3,f4,f5⟩:=hf c hc;exact⟨f3,f1,f4,f5⟩
  ·obtain⟨o,es',ep,ho',r'⟩:=hm;exact⟨o,es',ep,step1 _ o (λhc=>(hf _ hc).2.1 rfl) ho',r'⟩
  ·refine(I.hok c o q).stay (λd v hc' q'=>step1 d v ?_ q') (λd q'=>q') λd ys q'=>q';rcases hc' with rfl|hc'
   ·exact nit _ _ q
   ·exact nit _ _ hc'
 self:=λ_ _ _ _ _ st h=>wpAny_pyIter_zip st.1 h
section
variable {X:Cx}
noncomputable def Hv(K:Km)(ta:TA):TI:=λσ H R=>ta σ H λvs H1=>∃a b,vs=[.ref a,.ref b]/\(∃xs,SqL K H1 a xs)/\(∃ys,SqL K H1 b ys)/\R (Hu K a b) H1
theorem A3{a b:Expr}{kk:Nat}(hg:Gl X "zip")(hm:X.mg "zip" = none)(ha:PA X [a,b] ta)(hs:starEach [a,b] X.env=[(false,eval a X.env),(false,eval b X.env)])(hs2:starEach [b] X.env=[(false,eval b X.env)]) :
  PI X (.Tuple es kk tp) (.Call (.Name "zip" p) [a,b] [] pos) (Hv X.K ta):=by
 intro pins s σ H R I h;refine Call_ (cY I hg hm boot_zip (PyProof.Rows.callWith_type1 (bq (ha pos pins s σ H _ I h) λus s1 ⟨vs,H1,I1,r1,q1⟩=>?_) (by rw[hs,hs2]) (by rw[hs2];rfl)));obtain⟨l,l2,e,⟨xs,hq⟩,⟨ys,hq2⟩,q⟩:=q1;subst e
 cases r1 with
 |cons rx r1=>cases r1 with
  |cons ry r1=>
   cases r1;cases rx;cases ry;obtain⟨its,rv,pl,hz⟩:=I1.list hq;obtain⟨its2,rv2,pl2,hz2⟩:=I1.list hq2;refine call_zip_2 pl.isList pl2.isList λh' he hti hto hi1 hi2 hsz hk=>?_;refine wpAny_pyIter_zip (s:={ s1 with heap:=h' }) he ?_;have I2:Inv X pins σ H1 { s1 with heap:=h' }:=I1.kept (t':=s1.toks) hk
   refine⟨s1.heap.objs.size+4,[s1.heap.objs.size+4,s1.heap.objs.size+2,s1.heap.objs.size+3,s1.heap.objs.size,s1.heap.objs.size+1],_,_,H1,rfl,I2,uE l l2 _ _ _ _ _ (by simp<;>lia),⟨he,hti,⟨_,_,hto⟩,hi1,hi2⟩,λc hb=>?_,q⟩
   have hb':s1.heap.objs.size<=c:=by
    simp only[Ku,KO,or_false] at hb;rcases hb with rfl|rfl|rfl|rfl|rfl
    ·exact LN _ _
    ·exact LN _ _
    ·exact LN _ _
    ·exact Kw _
    ·exact LN _ _
   exact I1.fpOk hb' (I1.hok.fresh hb')
end
end G
namespace G
open PySem PySem.Spec PyProof.Rows L2
section
variable {X:Cx}
end
end G
namespace G
open PySem PySem.Spec PyProof.Rows L2
end G
namespace G
open PySem PySem.Spec PyProof.Rows L2
section
variable {X:Cx}
end
end G
namespace G
open PySem PySem.Spec PyProof.Rows L2
section
variable {X:Cx}
end
end G
namespace L2
open PySem PySem.Spec PyProof.Rows
section
variable {X:Cx} {pins:List (Addr×Obj)} {σ:St} {H:Hp} {s:Shared}
noncomputable def iu(wi:TI)(g:TG)(tt:TT)(te:TE)(cap:List (Option Nat)):TE:=λσ H Q=>wi σ H λJ H1=>∀D,H1 D=none->∃W:Nat->Nat->St->Hp->Prop,(∃m,W 0 m (dv σ cap) (upd H1 D (.lst [])))/\∀i m σ' H',W i m σ' H'->
 (J.stop i H'/\Q (.ref D) H')\/(J.go i H'/\∀x H2,J.yld i H' x H2->g x σ' H2 λσ2 H3=>tt σ2 H3 λok H3=>if ok=true then te σ2 H3 λy H4=>∃ys,H4 D=some (.lst ys)/\ys.length<sizeLine/\∃m',m'<m/\W (i+1) m' σ2 (upd H4 D (.lst (ys++[y]))) else ∃m',m'<m/\W (i+1) m' σ2 H3)
noncomputable def Dd(X:Cx)(ifs:List Expr)(tt:TT):Prop:=∀(pins:List (Addr×Obj)) (s:Shared) (σ:St) (H:Hp) (Q:Bool->Hp->Prop),Inv X pins σ H s->tt σ H Q->
 wpAny (model X.prog X.w) X.A (forIn ifs true λc r=>if r=true then do let ok <- isTrue c X.env (eval c X.env);pure (ForInStep.yield ok) else pure (ForInStep.yield r)) (TP X pins σ Q) X.xe s
theorem qF:Dd X [] (λ_ H Q=>Q true H):=λpins s σ H Q I h=>wpAny_tests_nil ⟨H,I,h⟩
theorem qG{c:Expr}(h:PT X c t):Dd X [c] t:=λpins s σ H Q I q=>wpAny_tests_one (h pins s σ H Q I q)
theorem la(hc:X.calm=true)(O:jG X N' scope cap)(hi:PI X tg iter wi)(hg:∀C s H ex,PG (aI X N' scope C s H ex) tg g)(ht:∀C s H ex,Dd (aI X N' scope C s H ex) ifs tt)(he:∀C s H ex,PE (aI X N' scope C s H ex) elt te){Q:VK}(I:Inv X pins σ H s)(h:iu wi g tt te cap σ H Q)(hs:∀x,foldedSetIterable iter X.env x=pure x)(hX:X.xe=E)(hQ:∀(C D:Addr) (s1:Shared) (H1:Hp) (fp:List Addr) (σ':St) (H':Hp) (s':Shared),Inv X pins σ H1 s1->(∀b∈fp,jB X pins H1 b)->Inv (aI X N' scope C s1 H1 fp) [] σ' H' s'->Q (.ref D) H'->
   compPost (model X.prog X.w) X.A E use Q' (.ref D) C (.ok .next) s') :
  wpAny (model X.prog X.w) X.A (comprehension (.ListComp elt [⟨tg,iter,ifs,0⟩] scope pos) scope X.env cpos (newList []) false (eval iter X.env) use) Q' E s:=by
 have hcl:closureFor scope X.env=pure (fW X.env.cells scope.names []):=kG λy hy e=>I.ok.has _ (O.free y hy e);refine wpAny_comprehension_free (g:=⟨tg,iter,ifs,0⟩) (gs:=[]) rfl hs hcl O.kind O.names ?_;subst hX;refine bq (hi pins s σ H _ I h) λv s1 h1=>bq h1 λitv s2 h2=>?_;obtain⟨it,fp,tn,J,H2,e,I2,T,st2,f2,hW⟩:=h2;subst e;refine wpAny_newObj_type (kH ?_);dsimp only;generalize hH2:s2.heap.push { cls:=.type "list",dict:=none,data:=.seq ([]:List Value).toArray }=HH;have hCs:HH.objs.size=s2.heap.objs.size+1:=by rw[<- hH2,Lv]
 have hDC:s2.heap.objs.size<HH.objs.size:=by rw[hCs];exact Lb _
 generalize hh1:pushCells (HH.push { cls:=.type "dict",data:=.dict #[] }) scope.names=h₁;have kp:∀b o,HH.get? b=some o->h₁.get? b=some o:=λb o e=>hh1▸pushCells_keeps _ _ b o (Kq _ e);have hns₁:h₁.Ns HH.objs.size λ_=>none:=hh1▸(Heap.Ns.new HH (.type "dict")).keeps (pushCells_keeps _ _)
 have hcs:∀x c,(cellsFrom (HH.objs.size+1) scope.names []).lookup x=some c->h₁.IsCell c none:=λx c e=>by
  have ok:=cellsFrom_ok scope.names (HH.push { cls:=.type "dict",data:=.dict #[] }) 0 [] ⟨λ_ _ hm=>(nomatch hm),List.Pairwise.nil⟩ (K2 _)
  rw[Lv] at ok;exact hh1▸(ok.empty x c (ca e)).1
 have old:∀b o,s2.heap.get? b=some o->h₁.get? b=some o:=λb o e=>kp b o (hH2▸Kq _ e);have new:h₁.get? s2.heap.objs.size=some { cls:=.type "list",data:=.seq ([]:List Value).toArray }:=kp _ _ (hH2▸KB _ rfl);have hfo:∀b∈fp,b<s2.heap.objs.size:=λb hb=>let ⟨o,e,_⟩:=T.obj 0 _ st2 b hb;Ks e;have hfree:=I2.hok.fresh (Kw s2.heap.objs.size);obtain⟨W,⟨m0,w0⟩,turn⟩:=hW s2.heap.objs.size hfree;have J0:=uD (tk:=s2.toks) I2 O f2 hfo (C:=HH.objs.size) (D:=s2.heap.objs.size) (by rw[hCs];exact LD _) (Kw _) hDC hcs hns₁ old new;have st0:tn 0 h₁:=T.keep 0 _ _ st2 λb _ o e=>old b o e
 have fr0:∀b∈fp,(upd H2 s2.heap.objs.size (.lst [])) b=none:=λb hb=>by
  rw[aj (KC (hfo b hb))];exact(f2 b hb).1
 have stat:∀{H':Hp},(∀b∈fp,H' b=none)->∀b∈fp,jB (aI X N' scope HH.objs.size s2 H2 fp) [] H' b:=λhn b hb=>
  ⟨hn b hb,(J0.ok.exf b hb).1,J0.ok.exfs b hb,.inl hb,(J0.ok.exf b hb).2,λp hp=>absurd hp (by simp[aI])⟩
 have loop:codeAny (model X.prog X.w) X.A (.compLoop (.ListComp elt [⟨tg,iter,ifs,0⟩] scope pos) 0 (.ref it) (.ref s2.heap.objs.size) (compEnvC scope (Dc X.env.cells scope.names HH.objs.size) HH.objs.size X.env))
   (compPost (model X.prog X.w) X.A X.xe use Q' (.ref s2.heap.objs.size) HH.objs.size) { s2 with heap:=h₁,toks:=s2.toks }:=by
  refine l4 (λn s'=>∃i σ' H',Inv (aI X N' scope HH.objs.size s2 H2 fp) [] σ' H' s'/\tn i s'.heap/\(∀b∈fp,H' b=none)/\W i n σ' H') ?_ m0 ⟨0,_,_,J0,st0,fr0,w0⟩
  rintro n s3 ⟨i,σ3,H3,I3,st3,fr3,w3⟩
  rcases turn i n σ3 H3 w3 with⟨stop,qn⟩|⟨go,step⟩
  ·refine bq (T.done (aI X N' scope HH.objs.size s2 H2 fp) rfl rfl rfl hc i [] s3 σ3 H3 _ I3 (stat fr3) st3 stop) λr s4 ⟨hr,I4⟩=>?_;subst hr;exact hQ _ _ s2 H2 fp σ3 H3 s4 I2 f2 I4 qn
  ·refine bq (T.item (aI X N' scope HH.objs.size s2 H2 fp) rfl rfl rfl hc i [] s3 σ3 H3 _ I3 (stat fr3) st3 go) λr s4 ⟨u,hr,h4⟩=>?_;subst hr;refine bq h4 λ_ s5 ⟨x,H5,I5,r5,y5,st5,fr5⟩=>?_;have I5':=I5.pinned (stat fr5) (T.obj _ _ st5);refine bq (hg _ _ _ _ _ s5 σ3 H5 x u _ I5' r5 (step x H5 y5)) λ_ s6 ⟨σ6,H6,I6,q6⟩=>?_;refine bq (ht _ _ _ _ _ s6 σ6 H6 _ I6 q6) λok s6' ⟨H6',I6',q6'⟩=>?_
   cases ok with
   |false=>
    rw[if_neg LF] at q6'⊢;obtain⟨m',hm,w7⟩:=q6';refine⟨m',hm,i+1,σ6,_,I6'.unpinned,T.keep _ _ _ st5 λb hb o e=>(I6'.pin (b,o) (KH _ (KH _ (bZ hb e)))).1,λb hb=>?_,w7⟩;obtain⟨o,e,d⟩:=T.obj _ _ st5 b hb;exact(I6'.pin (b,o) (KH _ (KH _ (bZ hb e)))).2.1
   |true=>
   rw[if_pos rfl] at q6'⊢;refine bq (he _ _ _ _ _ s6' σ6 H6' _ I6' q6') λyv s7 ⟨y,H7,I7,r7,ys,hD,hz,m',hm,w7⟩=>?_;refine bq (k7 _ s7 σ6 H7 (.ref s2.heap.objs.size) [y] (.ref s2.heap.objs.size) [yv] (λv H'=>v=.non/\H'=upd H7 s2.heap.objs.size (.lst (ys++[y]))) I7 rfl (.cons r7 .nil) ⟨_,ys,y,rfl,rfl,hD,hz,rfl,rfl⟩) λ_ s8 ⟨_,H8,I8,_,_,e8⟩=>?_;subst e8;refine⟨m',hm,i+1,σ6,_,I8.unpinned,T.keep _ _ _ st5 λb hb o e=>(I8.pin (b,o) (KH _ (KH _ (bZ hb e)))).1,λb hb=>?_,w7⟩;obtain⟨o,e,d⟩:=T.obj _ _ st5 b hb;exact(I8.pin (b,o) (KH _ (KH _ (bZ hb e)))).2.1
 exact codeAny_compStart_list loop (T.self _ 0 _ _ _ st0 loop)
theorem nv(hc:X.calm=true)(O:jG X N' scope cap)(hi:PI X tg iter wi)(hg:∀C s H ex,PG (aI X N' scope C s H ex) tg g)(ht:∀C s H ex,Dd (aI X N' scope C s H ex) ifs tt)(he:∀C s H ex,PE (aI X N' scope C s H ex) elt te)(hs:∀x,foldedSetIterable iter X.env x=pure x:=by intro _;rfl):PE X (.ListComp elt [⟨tg,iter,ifs,0⟩] scope pos) (iu wi g tt te cap):=by
 intro pins s σ H Q I h;rw[eval_ListComp];refine la (use:=none) (Q':=EP X pins σ Q) hc O hi hg ht he I h hs rfl λC D s1 H1 fp σ' H' s' I1 f1 J q=>?_;obtain⟨m,hn,_⟩:=J.loc;exact⟨m,hn,λh' hsb=>⟨.ref D,H',nu I1 f1 J hsb,rfl,q⟩⟩
theorem uF{cpos pos' pos:Pos}{i:Nat}{x:Str}(hc:X.calm=true)(O:jG X N' scope cap)(hi:PI X tg iter wi)(hg:∀C s H ex,PG (aI X N' scope C s H ex) tg g)(ht:∀C s H ex,Dd (aI X N' scope C s H ex) ifs tt)(he:∀C s H ex,PE (aI X N' scope C s H ex) elt te)(hs:∀x,foldedSetIterable iter X.env x=pure x)(hN:X.N.Nodup)(hix:X.N[i]?=some x)(hx:Ay X.env.scope x)(hf:X.fn x=true\/X.env.scope.names.lookup x=some .local)(hsw:swapsWith (.ListComp elt [⟨tg,iter,ifs,0⟩] scope cpos) (some (.Name x pos')) pos.line X.env=pure true) :
  PS X (.Assign [.Name x pos'] (.ListComp elt [⟨tg,iter,ifs,0⟩] scope cpos) pos) (AK (iu wi g tt te cap) (jA i)):=by
 intro pins s σ H D I h;rw[exec_Assign_Name_used _ _ _ _ hsw];refine wpAny_bind (wpAny_standAt (wpAny_bind ?_));show wpAny _ _ (do let _ <- comprehension (.ListComp elt [⟨tg,iter,ifs,0⟩] scope cpos) scope X.env _ (newList []) false (eval iter X.env) (some (assign (.Name x pos') X.env))) _ _ s;refine wpAny_bind (wpAny_mono (la (use:=some (assign (.Name x pos') X.env)) (Q':=λ_ s'=>∃σ' H',Inv X pins σ' H' s'/\D.nx σ' H') hc O hi hg ht he I h hs rfl λC D1 s1 H1 fp σ' H' s' I1 f1 J q=>?_) (λ_ s' hq=>wpAny_pure (wpAny_pure hq)) λ_ _ e=>e);show wpAny _ _ (assign (.Name x pos') X.env (.ref D1)) _ _ s';have I2:Inv X pins σ H' s':=nu I1 f1 J (Heap.SameBut.refl C s'.heap);have hC:s1.heap.objs.size<=C:=J.ok.above;have old:∀b o,s1.heap.get? b=some o->b≠C:=λb o e=>KC (Kz (Ks e) hC);obtain⟨m1,⟨oL,_,_,gL,_⟩,_⟩:=id I1.loc;have hL:X.env.locals≠C:=old _ _ gL
 have hcl:∀x c,X.env.cells.lookup x=some c->c≠C:=λx c e=>by
  obtain⟨v,o,g,_⟩:=I1.cell x c e;exact old _ _ g
 have hpn:∀p∈X.pn++pins,p.1≠C:=λp hp=>old _ _ (I1.pin p hp).1
 have h0:X.s₀.heap.objs.size<=C:=by
  refine KN ?_ hC;exact L4 (Lw I1.ok.above (Ks gL))
 obtain⟨m,hn,_⟩:=J.loc;refine wpAny_assign_Name (kU I2 hN hix hx (v:=.ref D1) rfl (λs3 I3 hsb=>?_) hf);obtain⟨a,hsb,ha⟩:=hsb
 have hCa:C≠a:=by
  rcases ha with rfl|ha
  ·exact Ne.symm hL
  ·exact Ne.symm (hcl _ _ ha)
 exact⟨m,hn.sameBut hsb hCa,λh' hs'=>⟨_,H',I3.junk hs' h0 hL hcl hpn J.free,q⟩⟩
end
end L2
namespace J
open PySem PySem.Spec PyProof.Rows L2
noncomputable abbrev DK:=eP ⊕ List (eP ⊕ List eP)
inductive Hd where
 |lst|tup|dic (t:Nat) (ks:List DK)|obj (c:Str) (ns:List Str)
 deriving DecidableEq
inductive D where
 |non|bl (b:Bool)|int (i:Int)|str (x:Str)|scr (ns:List Int)|nd (h:Hd) (ds:List D)
noncomputable abbrev D.lst(ds:List D):D:=.nd .lst ds
noncomputable abbrev D.tup(ds:List D):D:=.nd .tup ds
noncomputable abbrev D.dic(t:Nat)(ks:List DK)(ds:List D):D:=.nd (.dic t ks) ds
noncomputable abbrev D.obj(c:Str)(ns:List Str)(ds:List D):D:=.nd (.obj c ns) ds
noncomputable def Hd.mu:Hd->Bool
 |.tup=>false
 |_=>true
noncomputable def DV(K:Km)(a:Addr)(xs:List V):Prop:=
 ∃(o:Obj) (its:Array Value) (n:Nat),K.lookup a=some o/\o.cls=.type "list"/\o.dict=none/\o.data=.seq its n/\its.size<=sizeLine/\Vals xs its.toList
noncomputable def i8(K:Km)(o:HO):Hd->List V->Prop
 |.lst,xs=>o=.lst xs
 |.tup,xs=>o=.tup xs
 |.dic t ks,xs=>(t=0/\∃kvs:List (eP×V),o=.dK kvs/\ks=kvs.map (λp=>Sum.inl p.1)/\xs=kvs.map (·.2))
 |.obj c ns,xs=>False
noncomputable abbrev Pr:=Addr->Prop
mutual
noncomputable def Rp(K:Km)(H:Hp)(S:Pr):D->V->Prop
 |.non,v=>v=.non
 |.bl b,v=>v=.bl b
 |.int i,v=>v=.int i
 |.str x,v=>v=.str x
 |.scr ns,v=>∃a,v=.ref a/\((¬S a/\Rd H a (.lst (ns.map V.int)))\/DV K a (ns.map V.int))
 |.nd h ds,v=>∃a o xs,v=.ref a/\¬S a/\H a=some o/\i8 K o h xs/\RpL K H S ds xs
noncomputable def RpL(K:Km)(H:Hp)(S:Pr):List D->List V->Prop
 |[],xs=>xs=[]
 |d::ds,xs=>∃y ys,xs=y::ys/\Rp K H S d y/\RpL K H S ds ys
end
section
variable {K:Km} {H H':Hp} {S S':Pr}
mutual
theorem Rp.go(k:∀b o,¬S b->H b=some o->H' b=some o/\¬S' b):∀{d:D} {v:V},Rp K H S d v->Rp K H' S' d v
 |.non,_,h=>h
 |.bl _,_,h=>h
 |.int _,_,h=>h
 |.str _,_,h=>h
 |.scr ns,v,h=>by
  unfold Rp at h⊢;obtain⟨a,e,h⟩:=h;refine⟨a,e,?_⟩;rcases h with⟨n,g|⟨o,g⟩⟩|h
  ·exact .inl ⟨(k _ _ n g).2,.inl (k _ _ n g).1⟩
  ·exact .inl ⟨(k _ _ n g).2,.inr ⟨o,(k _ _ n g).1⟩⟩
  ·exact .inr h
 |.nd hd ds,v,h=>by
  unfold Rp at h⊢;obtain⟨a,o,xs,e,n,g,q,r⟩:=h;exact⟨a,o,xs,e,(k _ _ n g).2,(k _ _ n g).1,q,RpL.go k r⟩
theorem RpL.go(k:∀b o,¬S b->H b=some o->H' b=some o/\¬S' b):∀{ds:List D} {vs:List V},RpL K H S ds vs->RpL K H' S' ds vs
 |[],_,h=>by unfold RpL at h⊢;exact h
 |d::ds,_,h=>by
  unfold RpL at h⊢;obtain⟨y,ys,e,r,t⟩:=h;exact⟨y,ys,e,Rp.go k r,RpL.go k t⟩
end
theorem Rp.same(s:Same H H'){d:D}{v:V}(h:Rp K H S d v):Rp K H' S d v:=h.go λb o n e=>⟨s b o e,n⟩
theorem RpL.same(s:Same H H'){d:List D}{v:List V}(h:RpL K H S d v):RpL K H' S d v:=h.go λb o n e=>⟨s b o e,n⟩
theorem Rp.weak(k:∀b,S' b->S b){d:D}{v:V}(h:Rp K H S d v):Rp K H S' d v:=h.go λb o n e=>⟨e,λz=>n (k b z)⟩
theorem RpL.weak(k:∀b,S' b->S b){d:List D}{v:List V}(h:RpL K H S d v):RpL K H S' d v:=h.go λb o n e=>⟨e,λz=>n (k b z)⟩
theorem RpL.len:∀{ds:List D} {vs:List V},RpL K H S ds vs->vs.length=ds.length
 |[],_,h=>by unfold RpL at h;rw[h];rfl
 |d::ds,_,h=>by
  unfold RpL at h;obtain⟨y,ys,rfl,_,t⟩:=h;rw[KS,KS,RpL.len t]
theorem RpL.nil:RpL K H S [] []:=by unfold RpL;rfl
theorem RpL.cons{d:D}{v:V}{ds:List D}{vs:List V}(h1:Rp K H S d v)(h2:RpL K H S ds vs):RpL K H S (d::ds) (v::vs):=by unfold RpL;exact⟨v,vs,rfl,h1,h2⟩
theorem RpL.nil_inv(h:RpL K H S [] vs):vs=[]:=by unfold RpL at h;exact h
theorem RpL.cons_inv(h:RpL K H S (d::ds) vs):∃y ys,vs=y::ys/\Rp K H S d y/\RpL K H S ds ys:=by unfold RpL at h;exact h
theorem RpL.getD:∀{ds:List D} {vs:List V} {i:Nat} {d:D},RpL K H S ds vs->ds[i]?=some d->∃v,vs[i]?=some v/\Rp K H S d v
 |[],_,_,_,_,e=>by simp at e
 |d::ds,_,0,d',h,e=>by obtain⟨y,ys,rfl,r,t⟩:=h.cons_inv;simp at e;subst e;exact⟨y,rfl,r⟩
 |d::ds,_,i+1,d',h,e=>by obtain⟨y,ys,rfl,r,t⟩:=h.cons_inv;simpa using RpL.getD t (by simpa using e)
theorem RpL.append:∀{ds es:List D} {vs us:List V},RpL K H S ds vs->RpL K H S es us->RpL K H S (ds++es) (vs++us)
 |[],_,_,_,h,g=>by rw[h.nil_inv];exact g
 |d::ds,_,_,_,h,g=>by obtain⟨y,ys,rfl,r,t⟩:=h.cons_inv;exact .cons r (RpL.append t g)
theorem RpL.take:∀{ds:List D} {vs:List V} (n:Nat),RpL K H S ds vs->RpL K H S (ds.take n) (vs.take n)
 |_,_,0,_=>by simpa using RpL.nil
 |[],_,_+1,h=>by rw[h.nil_inv];simpa using RpL.nil
 |d::ds,_,n+1,h=>by obtain⟨y,ys,rfl,r,t⟩:=h.cons_inv;exact .cons r (RpL.take n t)
theorem RpL.drop:∀{ds:List D} {vs:List V} (n:Nat),RpL K H S ds vs->RpL K H S (ds.drop n) (vs.drop n)
 |_,_,0,h=>h
 |[],_,_+1,h=>by rw[h.nil_inv];simpa using RpL.nil
 |d::ds,_,n+1,h=>by obtain⟨y,ys,rfl,r,t⟩:=h.cons_inv;exact RpL.drop n t
theorem RpL.ints:∀ns:List Int,RpL K H S (ns.map D.int) (ns.map V.int)
 |[]=>.nil
 |n::ns=>.cons (by unfold Rp;rfl) (RpL.ints ns)
theorem RpL.erase:∀{ds:List D} {vs:List V} (n:Nat),RpL K H S ds vs->RpL K H S (ds.eraseIdx n) (vs.eraseIdx n)
 |[],_,_,h=>by rw[h.nil_inv];simpa using RpL.nil
 |d::ds,_,0,h=>by obtain⟨y,ys,rfl,r,t⟩:=h.cons_inv;exact t
 |d::ds,_,n+1,h=>by obtain⟨y,ys,rfl,r,t⟩:=h.cons_inv;exact .cons r (RpL.erase n t)
end
mutual
noncomputable def pf:D->Bool
 |.nd h ds=>!h.mu&&xY ds
 |.scr _=>false
 |_=>true
noncomputable def xY:List D->Bool
 |[]=>true
 |d::ds=>pf d&&xY ds
end
noncomputable def MuOk(H:Hp)(S:Pr):Prop:=∀a,S a->∃o,H a=some o/\∀xs,o≠.tup xs
section
variable {K:Km} {H:Hp} {S S':Pr}
mutual
theorem Rp.im(m:MuOk H S'):∀{d:D} {v:V},pf d=true->Rp K H S d v->Rp K H S' d v
 |.non,_,_,h=>h
 |.bl _,_,_,h=>h
 |.int _,_,_,h=>h
 |.str _,_,_,h=>h
 |.scr ns,v,i,h=>by simp[pf] at i
 |.nd hd ds,v,i,h=>by
  unfold Rp at h⊢;obtain⟨a,o,xs,e,n,g,q,r⟩:=h;rw[pf,Kn] at i;refine⟨a,o,xs,e,λz=>?_,g,q,RpL.im m i.2 r⟩;obtain⟨o',e',ne⟩:=m a z;rw[g] at e';cases e'
  cases hd with
  |tup=>exact ne _ q
  |_=>exact absurd i.1 (by simp[Hd.mu])
theorem RpL.im(m:MuOk H S'):∀{ds:List D} {vs:List V},xY ds=true->RpL K H S ds vs->RpL K H S' ds vs
 |[],_,_,h=>by unfold RpL at h⊢;exact h
 |d::ds,_,i,h=>by
  rw[xY,Kn] at i;obtain⟨y,ys,rfl,r,t⟩:=h.cons_inv;exact .cons (Rp.im m i.1 r) (RpL.im m i.2 t)
end
end
inductive Ow where
 |fz|own (es:List Ow) (r:Ow)
mutual
noncomputable def Tr(K:Km)(H:Hp)(S:Pr):D->Ow->V->Pr->Prop
 |.nd h ds,.own es r,v,F=>∃a o xs F',v=.ref a/\H a=some o/\i8 K o h xs/\(h.mu=true->¬F' a)/\(h.mu=false->¬S a)/\(∀b,F b↔(h.mu=true/\b=a)\/F' b)/\TrL K H S ds es r xs F'
 |d,_,v,F=>(∀b,¬F b)/\Rp K H S d v
noncomputable def TrL(K:Km)(H:Hp)(S:Pr):List D->List Ow->Ow->List V->Pr->Prop
 |[],_,_,xs,F=>xs=[]/\∀b,¬F b
 |d::ds,es,r,xs,F=>∃y ys F1 F2,xs=y::ys/\(∀b,F b↔F1 b\/F2 b)/\(∀b,F1 b->¬F2 b)/\Tr K H S d (es.headD r) y F1/\TrL K H S ds es.tail r ys F2
end
section
variable {K:Km} {H H':Hp} {S S':Pr}
mutual
theorem Tr.go:∀{d:D} {k:Ow} {v:V} {F:Pr},(∀b o,(¬S b\/F b)->H b=some o->H' b=some o)->(∀b o,H b=some o->¬S b->¬S' b)->Tr K H S d k v F->Tr K H' S' d k v F
 |.non,_,_,_,k1,k2,h=>by unfold Tr at h⊢;exact⟨h.1,h.2⟩
 |.bl _,_,_,_,k1,k2,h=>by unfold Tr at h⊢;exact⟨h.1,h.2⟩
 |.int _,_,_,_,k1,k2,h=>by unfold Tr at h⊢;exact⟨h.1,h.2⟩
 |.str _,_,_,_,k1,k2,h=>by unfold Tr at h⊢;exact⟨h.1,h.2⟩
 |.scr ns,_,_,_,k1,k2,h=>by unfold Tr at h⊢;exact⟨h.1,h.2.go λb o n e=>⟨k1 b o (.inl n) e,k2 b o e n⟩⟩
 |.nd hd ds,.fz,_,_,k1,k2,h=>by unfold Tr at h⊢;exact⟨h.1,h.2.go λb o n e=>⟨k1 b o (.inl n) e,k2 b o e n⟩⟩
 |.nd hd ds,.own es r,v,F,k1,k2,h=>by
  unfold Tr at h⊢;obtain⟨a,o,xs,F',e,g,q,n1,n2,hF,t⟩:=h
  have hg:H' a=some o:=by
   cases hm:hd.mu with
   |true=>exact k1 a o (.inr ((hF a).mpr (.inl ⟨hm,rfl⟩))) g
   |false=>exact k1 a o (.inl (n2 hm)) g
  refine⟨a,o,xs,F',e,hg,q,n1,λhm=>k2 a o g (n2 hm),hF,TrL.go (λb o h=>k1 b o (h.imp id λz=>(hF b).mpr (.inr z))) k2 t⟩
theorem TrL.go:∀{ds:List D} {es:List Ow} {r:Ow} {vs:List V} {F:Pr},(∀b o,(¬S b\/F b)->H b=some o->H' b=some o)->(∀b o,H b=some o->¬S b->¬S' b)->TrL K H S ds es r vs F->TrL K H' S' ds es r vs F
 |[],_,_,_,_,_,_,h=>by unfold TrL at h⊢;exact h
 |d::ds,es,r,vs,F,k1,k2,h=>by
  unfold TrL at h⊢;obtain⟨y,ys,F1,F2,e,hF,dj,h1,h2⟩:=h;exact⟨y,ys,F1,F2,e,hF,dj,Tr.go (λb o h=>k1 b o (h.imp id λz=>(hF b).mpr (.inl z))) k2 h1,TrL.go (λb o h=>k1 b o (h.imp id λz=>(hF b).mpr (.inr z))) k2 h2⟩
end
mutual
theorem Tr.rp:∀{d:D} {k:Ow} {v:V} {F:Pr},(∀b,S' b->S b/\¬F b)->Tr K H S d k v F->Rp K H S' d v
 |.non,_,_,_,k2,h=>by unfold Tr at h;exact h.2
 |.bl _,_,_,_,k2,h=>by unfold Tr at h;exact h.2
 |.int _,_,_,_,k2,h=>by unfold Tr at h;exact h.2
 |.str _,_,_,_,k2,h=>by unfold Tr at h;exact h.2
 |.scr ns,_,_,_,k2,h=>by unfold Tr at h;exact h.2.weak λb z=>(k2 b z).1
 |.nd hd ds,.fz,_,_,k2,h=>by unfold Tr at h;exact h.2.weak λb z=>(k2 b z).1
 |.nd hd ds,.own es r,v,F,k2,h=>by
  unfold Tr at h;unfold Rp;obtain⟨a,o,xs,F',e,g,q,n1,n2,hF,t⟩:=h;refine⟨a,o,xs,e,λz=>?_,g,q,TrL.rp (λb z=>⟨(k2 b z).1,λz2=>(k2 b z).2 ((hF b).mpr (.inr z2))⟩) t⟩
  cases hm:hd.mu with
  |true=>exact(k2 a z).2 ((hF a).mpr (.inl ⟨hm,rfl⟩))
  |false=>exact n2 hm (k2 a z).1
theorem TrL.rp:∀{ds:List D} {es:List Ow} {r:Ow} {vs:List V} {F:Pr},(∀b,S' b->S b/\¬F b)->TrL K H S ds es r vs F->RpL K H S' ds vs
 |[],_,_,_,_,_,h=>by unfold TrL at h;unfold RpL;exact h.1
 |d::ds,es,r,vs,F,k2,h=>by
  unfold TrL at h;obtain⟨y,ys,F1,F2,rfl,hF,dj,h1,h2⟩:=h;exact .cons (Tr.rp (λb z=>⟨(k2 b z).1,λz2=>(k2 b z).2 ((hF b).mpr (.inl z2))⟩) h1) (TrL.rp (λb z=>⟨(k2 b z).1,λz2=>(k2 b z).2 ((hF b).mpr (.inr z2))⟩) h2)
end
theorem Tr.rd(h:Tr K H S d k v F):Rp K H (λ_=>False) d v:=h.rp λb z=>z.elim
theorem Tr.fz(h:Rp K H S d v):Tr K H S d .fz v (λ_=>False):=by
 cases d<;>(unfold Tr;exact⟨λb z=>z,h⟩)
theorem Tr.fz_inv{F:Pr}(h:Tr K H S d .fz v F):(∀b,¬F b)/\Rp K H S d v:=by
 cases d<;>(unfold Tr at h;exact h)
mutual
theorem Tr.dom:∀{d:D} {k:Ow} {v:V} {F:Pr},Tr K H S d k v F->∀b,F b->∃o,H b=some o/\∀xs,o≠.tup xs
 |.non,_,_,_,h=>by unfold Tr at h;exact λb z=>absurd z (h.1 b)
 |.bl _,_,_,_,h=>by unfold Tr at h;exact λb z=>absurd z (h.1 b)
 |.int _,_,_,_,h=>by unfold Tr at h;exact λb z=>absurd z (h.1 b)
 |.str _,_,_,_,h=>by unfold Tr at h;exact λb z=>absurd z (h.1 b)
 |.scr ns,_,_,_,h=>by unfold Tr at h;exact λb z=>absurd z (h.1 b)
 |.nd hd ds,.fz,_,_,h=>by unfold Tr at h;exact λb z=>absurd z (h.1 b)
 |.nd hd ds,.own es r,v,F,h=>by
  unfold Tr at h;obtain⟨a,o,xs,F',e,g,q,n1,n2,hF,t⟩:=h;intro b z;rcases(hF b).mp z with⟨hm,rfl⟩|z
  ·refine⟨o,g,λys he=>?_⟩;subst he
   cases hd with
   |tup=>exact absurd hm (by simp[Hd.mu])
   |lst=>cases q
   |dic t ks=>obtain⟨_,_,e,_⟩:=q;cases e
   |obj c ns=>exact q.elim
  ·exact TrL.dom t b z
theorem TrL.dom:∀{ds:List D} {es:List Ow} {r:Ow} {vs:List V} {F:Pr},TrL K H S ds es r vs F->∀b,F b->∃o,H b=some o/\∀xs,o≠.tup xs
 |[],_,_,_,_,h=>by unfold TrL at h;exact λb z=>absurd z (h.2 b)
 |d::ds,es,r,vs,F,h=>by
  unfold TrL at h;obtain⟨y,ys,F1,F2,e,hF,dj,h1,h2⟩:=h;intro b z;rcases(hF b).mp z with z|z
  ·exact Tr.dom h1 b z
  ·exact TrL.dom h2 b z
end
end
end J
namespace J
open PySem PySem.Spec L2
noncomputable abbrev Gh:=Addr->Option (Option Nat)
noncomputable def Sx(g:Gh)(F:Pr):Pr:=λb=>g b≠none\/F b
noncomputable abbrev Sg(g:Gh):Pr:=λb=>g b≠none
inductive Kd where
 |sh|fr (k:Ow)|bo (i:Nat) (k:Ow)
noncomputable def VR1(K:Km)(H:Hp)(g:Gh)(Ft:Pr):Kd->D->V->Pr->Prop
 |.sh,d,v,F=>(∀b,¬F b)/\Rp K H (Sx g Ft) d v
 |.fr k,d,v,F=>Tr K H (Sx g Ft) d k v F
 |.bo i k,d,v,F=>(∀b,¬F b)/\∃F0,(∀b,F0 b->g b=some (some i))/\Tr K H (Sx g Ft) d k v F0
noncomputable def VRL(K:Km)(H:Hp)(g:Gh)(Ft:Pr):List (Kd×D)->List V->Pr->Prop
 |[],vs,F=>vs=[]/\∀b,¬F b
 |(kd,d)::r,vs,F=>∃y ys F1 F2,vs=y::ys/\(∀b,F b↔F1 b\/F2 b)/\(∀b,F1 b->¬F2 b)/\VR1 K H g Ft kd d y F1/\VRL K H g Ft r ys F2
noncomputable def VR(K:Km)(g:Gh)(H0 H:Hp)(kd:Kd)(d:D)(v:V):Prop:=∃F:Pr,(∀b,F b->H0 b=none)/\VR1 K H g F kd d v F
noncomputable def VRs(K:Km)(g:Gh)(H0 H:Hp)(kds:List (Kd×D))(vs:List V):Prop:=∃F:Pr,(∀b,F b->H0 b=none)/\VRL K H g F kds vs F
section
variable {K:Km} {H H' H0 H1:Hp} {g:Gh} {Ft Ft' F:Pr}
theorem VR1.go(s:Same H H')(k2:∀b o,H b=some o->Ft' b->Ft b)(h:VR1 K H g Ft kd d v F):VR1 K H' g Ft' kd d v F:=by
 have k3:∀b o,H b=some o->¬Sx g Ft b->¬Sx g Ft' b:=λb o e n z=>n (z.imp id (k2 b o e))
 cases kd with
 |sh=>exact⟨h.1,h.2.go λb o n e=>⟨s b o e,k3 b o e n⟩⟩
 |fr k=>exact Tr.go (λb o _ e=>s b o e) k3 h
 |bo i k=>obtain⟨h1,F0,h2,h3⟩:=h;exact⟨h1,F0,h2,Tr.go (λb o _ e=>s b o e) k3 h3⟩
theorem VR1.dom(h:VR1 K H g Ft kd d v F):∀b,F b->∃o,H b=some o/\∀xs,o≠.tup xs:=by
 cases kd with
 |sh=>exact λb z=>absurd z (h.1 b)
 |fr k=>exact Tr.dom h
 |bo i k=>exact λb z=>absurd z (h.1 b)
theorem VRL.dom:∀{kds:List (Kd×D)} {vs:List V} {F:Pr},VRL K H g Ft kds vs F->∀b,F b->∃o,H b=some o/\∀xs,o≠.tup xs
 |[],_,_,h=>λb z=>absurd z (h.2 b)
 |(kd,d)::r,_,_,h=>by
  obtain⟨y,ys,F1,F2,e,hF,dj,h1,h2⟩:=h;intro b z;rcases(hF b).mp z with z|z
  ·exact h1.dom b z
  ·exact VRL.dom h2 b z
theorem VR.same(s:Same H H')(h:VR K g H0 H kd d v):VR K g H0 H' kd d v:=
 let ⟨F,h1,h2⟩:=h;⟨F,h1,h2.go s λ_ _ _ z=>z⟩
theorem VR.older(s:Same H0 H1)(h:VR K g H1 H kd d v):VR K g H0 H kd d v:=
 let ⟨F,h1,h2⟩:=h;⟨F,λb z=>s.free (h1 b z),h2⟩
theorem VR1.rd(h:VR1 K H g Ft kd d v F):Rp K H (λ_=>False) d v:=by
 cases kd with
 |sh=>exact h.2.weak λb z=>z.elim
 |fr k=>exact Tr.rd h
 |bo i k=>obtain⟨_,F0,_,h3⟩:=h;exact h3.rd
theorem VR.rd(h:VR K g H0 H kd d v):Rp K H (λ_=>False) d v:=let ⟨F,h1,h2⟩:=h;h2.rd
theorem VRL.rd:∀{kds:List (Kd×D)} {vs:List V} {F:Pr},VRL K H g Ft kds vs F->RpL K H (λ_=>False) (kds.map (·.2)) vs
 |[],_,_,h=>by rw[h.1];exact .nil
 |(kd,d)::r,_,_,h=>by
  obtain⟨y,ys,F1,F2,rfl,hF,dj,h1,h2⟩:=h;exact .cons h1.rd (VRL.rd h2)
noncomputable def ph:Kd->D->Bool
 |.bo _ _,d=>pf d
 |_,_=>true
theorem MuOk.same(m:MuOk H S)(s:Same H H'):MuOk H' S:=λa z=>let ⟨o,e,n⟩:=m a z;⟨o,s a o e,n⟩
theorem VR1.sh{S:Pr}(ok:ph kd d=true)(m:MuOk H S)(hS:∀b,S b->(g b≠none\/Ft b)/\¬F b)(h:VR1 K H g Ft kd d v F):Rp K H S d v:=by
 cases kd with
 |sh=>exact h.2.weak λb z=>(hS b z).1
 |fr k=>exact Tr.rp (λb z=>⟨(hS b z).1,(hS b z).2⟩) h
 |bo i k=>obtain⟨_,F0,h2,h3⟩:=h;exact h3.rd.im m ok
theorem VR.sh(ok:ph kd d=true)(m:MuOk H0 (Sg g))(s:Same H0 H)(h:VR K g H0 H kd d v):Rp K H (Sg g) d v:=by
 obtain⟨F,h1,h2⟩:=h;refine h2.sh ok (m.same s) λb z=>⟨.inl z,λz2=>?_⟩;obtain⟨o,e,_⟩:=m b z;rw[h1 b z2] at e;cases e
theorem VRL.sh{S:Pr}(m:MuOk H S):∀{kds:List (Kd×D)} {vs:List V} {F:Pr},(kds.all λp=>ph p.1 p.2)=true->(∀b,S b->(g b≠none\/Ft b)/\¬F b)->VRL K H g Ft kds vs F->RpL K H S (kds.map (·.2)) vs
 |[],_,_,_,_,h=>by rw[h.1];exact .nil
 |(kd,d)::r,_,F,ok,hS,h=>by
  obtain⟨y,ys,F1,F2,rfl,hF,dj,h1,h2⟩:=h;rw[LA,Kn] at ok;exact .cons (h1.sh ok.1 m λb z=>⟨(hS b z).1,λz2=>(hS b z).2 ((hF b).mpr (.inl z2))⟩) (VRL.sh m ok.2 (λb z=>⟨(hS b z).1,λz2=>(hS b z).2 ((hF b).mpr (.inr z2))⟩) h2)
theorem VRs.sh{kds:List (Kd×D)}(ok:(kds.all λp=>ph p.1 p.2)=true)(m:MuOk H0 (Sg g))(s:Same H0 H)(h:VRs K g H0 H kds vs):RpL K H (Sg g) (kds.map (·.2)) vs:=by
 obtain⟨F,h1,h2⟩:=h;refine h2.sh (m.same s) ok λb z=>⟨.inl z,λz2=>?_⟩;obtain⟨o,e,_⟩:=m b z;rw[h1 b z2] at e;cases e
theorem VRs.rd{kds:List (Kd×D)}(h:VRs K g H0 H kds vs):RpL K H (λ_=>False) (kds.map (·.2)) vs:=let ⟨F,h1,h2⟩:=h;h2.rd
theorem VRs.nil:VRs K g H0 H [] []:=⟨λ_=>False,λb z=>z.elim,rfl,λb z=>z⟩
open Classical in
noncomputable def Gh.plus(g:Gh)(F:Pr):Gh:=λb=>if F b then some none else g b
theorem ai(b:Addr):Sg (g.plus F) b↔Sg g b\/F b:=by
 unfold Gh.plus Sg;by_cases h:F b
 ·simp[h]
 ·simp[h]
theorem bw{i:Nat}(h:g.plus F b=some (some i)):g b=some (some i):=by
 unfold Gh.plus at h;split at h
 ·cases h
 ·exact h
theorem bI{i:Nat}(h:g b=some (some i))(n:¬F b):g.plus F b=some (some i):=by
 unfold Gh.plus;rw[if_neg n];exact h
theorem VR1.unplus{F1:Pr}(h:VR1 K H (g.plus F1) Ft kd d v F):VR1 K H g (λb=>F1 b\/Ft b) kd d v F:=by
 have k3:∀b o,H b=some o->¬Sx (g.plus F1) Ft b->¬Sx g (λb=>F1 b\/Ft b) b:=λb o e n z=>n (z.elim (λz=>.inl ((ai b).mpr (.inl z))) λz=>z.elim (λz=>.inl ((ai b).mpr (.inr z))) .inr)
 cases kd with
 |sh=>exact⟨h.1,h.2.go λb o n e=>⟨e,k3 b o e n⟩⟩
 |fr k=>exact Tr.go (λb o _ e=>e) k3 h
 |bo i k=>obtain⟨h1,F0,h2,h3⟩:=h;exact⟨h1,F0,λb z=>bw (h2 b z),Tr.go (λb o _ e=>e) k3 h3⟩
theorem VRL.unplus{F1:Pr}:∀{kds:List (Kd×D)} {vs:List V} {F:Pr},VRL K H (g.plus F1) Ft kds vs F->VRL K H g (λb=>F1 b\/Ft b) kds vs F
 |[],_,_,h=>h
 |(kd,d)::r,_,_,h=>by
  obtain⟨y,ys,F1,F2,e,hF,dj,h1,h2⟩:=h;exact⟨y,ys,F1,F2,e,hF,dj,h1.unplus,VRL.unplus h2⟩
theorem VRs.cons{kd:Kd}{d:D}{v:V}{kds:List (Kd×D)}{vs:List V}{F1:Pr}(s:Same H0 H)(s1:Same H H')(a1:∀b,F1 b->H0 b=none)(a2:VR1 K H g F1 kd d v F1)(h2:VRs K (g.plus F1) H H' kds vs):VRs K g H0 H' ((kd,d)::kds) (v::vs):=by
 obtain⟨F2,b1,b2⟩:=h2;have dd:=a2.dom;refine⟨λb=>F1 b\/F2 b,λb z=>z.elim (a1 b) λz=>s.free (b1 b z),v,vs,F1,F2,rfl,λb=>Iff.rfl,λb z1 z2=>?_,a2.go s1 λb o e z=>z.elim id λz=>?_,b2.unplus⟩
 ·obtain⟨o,e,_⟩:=dd b z1;rw[b1 b z2] at e;cases e
 ·rw[b1 b z] at e;cases e
theorem VRs.one(h:VRs K g H0 H [(kd,d)] vs):∃v,vs=[v]/\VR K g H0 H kd d v:=by
 obtain⟨F,h1,y,ys,F1,F2,rfl,hF,dj,h3,h4,h5⟩:=h;subst h4;have e:∀b,F b->F1 b:=λb z=>((hF b).mp z).elim id λz=>absurd z (h5 b);exact⟨y,rfl,F1,λb z=>h1 b ((hF b).mpr (.inl z)),h3.go (λ_ _ h=>h) λb _ _ z=>(hF b).mpr (.inl z)⟩
end
structure Sl where
 lk:Bool
 k:Ow
 d:D
noncomputable abbrev Ro:=List (Option Sl)
noncomputable def pi:Ow->Bool
 |.fz=>true
 |_=>false
noncomputable def fX(i:Nat)(s:Sl):Kd×D:=(if pi s.k then .sh else .bo i s.k,s.d)
structure SE(K:Km)(g:Gh)(ρ:Ro)(σ:St)(H:Hp):Prop where
 slot:∀(i:Nat) (s:Sl),ρ[i]?=some (some s)->∃v F,σ[i]?=some (some v)/\(∀b,F b->g b=some (some i))/\Tr K H (Sg g) s.d s.k v F
 mu:MuOk H (Sg g)
 len:ρ.length=σ.length
section
variable {K:Km} {H H' H0 H1:Hp} {g g':Gh} {ρ:Ro} {σ:St}
theorem SE.same(h:SE K g ρ σ H)(s:Same H H'):SE K g ρ σ H':=
 ⟨λi sl e=>let ⟨v,F,e1,e2,e3⟩:=h.slot i sl e;⟨v,F,e1,e2,e3.go (λb o _ e=>s b o e) λb o _ n=>n⟩,h.mu.same s,h.len⟩
theorem jk(h:pi k=true):k=.fz:=by cases k with|fz=>rfl|own es r=>cases h
theorem SE.get(h:SE K g ρ σ H){i:Nat}{s:Sl}(e:ρ[i]?=some (some s)):∃v,σ[i]?=some (some v)/\VR K g H H (fX i s).1 (fX i s).2 v:=by
 obtain⟨v,F,e1,e2,e3⟩:=h.slot i s e;refine⟨v,e1,λ_=>False,λb z=>z.elim,?_⟩;have t:Tr K H (Sx g λ_=>False) s.d s.k v F:=e3.go (λ_ _ _ h=>h) λb o _ n z=>n (z.elim id λz=>z.elim);unfold fX
 cases hk:pi s.k with
 |true=>
  rw[jk hk] at t;exact⟨λb z=>z,t.fz_inv.2⟩
 |false=>exact⟨λb z=>z,F,e2,t⟩
theorem SE.plus{F:Pr}(h:SE K g ρ σ H)(s:Same H H')(hF:∀b,F b->H b=none)(dd:∀b,F b->∃o,H' b=some o/\∀xs,o≠.tup xs):SE K (g.plus F) ρ σ H':=by
 refine⟨λi sl e=>?_,λb z=>?_,h.len⟩
 ·obtain⟨v,F0,e1,e2,e3⟩:=h.slot i sl e;refine⟨v,F0,e1,λb z=>bI (e2 b z) λz2=>?_,e3.go (λb o _ e=>s b o e) λb o e n z=>?_⟩
  ·obtain⟨o,q,_⟩:=e3.dom b z;rw[hF b z2] at q;cases q
  ·rcases(ai b).mp z with z|z
   ·exact n z
   ·rw[hF b z] at e;cases e
 ·rcases(ai b).mp z with z|z
  ·exact h.mu.same s b z
  ·exact dd b z
end
section
variable (X:Cx)
noncomputable def wE(e:Expr):TE:=λσ H Q=>∀pins s,Inv X pins σ H s->wpAny (model X.prog X.w) X.A (eval e X.env) (EP X pins σ Q) X.xe s
noncomputable def wT(e:Expr):TT:=λσ H Q=>∀pins s,Inv X pins σ H s->wpAny (model X.prog X.w) X.A (isTrue e X.env (eval e X.env)) (TP X pins σ Q) X.xe s
noncomputable def wW(e:Expr):TT:=λσ H Q=>∀whole pins s,Inv X pins σ H s->wpAny (model X.prog X.w) X.A (isTrue e X.env whole) (TP X pins σ Q) X.xe s
noncomputable def wA(es:List Expr):TA:=λσ H Q=>∀pos pins s,Inv X pins σ H s->wpAny (model X.prog X.w) X.A (spliced (backTo pos (starEach es X.env))) (AP X pins σ Q) X.xe s
noncomputable def wG(tg:Expr):TG:=λv σ H Q=>∀pins s u,Inv X pins σ H s->RelV v u->wpAny (model X.prog X.w) X.A (assign tg X.env u) (λ_ s'=>∃σ' H',Inv X pins σ' H' s'/\Q σ' H') X.xe s
noncomputable def wI(tg iter:Expr):TI:=λσ H R=>∀pins s,Inv X pins σ H s->wpAny (model X.prog X.w) X.A (eval iter X.env) (λv s1=>wpAny (model X.prog X.w) X.A (pyIter v) (Ha X pins σ tg R) X.xe s1) X.xe s
end
section
variable {X:Cx}
theorem au:PE X e (wE X e):=λpins s σ H Q I h=>h pins s I
theorem dN:PT X e (wT X e):=λpins s σ H Q I h=>h pins s I
theorem nw:PW X e (wW X e):=λwh pins s σ H Q I h=>h wh pins s I
theorem cq:PA X es (wA X es):=λpos pins s σ H Q I h=>h pos pins s I
theorem xZ:PI X tg iter (wI X tg iter):=λpins s σ H R I h=>h pins s I
theorem ya:PG X tg (wG X tg):=λpins s σ H v u Q I r h=>h pins s u I r
theorem ak{t:TE}(p:PE X e t){σ:St}{H:Hp}{Q:VK}(h:t σ H Q):wE X e σ H Q:=λpins s I=>p pins s σ H Q I h
theorem ny{t:TT}(p:PT X e t){σ:St}{H:Hp}{Q:Bool->Hp->Prop}(h:t σ H Q):wT X e σ H Q:=λpins s I=>p pins s σ H Q I h
theorem eN{t:TT}(p:PW X e t){σ:St}{H:Hp}{Q:Bool->Hp->Prop}(h:t σ H Q):wW X e σ H Q:=λwh pins s I=>p wh pins s σ H Q I h
theorem jH{t:TA}(p:PA X es t){σ:St}{H:Hp}{Q:List V->Hp->Prop}(h:t σ H Q):wA X es σ H Q:=λpos pins s I=>p pos pins s σ H Q I h
theorem gC{t:TI}(p:PI X tg iter t){σ:St}{H:Hp}{R:It->Hp->Prop}(h:t σ H R):wI X tg iter σ H R:=λpins s I=>p pins s σ H R I h
theorem uG{t:TG}(p:PG X tg t){v:V}{σ:St}{H:Hp}{Q:St->Hp->Prop}(h:t v σ H Q):wG X tg v σ H Q:=λpins s u I r=>p pins s σ H v u Q I r h
end
noncomputable def SndE(X:Cx)(f:Ro->Option (Kd×D))(e:Expr):Prop:=∀ρ kd d,f ρ=some (kd,d)->∀g σ H Q,SE X.K g ρ σ H->(∀v H',Same H H'->VR X.K g H H' kd d v->Q v H')->wE X e σ H Q
noncomputable def SndT(X:Cx)(f:Ro->Option Bool)(e:Expr):Prop:=∀ρ b,f ρ=some b->∀g σ H Q,SE X.K g ρ σ H->(∀H',Same H H'->Q b H')->wT X e σ H Q
noncomputable def jI(X:Cx)(f:Ro->Option (List (Kd×D)))(es:List Expr):Prop:=∀ρ kds,f ρ=some kds->∀g σ H Q,SE X.K g ρ σ H->(∀vs H',Same H H'->VRs X.K g H H' kds vs->Q vs H')->wA X es σ H Q
end J
namespace G
open PySem PySem.Spec L2 PyProof.Rows
section
variable {X:Cx}
end
end G
namespace G
open PySem PySem.Spec PyProof.Rows L2
section
variable {X:Cx} {tg:Expr}
end
noncomputable abbrev Kk:=L2.eP
instance:LawfulBEq Kk where
 eq_of_beq:=λ{a b} h=>by
  cases a<;>cases b
  ·have h:_==_:=h;exact congrArg Sum.inl (eq_of_beq h)
  ·cases h
  ·cases h
  ·exact congrArg Sum.inr (eq_of_beq (show _==_ from h))
 rfl:=λ{a}=>by
  cases a
  ·exact beq_self_eq_true (α:=Int) _
  ·exact beq_self_eq_true (α:=Str) _
section
variable {prog:Program} {w:World} {A:Around} {R:Result->Shared->Prop} {J:Addr} {fp wr:List Addr} {GG:Array GenState->Array GenState->Prop} {n:Nat} {P:Nat->Value->Prop} {St:Nat->Shared->Prop}
end
section
variable {prog:Program} {w:World} {A:Around} {E:Value->Shared->Prop} {s:Shared}
end
section
variable {X:Cx}
end
end G
set_option exponentiation.threshold 5000
namespace J
open PySem PySem.Spec L2
mutual
noncomputable def py:D->PyData
 |.non=>.none
 |.bl b=>.bool b
 |.int i=>.int i
 |.str x=>.str x
 |.scr ns=>.list (ns.map .int)
 |.nd .lst ds=>.list (m6 ds)
 |.nd .tup ds=>.tuple (m6 ds)
 |.nd (.dic _ _) _=>.dict []
 |.nd (.obj _ _) _=>.none
noncomputable def m6:List D->List PyData
 |[]=>[]
 |d::ds=>py d::m6 ds
end
mutual
noncomputable def cC:Nat->D->Bool
 |_,.non=>true
 |_,.bl _=>true
 |_,.int _=>true
 |_,.str x=>PyData.strOk x
 |n,.scr _=>decide (1<=n)
 |n,.nd .lst ds=>decide (1<=n)&&bF (n-1) ds
 |n,.nd .tup ds=>decide (1<=n)&&bF (n-1) ds
 |_,.nd (.dic _ _) _=>false
 |_,.nd (.obj _ _) _=>false
noncomputable def bF:Nat->List D->Bool
 |_,[]=>true
 |n,d::ds=>cC n d&&bF n ds
end
section
variable {X:Cx} {pins:List (Addr×Obj)} {σ:L2.St} {H:Hp} {s:Shared} {S:Pr}
theorem fK:∀{ns:List Int} {us:List Value},Vals (ns.map V.int) us->∃as,ReadsAll h us (ns.map .int) as
 |[],_,.nil=>⟨_,.nil⟩
 |n::ns,_,.cons r t=>by
  obtain⟨t',e⟩:=(show ∃t,_=Value.int n t from r);subst e;obtain⟨as,q⟩:=fK t;exact⟨_,.cons (.int n t') q⟩
theorem jl:∀ns:List Int,PyData.canLayAll0 (ns.map .int)=true/\PyData.depthAll (ns.map .int)=0
 |[]=>by simp[PyData.canLayAll0,PyData.depthAll]
 |n::ns=>by
  have:=jl ns;simp[PyData.canLayAll0,PyData.depthAll,PyData.canLay0,PyData.depth,this]
mutual
theorem bB(I:Inv X pins σ H s):∀{d:D} {n:Nat} {v:V} {u:Value},cC n d=true->Rp X.K H S d v->RelV v u->(∃as,Reads s.heap u (py d) as)/\(py d).canLay0=true/\(py d).depth<=n
 |.non,n,v,u,_,r,e=>by unfold Rp at r;subst r;cases e;simp only[py];exact⟨⟨_,.none⟩,by simp[PyData.canLay0],by simp[PyData.depth]⟩
 |.bl b,n,v,u,_,r,e=>by unfold Rp at r;subst r;cases e;simp only[py];exact⟨⟨_,.bool b⟩,by simp[PyData.canLay0],by simp[PyData.depth]⟩
 |.int i,n,v,u,_,r,e=>by unfold Rp at r;subst r;obtain⟨t,rfl⟩:=e;simp only[py];exact⟨⟨_,.int i t⟩,by simp[PyData.canLay0],by simp[PyData.depth]⟩
 |.str x,n,v,u,h,r,e=>by unfold Rp at r;subst r;obtain⟨t,rfl⟩:=e;simp only[py];exact⟨⟨_,.str x t⟩,by simpa[PyData.canLay0,cC] using h,by simp[PyData.depth]⟩
 |.scr ns,n,v,u,h,r,e=>by
  unfold Rp at r;obtain⟨a,rfl,r⟩:=r;cases e;have q:SqL X.K H a (ns.map V.int):=r.elim (λr=>.inl r.2) .inr;obtain⟨its,vs,⟨o,m,g1,g2,g3,g4⟩,z⟩:=I.list q;obtain⟨as,ra⟩:=fK (h:=s.heap) vs;simp only[py];have hn:1<=n:=by simpa[cC] using h
  exact⟨⟨_,.list g1 g2 g4 (by simpa using ra)⟩,by simpa[PyData.canLay0] using(jl ns).1,by simp[PyData.depth,(jl ns).2,hn]⟩
 |.nd .lst ds,n,v,u,h,r,e=>by
  unfold Rp at r;obtain⟨a,o,xs,rfl,na,g,q,rl⟩:=r;cases e;have q:o=.lst xs:=q;subst q;obtain⟨its,vs,⟨o,m,g1,g2,g3,g4⟩,z⟩:=I.list (SqL.of g);simp only[cC,Kn,decide_eq_true_eq] at h;obtain⟨⟨as,ra⟩,l1,l2⟩:=iw I h.2 rl vs;simp only[py];exact⟨⟨_,.list g1 g2 g4 (by simpa using ra)⟩,by simpa[PyData.canLay0] using l1,by simp only[PyData.depth];lia⟩
 |.nd .tup ds,n,v,u,h,r,e=>by
  unfold Rp at r;obtain⟨a,o,xs,rfl,na,g,q,rl⟩:=r;cases e;have q:o=.tup xs:=q;subst q;obtain⟨its,vs,⟨o,g1,g2,m,g4⟩,z⟩:=I.tuple (SqT.of g);simp only[cC,Kn,decide_eq_true_eq] at h;obtain⟨⟨as,ra⟩,l1,l2⟩:=iw I h.2 rl vs;simp only[py];exact⟨⟨_,.tuple g1 g2 g4 (by simpa using ra)⟩,by simpa[PyData.canLay0] using l1,by simp only[PyData.depth];lia⟩
 |.nd (.dic _ _) _,n,v,u,h,r,e=>by simp[cC] at h
 |.nd (.obj _ _) _,n,v,u,h,r,e=>by simp[cC] at h
theorem iw(I:Inv X pins σ H s):∀{ds:List D} {n:Nat} {xs:List V} {us:List Value},bF n ds=true->RpL X.K H S ds xs->Vals xs us->(∃as,ReadsAll s.heap us (m6 ds) as)/\PyData.canLayAll0 (m6 ds)=true/\PyData.depthAll (m6 ds)<=n
 |[],n,xs,us,_,r,e=>by rw[r.nil_inv] at e;cases e;simp only[m6];exact⟨⟨_,.nil⟩,by simp[PyData.canLayAll0],by simp[PyData.depthAll]⟩
 |d::ds,n,xs,us,h,r,e=>by
  obtain⟨y,ys,rfl,r1,r2⟩:=r.cons_inv;simp only[bF,Kn] at h
  cases e with
  |cons e1 e2=>
   obtain⟨⟨as,ra⟩,l1,l2⟩:=bB I h.1 r1 e1;obtain⟨⟨bs,rb⟩,m1,m2⟩:=iw I h.2 r2 e2;simp only[m6];exact⟨⟨_,.cons ra rb⟩,by simp[PyData.canLayAll0,l1,m1],by simp only[PyData.depthAll];lia⟩
end
end
noncomputable def iU(x y:D):Bool:=PyData.eqv (py x) (py y)
noncomputable def lim:Nat:=2^4000
noncomputable abbrev aZ:Ow:=.own [] .fz
noncomputable def gE:Ow->Bool
 |.fz=>true
 |.own es r=>es.all pi&&pi r
noncomputable def ip:Kd->List D->Bool
 |.bo _ k,ds=>gE k||xY ds
 |_,_=>true
noncomputable abbrev KD:=Kd×D
noncomputable def nz:Operator->Int->Int->Option Int
 |.Add,i,j=>some (i+j)
 |.Sub,i,j=>some (i-j)
 |.Mult,i,j=>if i.natAbs<lim/\j.natAbs<lim then some (i*j) else none
 |.FloorDiv,i,j=>if 0<j/\j.natAbs<lim then some (i / j) else none
 |.Mod,i,j=>if 0<j then some (i%j) else none
 |.LShift,i,j=>if 0<=j/\j<=1000000/\i.natAbs<lim then some (i*2^j.toNat) else none
 |.Pow,i,j=>if 0<=j/\j<=1000000/\i.natAbs<2^64 then some (i^j.toNat) else none
 |_,_,_=>none
noncomputable def DX(op:Operator)(k:Kd)(xs:List D)(y:KD):Option KD:=match op with
 |.Add=>(match y.2 with
  |.nd hd ys=>(match hd with
   |.lst=>if ip k xs=true/\ip y.1 ys=true/\xs.length+ys.length<=100000 then some (.fr aZ,.lst (xs++ys)) else none
   |_=>none)
  |_=>none)
 |_=>none
noncomputable def DY(op:Operator)(k:Kd)(xs:List D)(y:KD):Option KD:=none
noncomputable def DZ(op:Operator)(i:Str)(y:D):Option KD:=none
noncomputable def eR(op:Operator)(x y:KD):Option KD:=match x.2 with
 |.int i=>(match y.2 with|.int j=>(match nz op i j with|some z=>some (.sh,.int z)|none=>none)|_=>none)
 |.nd hd xs=>(match hd with|.lst=>DX op x.1 xs y|.tup=>DY op x.1 xs y|_=>none)
 |.str i=>DZ op i y.2
 |_=>none
theorem gG{i j z:Int}(h:nz op i j=some z):eR op (k,.int i) (k',.int j)=some (.sh,.int z):=by
 show(match nz op i j with|some z=>some (Kd.sh,D.int z)|none=>none)=_
 rw[h]
theorem uH{p:Prop}[Decidable p]{α:Type}{a b:α}(h:(if p then some a else none)=some b):p/\b=a:=by
 by_cases hp:p
 ·rw[if_pos hp] at h;cases h;exact⟨hp,rfl⟩
 ·rw[if_neg hp] at h;cases h
theorem aT{n:Nat}(h:n<=100000):n<=sizeLine:=KN h (by decide)
section
variable {K:Km} {H H' H0:Hp} {S:Pr} {g:Gh}
theorem Rp.int{i:Int}(h:Rp K H S (.int i) v):v=.int i:=by unfold Rp at h;exact h
theorem Rp.bl{i:Bool}(h:Rp K H S (.bl i) v):v=.bl i:=by unfold Rp at h;exact h
theorem Rp.str{i:Str}(h:Rp K H S (.str i) v):v=.str i:=by unfold Rp at h;exact h
theorem Rp.non(h:Rp K H S .non v):v=.non:=by unfold Rp at h;exact h
theorem Rp.nd(h:Rp K H S (.nd hd ds) v):∃a o xs,v=.ref a/\¬S a/\H a=some o/\i8 K o hd xs/\RpL K H S ds xs:=by unfold Rp at h;exact h
theorem Rp.scr{ns:List Int}(h:Rp K H S (.scr ns) v):∃a,v=.ref a/\SqL K H a (ns.map V.int):=by
 unfold Rp at h;obtain⟨a,e,h⟩:=h;exact⟨a,e,h.elim (λh=>.inl h.2) .inr⟩
theorem i9{i:Int}:VR K g H0 H .sh (.int i) (.int i):=⟨λ_=>False,λ_ z=>z.elim,λ_ z=>z,by unfold Rp;rfl⟩
theorem yb{i:Bool}:VR K g H0 H .sh (.bl i) (.bl i):=⟨λ_=>False,λ_ z=>z.elim,λ_ z=>z,by unfold Rp;rfl⟩
theorem Hw{i:Str}:VR K g H0 H .sh (.str i) (.str i):=⟨λ_=>False,λ_ z=>z.elim,λ_ z=>z,by unfold Rp;rfl⟩
theorem D0:VR K g H0 H .sh .non .non:=⟨λ_=>False,λ_ z=>z.elim,λ_ z=>z,by unfold Rp;rfl⟩
theorem D2(h:Rp K H (Sg g) d v):VR K g H0 H .sh d v:=⟨λ_=>False,λ_ z=>z.elim,λ_ z=>z,h.weak λb z=>z.elim id λz=>z.elim⟩
theorem af(hp:H p=none):Same H (upd H p o):=λb u q=>by rw[aj (aD q hp)];exact q
theorem TrL.ofFz:∀{ds:List D} {xs:List V},RpL K H S ds xs->TrL K H S ds [] .fz xs λ_=>False
 |[],_,h=>by unfold TrL;exact⟨h.nil_inv,λ_ z=>z⟩
 |d::ds,_,h=>by
  obtain⟨y,ys,rfl,r,t⟩:=h.cons_inv;unfold TrL;exact⟨y,ys,_,_,rfl,λb=>⟨.inl,λz=>z.elim id id⟩,λ_ z=>z.elim,Tr.fz r,TrL.ofFz t⟩
theorem l5(hp:H p=none)(r:RpL K H (Sg g) ds xs):VR K g H (upd H p (.lst xs)) (.fr aZ) (.lst ds) (.ref p):=by
 refine⟨λb=>b=p,λb z=>z▸hp,?_⟩;show Tr K _ _ _ _ _ _;unfold Tr
 refine⟨p,_,xs,λ_=>False,rfl,aE,rfl,λ_ z=>z,(λh=>nomatch h),λb=>⟨λz=>.inl ⟨rfl,z⟩,λz=>z.elim (λz=>z.2) λz=>z.elim⟩,.ofFz (r.go λb o n e=>⟨af hp b o e,λz=>z.elim n λz=>?_⟩)⟩
 subst z;rw[hp] at e;cases e
theorem A4(m:MuOk H (Sg g))(hp:H p=none)(r:RpL K H (Sg g) ds xs):VR K g H (upd H p (.tup xs)) .sh (.tup ds) (.ref p):=by
 refine D2 ?_;unfold Rp;refine⟨p,_,xs,rfl,λz=>?_,aE,rfl,r.same (af hp)⟩;obtain⟨o,e,_⟩:=m p z;rw[hp] at e;cases e
theorem qH{es:List Ow}(h:gE (.own es r)=true):(∀e∈es,e=.fz)/\r=.fz:=by
 simp only[gE,Kn,Lc] at h;exact⟨λe he=>jk (h.1 e he),jk h.2⟩
theorem TrL.flat:∀{ds:List D} {es:List Ow} {xs:List V} {F:Pr},(∀e∈es,e=.fz)->TrL K H S ds es .fz xs F->(∀b,¬F b)/\RpL K H S ds xs
 |[],_,_,_,_,h=>by unfold TrL at h;exact⟨h.2,by rw[h.1];exact .nil⟩
 |d::ds,es,_,_,he,h=>by
  unfold TrL at h;obtain⟨y,ys,F1,F2,rfl,hF,dj,h1,h2⟩:=h
  have e:es.headD .fz=.fz:=by
   cases es with
   |nil=>rfl
   |cons a r=>exact he a (.head _)
  rw[e] at h1;obtain⟨n1,r1⟩:=h1.fz_inv
  obtain⟨n2,r2⟩:=TrL.flat (λe q=>he e (by cases es with|nil=>cases q|cons a r=>exact .tail _ q)) h2
  exact⟨λb z=>((hF b).mp z).elim (n1 b) (n2 b),.cons r1 r2⟩
theorem VR.items(ok:ip kd ds=true)(m:MuOk H0 (Sg g))(s:Same H0 H)(h:VR K g H0 H kd (.nd hd ds) v):∃a o xs,v=.ref a/\H a=some o/\i8 K o hd xs/\RpL K H (Sg g) ds xs:=by
 have ns:∀{kd':Kd},ph kd' (.nd hd ds)=true->VR K g H0 H kd' (.nd hd ds) v->∃a o xs,v=.ref a/\H a=some o/\i8 K o hd xs/\RpL K H (Sg g) ds xs:=λok h=>by
  obtain⟨a,o,xs,e,_,q1,q2,q3⟩:=(h.sh ok m s).nd;exact⟨a,o,xs,e,q1,q2,q3⟩
 cases kd with
 |sh=>exact ns rfl h
 |fr k=>exact ns rfl h
 |bo i k=>
  simp only[ip,K8] at ok;rcases ok with ok|ok
  ·obtain⟨F,h1,h2,F0,h3,h4⟩:=h
   cases k with
   |fz=>
    obtain⟨_,r⟩:=h4.fz_inv;obtain⟨a,o,xs,e,_,q1,q2,q3⟩:=r.nd;exact⟨a,o,xs,e,q1,q2,q3.weak λb z=>.inl z⟩
   |own es r=>
    obtain⟨he,rfl⟩:=qH ok;unfold Tr at h4;obtain⟨a,o,xs,F',e,q1,q2,n1,n2,hF,t⟩:=h4;exact⟨a,o,xs,e,q1,q2,(t.flat he).2.weak λb z=>.inl z⟩
  ·obtain⟨a,o,xs,e,_,q1,q2,q3⟩:=h.rd.nd;exact⟨a,o,xs,e,q1,q2,q3.im (m.same s) ok⟩
end
noncomputable def Hx(K:Km)(op:Operator):R2:=λx y H Q=>∃g H0 kx ky kd d,MuOk H0 (Sg g)/\Same H0 H/\VR K g H0 H kx.1 kx.2 x/\VR K g H0 H ky.1 ky.2 y/\eR op kx ky=some (kd,d)/\∀v H',Same H H'->VR K g H H' kd d v->Q v H'
theorem D3{i j:Int}(h:i.natAbs<lim/\j.natAbs<lim):IntMulOk i j:=
 IntMulOk.of_bits (KN (PyProof.Rows.intBits_le (k:=4000) h.1) (by decide)) (KN (PyProof.Rows.intBits_le (k:=4000) h.2) (by decide))
theorem yc{j:Int}(h:j.natAbs<lim):j.natAbs.log2<9000:=by
 by_cases z:j.natAbs=0
 ·rw[z];decide
 ·exact Kz ((Nat.log2_lt z).mpr h) (by decide)
theorem yd:i5 X (binaryOp .Mult) (rI (λi j=>i.natAbs<lim/\j.natAbs<lim) λi j=>.int (i*j)):=DF λ_ _ _ _ _ _ _ hc q=>PyProof.Rows.mul_int q (D3 hc)
theorem uI:i5 X (binaryOp .FloorDiv) (rI (λi j=>0<j/\j.natAbs<lim) λi j=>.int (i / j)):=DF λi j _ _ _ _ _ hc q=>by
 have h1:(0:Int)<j:=hc.1;exact PyProof.Rows.floordiv_int (by lia) (by rw[Int.fdiv_eq_ediv_of_nonneg i (by lia)];exact q) (.inl (PyProof.noPylong_of_log2 (yc hc.2)))
theorem ye:i5 X (binaryOp .LShift) (rI (λi j=>0<=j/\j<=1000000/\i.natAbs<lim) λi j=>.int (i*2^j.toNat)):=DF λi j _ _ _ _ _ hc q=>by
 have hb:=PyProof.Rows.intBits_le (k:=4000) hc.2.2;exact PyProof.Rows.lshift_int hc.1 (by have:=hc.2.1;lia) q
theorem uJ{X:Cx}(op:Operator):i5 X (binaryOp op) (Hx X.K op):=by
 intro pins s σ H x y v u Q I rx ry h;obtain⟨g,H0,⟨kx,dx⟩,⟨ky,dy⟩,kd,d,m,sm,tx,ty,hb,q⟩:=h;dsimp only at tx ty
 cases dx with
 |int i=>cases dy with
  |int j=>
   obtain⟨rfl,rfl⟩:x=.int i/\y=.int j:=⟨tx.rd.int,ty.rd.int⟩
   have hb:(match nz op i j with|some z=>some (Kd.sh,D.int z)|none=>none)=some (kd,d):=hb
   cases hz:nz op i j with
   |none=>rw[hz] at hb;cases hb
   |some z=>
    rw[hz] at hb;cases hb;have q:Q (.int z) H:=q _ H (Same.refl H) i9
    cases op with
    |Add=>cases hz;exact AQ pins s σ H _ _ v u Q I rx ry ⟨_,_,rfl,rfl,q⟩
    |Sub=>cases hz;exact AR pins s σ H _ _ v u Q I rx ry ⟨_,_,rfl,rfl,q⟩
    |Mult=>obtain⟨hm,rfl⟩:=uH (show(if _ then some (i*j) else none)=some z from hz);exact yd pins s σ H _ _ v u Q I rx ry ⟨_,_,rfl,rfl,hm,q⟩
    |FloorDiv=>obtain⟨hm,rfl⟩:=uH (show(if _ then some (i / j) else none)=some z from hz);exact uI pins s σ H _ _ v u Q I rx ry ⟨_,_,rfl,rfl,hm,q⟩
    |Mod=>obtain⟨hm,rfl⟩:=uH (show(if _ then some (i%j) else none)=some z from hz);exact AS pins s σ H _ _ v u Q I rx ry ⟨_,_,rfl,rfl,hm,q⟩
    |LShift=>obtain⟨hm,rfl⟩:=uH (show(if _ then some (i*2^j.toNat) else none)=some z from hz);exact ye pins s σ H _ _ v u Q I rx ry ⟨_,_,rfl,rfl,hm,q⟩
    |Pow=>obtain⟨hm,rfl⟩:=uH (show(if _ then some (i^j.toNat) else none)=some z from hz);exact AT pins s σ H _ _ v u Q I rx ry ⟨_,_,rfl,rfl,hm,q⟩
    |_=>cases hz
  |_=>cases hb
 |nd hd xs=>cases hd with
  |lst=>cases op with
   |Add=>cases dy with
    |nd hd' ys=>cases hd' with
     |lst=>
      obtain⟨hz,e⟩:=uH (show(if _ then some (Kd.fr aZ,D.lst (xs++ys)) else none)=some (kd,d) from hb)
      cases e;obtain⟨a,o,us,rfl,ga,qa,ra⟩:=tx.items hz.1 m sm;obtain⟨b,o',vs,rfl,gb,qb,rb⟩:=ty.items hz.2.1 m sm;cases(show o=_ from qa);cases(show o'=_ from qb);refine AY pins s σ H _ _ v u Q I rx ry ⟨a,b,us,vs,rfl,rfl,ga,gb,by rw[ra.len,rb.len];exact aT hz.2.2,λp hp=>q _ _ (af hp) (l5 hp (ra.append rb))⟩
     |_=>cases hb
    |_=>cases hb
   |_=>cases hb
  |tup=>cases hb
  |_=>cases hb
 |str i=>cases hb
 |_=>cases hb
end J
namespace J
open PySem PySem.Spec L2
noncomputable def uK:D->Option eP
 |.int i=>some (.inl i)
 |.str x=>some (.inr x)
 |_=>none
noncomputable def uL:List D->Option (List eP)
 |[]=>some []
 |d::ds=>match uK d,uL ds with
  |some k,some ks=>some (k::ks)
  |_,_=>none
noncomputable def JR:D->Option (eP ⊕ List eP)
 |.nd .tup ds=>(uL ds).map .inr
 |d=>(uK d).map .inl
section
variable {K:Km} {H:Hp} {S:Pr}
end
noncomputable def uM:D->Bool
 |.non=>true
 |_=>false
noncomputable def D4(b:Bool):D->Bool
 |.bl c=>c==b
 |_=>false
noncomputable def D5:D->Bool
 |.nd (.dic 0 []) _=>true
 |_=>false
noncomputable def uN:List D->List D->Option Bool
 |[],[]=>some true
 |x::xs,y::ys=>if cC 80 x=true/\cC 80 y=true then(uN xs ys).map (iU x y&&·) else if D5 x=true/\D5 y=true then uN xs ys else none
 |_,_=>none
noncomputable def De(x y:D):Option Bool:=match x with
 |.nd .lst ds=>(match y with|.nd .lst es=>(uN ds es).map (!·)|_=>none)
 |_=>none
noncomputable def bf(op:CmpOp)(x y:D):Option Bool:=
 match op with
 |.Lt=>(match x,y with|.int i,.int j=>some (decide (i<j))|_,_=>none)
 |.LtE=>(match x,y with|.int i,.int j=>some (decide (i<=j))|_,_=>none)
 |.Gt=>(match x,y with|.int i,.int j=>some (decide (j<i))|_,_=>none)
 |.GtE=>(match x,y with|.int i,.int j=>some (decide (j<=i))|_,_=>none)
 |.Eq=>if cC 90 x=true/\cC 90 y=true then some (iU x y) else none
 |.NotEq=>if cC 90 x=true/\cC 90 y=true then some (!iU x y) else De x y
 |.In=>(match y with
  |.nd .tup ds=>if cC 90 x=true/\bF 90 ds=true then some (ds.any λz=>iU z x) else none
  |_=>none)
 |.NotIn=>(match y with
  |.nd .lst ds=>if cC 90 x=true/\bF 90 ds=true then some (!(ds.any λz=>iU z x)) else none
  |_=>none)
 |.Is=>(match y with
  |.non=>some (uM x)
  |.bl b=>some (D4 b x)
  |_=>none)
 |.IsNot=>none
noncomputable abbrev Nv:Pr:=λ_=>False
noncomputable def uO(K:Km)(op:CmpOp):R2:=λx y H Q=>∃dx dy b,Rp K H Nv dx x/\Rp K H Nv dy y/\bf op dx dy=some b/\Q (.bl b) H
theorem l6(x:D):∀ds:List D,((m6 ds).any λz=>PyData.eqv z (py x))=ds.any λz=>iU z x
 |[]=>by simp[m6]
 |d::ds=>by simp only[m6,List.any_cons,l6 x ds];rfl
theorem uP{X:Cx}{s:Shared}(I:Inv X pins σ H s):∀{d:D} {v:V} {u:Value},D5 d=true->Rp X.K H S d v->RelV v u->∃a,u=.ref a/\(a==sysModules)=false/\∀(prog:Program) (w:World),s.heap.DictOf (gz prog w) a []
 |.nd (.dic 0 []) ds,v,u,_,r,e=>by
  unfold Rp at r;obtain⟨a,o,xs,rfl,na,g,q,rl⟩:=r;cases e;obtain⟨_,kvs,rfl,hk,_⟩:=q
  ·obtain rfl:kvs=[]:=by cases kvs with|nil=>rfl|cons p q=>cases hk
   obtain⟨_,h2,vs,kv,o,es,ep,h3,h4,h5,h6,h7,h8⟩:=DU I.hok g;cases kv;refine⟨a,rfl,h2,λprog w=>⟨o,es,ep,h3,h4,h5,?_,?_,.nil⟩⟩
   ·have:es.toList=[]:=KY.mp (by have:=h7.length;simpa using this);intro e he;rw[<- Array.mem_toList_iff,this] at he;cases he
   ·have:es.toList=[]:=KY.mp (by have:=h7.length;simpa using this);rw[this];exact .nil
 |.non,_,_,h,_,_=>by cases h
 |.bl _,_,_,h,_,_=>by cases h
 |.int _,_,_,h,_,_=>by cases h
 |.str _,_,_,h,_,_=>by cases h
 |.scr _,_,_,h,_,_=>by cases h
 |.nd .lst _,_,_,h,_,_=>by cases h
 |.nd .tup _,_,_,h,_,_=>by cases h
 |.nd (.obj _ _) _,_,_,h,_,_=>by cases h
 |.nd (.dic (_+1) _) _,_,_,h,_,_=>by cases h
 |.nd (.dic 0 (_::_)) _,_,_,h,_,_=>by cases h
theorem uQ{X:Cx}(hu:X.A.in1.units+90<cLine)(I:Inv X pins σ H s):∀{ds es:List D} {b:Bool} {xs ys:List V} {us ws:List Value},uN ds es=some b->RpL X.K H S ds xs->Vals xs us->RpL X.K H S' es ys->Vals ys ws->
  us.length=ws.length/\∃f:Nat->Bool,(∀j (h1:j<us.length) (h2:j<ws.length),SeqAt.EqAt X.A.in1 s us[j] ws[j] (f j))/\(KG us.length).all f=b
 |[],[],b,xs,ys,us,ws,h,r,e,r',e'=>by
  rw[r.nil_inv] at e;cases e;rw[r'.nil_inv] at e';cases e';cases h;exact⟨rfl,λ_=>true,λj h=>absurd h (LQ _),rfl⟩
 |[],_::_,b,xs,ys,us,ws,h,r,e,r',e'=>by cases h
 |_::_,[],b,xs,ys,us,ws,h,r,e,r',e'=>by cases h
 |d::ds,d'::es,b,xs,ys,us,ws,h,r,e,r',e'=>by
  obtain⟨y,ys,rfl,r1,r2⟩:=r.cons_inv;obtain⟨z,zs,rfl,q1,q2⟩:=r'.cons_inv
  cases e with
  |@cons _ u _ us e1 e2=>
   cases e' with
   |@cons _ w _ ws k1 k2=>
    have key:∀(c b':Bool),SeqAt.EqAt X.A.in1 s u w c->uN ds es=some b'->(u::us).length=(w::ws).length/\∃f:Nat->Bool,(∀j (h1:j<(u::us).length) (h2:j<(w::ws).length),SeqAt.EqAt X.A.in1 s (u::us)[j] (w::ws)[j] (f j))/\(KG (u::us).length).all f=(c&&b'):=λc b' hc hb=>by
     obtain⟨hl,f,hf,ha⟩:=uQ hu I hb r2 e2 q2 k2
     refine⟨congrArg (·+1) hl,λj=>match j with|0=>c|j+1=>f j,λj h1 h2=>?_,?_⟩
     ·cases j with
      |zero=>exact hc
      |succ j=>exact hf j (MF h1) (MF h2)
     ·rw[KS,List.range_succ_eq_map,LA,List.all_map];show(c&&(KG us.length).all f)=_;rw[ha]
    unfold uN at h;split at h
    ·rename_i hp
     cases hb:uN ds es with
     |none=>rw[hb] at h;cases h
     |some b'=>
      rw[hb] at h;cases h;obtain⟨⟨as,ra⟩,a1,a2⟩:=bB I hp.1 r1 e1;obtain⟨⟨bs,rb⟩,b1,b2⟩:=bB I hp.2 q1 k1;exact key _ _ (SeqAt.eqAt_reads _ _ _ s _ _ _ _ ra rb a1 b1 (by lia)) hb
    ·split at h
     ·rename_i hp;obtain⟨a,rfl,ha,da⟩:=uP I hp.1 r1 e1;obtain⟨a',rfl,ha',da'⟩:=uP I hp.2 q1 k1;have:=key true b ?_ h
      ·rw[K7] at this;exact this
      ·by_cases haa:a=a'
       ·subst haa;exact SeqAt.EqAt.same _
       ·refine SeqAt.EqAt.of_refs haa λprog w E Q hq=>?_;exact PySem.W.keq_eq (knd:=gz prog w) ha ha' (da prog w) (da' prog w) (by lia) (r:=true) (λ_=>.nil) hq
     ·cases h
theorem fY{X:Cx}(hu:X.A.units+100<cLine)(op:CmpOp):i5 X (compareOp op) (uO X.K op):=by
 intro pins s σ H x y v u Q I rx ry h;obtain⟨dx,dy,b,tx,ty,hb,q⟩:=h;have hu1:X.A.units+1<cLine:=by lia
 have fin:∀{b':Bool},b'=b->EP X pins σ Q (.bool b') s:=λe=>⟨.bl b,H,I,by rw[e];rfl,q⟩
 have isV:∀(b':Bool),dy=.bl b'->plainIs v u=true/\(v==u)=D4 b' dx:=λb' e=>by
  subst e;have ey:=ty.bl;subst ey;cases ry
  cases dx with
  |non=>have e:=tx.non;subst e;cases rx;exact⟨rfl,rfl⟩
  |bl c=>have e:=tx.bl;subst e;cases rx;exact⟨rfl,by cases c<;>cases b'<;>rfl⟩
  |int i=>have e:=tx.int;subst e;obtain⟨t,rfl⟩:=rx;exact⟨rfl,rfl⟩
  |str i=>have e:=tx.str;subst e;obtain⟨t,rfl⟩:=rx;exact⟨rfl,rfl⟩
  |scr ns=>obtain⟨a,rfl,_⟩:=tx.scr;cases rx;exact⟨rfl,rfl⟩
  |nd hd ds=>obtain⟨a,o,xs,rfl,_⟩:=tx.nd;cases rx;exact⟨rfl,rfl⟩
 have isN:dy=.non->plainIs v u=true/\(v==u)=uM dx:=λe=>by
  subst e;have ey:=ty.non;subst ey;cases ry
  cases dx with
  |non=>have e:=tx.non;subst e;cases rx;exact⟨rfl,rfl⟩
  |bl c=>have e:=tx.bl;subst e;cases rx;exact⟨rfl,by cases c<;>rfl⟩
  |int i=>have e:=tx.int;subst e;obtain⟨t,rfl⟩:=rx;exact⟨rfl,rfl⟩
  |str i=>have e:=tx.str;subst e;obtain⟨t,rfl⟩:=rx;exact⟨rfl,rfl⟩
  |scr ns=>obtain⟨a,rfl,_⟩:=tx.scr;cases rx;exact⟨rfl,rfl⟩
  |nd hd ds=>obtain⟨a,o,xs,rfl,_⟩:=tx.nd;cases rx;exact⟨rfl,rfl⟩
 cases op with
 |Lt=>
  simp only[bf] at hb;split at hb
  ·cases hb;obtain rfl:=tx.int;obtain rfl:=ty.int;exact DG pins s σ H _ _ v u Q I rx ry ⟨_,_,rfl,rfl,q⟩
  ·cases hb
 |LtE=>
  simp only[bf] at hb;split at hb
  ·cases hb;obtain rfl:=tx.int;obtain rfl:=ty.int;exact DH pins s σ H _ _ v u Q I rx ry ⟨_,_,rfl,rfl,q⟩
  ·cases hb
 |Gt=>
  simp only[bf] at hb;split at hb
  ·cases hb;obtain rfl:=tx.int;obtain rfl:=ty.int;exact DI pins s σ H _ _ v u Q I rx ry ⟨_,_,rfl,rfl,q⟩
  ·cases hb
 |GtE=>
  simp only[bf] at hb;split at hb
  ·cases hb;obtain rfl:=tx.int;obtain rfl:=ty.int;exact DJ pins s σ H _ _ v u Q I rx ry ⟨_,_,rfl,rfl,q⟩
  ·cases hb
 |Eq=>
  simp only[bf] at hb;split at hb
  ·rename_i hp;cases hb;obtain⟨⟨as,ra⟩,a1,a2⟩:=bB I hp.1 tx rx;obtain⟨⟨bs,rb⟩,b1,b2⟩:=bB I hp.2 ty ry;exact SeqAt.compareEq_reads ra rb a1 b1 (by lia) (fin rfl)
  ·cases hb
 |NotEq=>
  simp only[bf] at hb;split at hb
  ·rename_i hp;cases hb;obtain⟨⟨as,ra⟩,a1,a2⟩:=bB I hp.1 tx rx;obtain⟨⟨bs,rb⟩,b1,b2⟩:=bB I hp.2 ty ry;exact SeqAt.compareNe_reads ra rb a1 b1 (by lia) (fin rfl)
  ·cases dx with
   |nd hd ds=>cases hd with
    |lst=>cases dy with
     |nd hd' es=>cases hd' with
      |lst=>
       dsimp only[De] at hb
       cases hc:uN ds es with
       |none=>rw[hc] at hb;cases hb
       |some c=>
        rw[hc] at hb;cases hb;unfold Rp at tx ty;obtain⟨a,o,xs,rfl,na,g,qo,rl⟩:=tx;obtain⟨a',o',xs',rfl,na',g',qo',rl'⟩:=ty;cases rx;cases ry;cases(show o=.lst xs from qo);cases(show o'=.lst xs' from qo');obtain⟨its,vs,pl,z⟩:=I.list (SqL.of g);obtain⟨its',vs',pl',z'⟩:=I.list (SqL.of g');obtain⟨hl,f,hf,ha⟩:=uQ (by show X.A.units+1+90<cLine;lia) I hc rl vs rl' vs';refine SeqAt.RcNeAt.lists pl.isList pl'.isList (e:=f) (by simpa using hl) (by lia) (λj h1 h2=>hf j (by simpa using h1) (by simpa using h2)) X.prog X.w _ _ (fin ?_);rw[Kv,ha]
      |_=>cases hb
     |_=>cases hb
    |_=>cases hb
   |_=>cases hb
 |In=>
  simp only[bf] at hb;split at hb
  ·rename_i ds;split at hb
   ·rename_i hp;cases hb;obtain⟨⟨as,ra⟩,a1,a2⟩:=bB I hp.1 tx rx;obtain⟨⟨bs,rb⟩,b1,b2⟩:=bB (n:=91) I (by simp only[cC,Kn];exact⟨rfl,hp.2⟩) ty ry;simp only[py,PyData.canLay0,PyData.depth] at rb b1 b2;exact SeqAt.in_tuple_reads rb ra b1 a1 (by lia) (fin (l6 _ _))
   ·cases hb
  ·cases hb
 |NotIn=>
  simp only[bf] at hb;split at hb
  ·rename_i ds;split at hb
   ·rename_i hp;cases hb;obtain⟨⟨as,ra⟩,a1,a2⟩:=bB I hp.1 tx rx;obtain⟨⟨bs,rb⟩,b1,b2⟩:=bB (n:=91) I (by simp only[cC,Kn];exact⟨rfl,hp.2⟩) ty ry;simp only[py,PyData.canLay0,PyData.depth] at rb b1 b2;exact SeqAt.notIn_list_reads rb ra b1 a1 (by lia) (fin (by rw[l6]))
   ·cases hb
  ·cases hb
 |Is=>
  simp only[bf] at hb;split at hb
  ·cases hb;obtain⟨p,e⟩:=isN rfl;exact wpAny_is_plain p (fin e)
  ·cases hb;obtain⟨p,e⟩:=isV _ rfl;exact wpAny_is_plain p (fin e)
  ·cases hb
 |IsNot=>cases hb
noncomputable def nA:D->Option Bool
 |.non=>some false
 |.bl b=>some b
 |.int i=>some (i != 0)
 |.scr ns=>some (!ns.isEmpty)
 |.nd .lst xs=>some (!xs.isEmpty)
 |.nd .tup xs=>some (!xs.isEmpty)
 |_=>none
theorem RpL.empty{ds:List D}{vs:List V}(h:RpL K H S ds vs):vs.isEmpty=ds.isEmpty:=by
 have:=h.len
 cases vs<;>cases ds<;>simp_all
theorem uR{b:Bool}(t:Rp K H S d v)(h:nA d=some b):xT K v H b:=by
 cases d with
 |non=>obtain rfl:=t.non;cases h;rfl
 |bl k=>obtain rfl:=t.bl;cases h;rfl
 |int i=>obtain rfl:=t.int;cases h;rfl
 |str x=>cases h
 |scr ns=>
  obtain⟨a,rfl,g⟩:=t.scr;cases h
  exact .inl ⟨_,g,by cases ns<;>rfl⟩
 |nd hd xs=>
  obtain⟨a,o,us,rfl,_,g,q,r⟩:=t.nd
  cases hd with
  |lst=>cases h;cases(show o=_ from q);exact .inl ⟨us,.of g,by rw[r.empty]⟩
  |tup=>cases h;cases(show o=_ from q);exact .inr (.inl ⟨us,.of g,by rw[r.empty]⟩)
  |dic t ks=>cases h
  |obj c ns=>cases h
end J
namespace J
open PySem PySem.Spec L2
noncomputable def Ow.ch:Ow->Nat->Ow
 |.fz,_=>.fz
 |.own es r,i=>es.getD i r
noncomputable def oU:Kd->Nat->Kd
 |.sh,_=>.sh
 |.fr k,i=>(match k.ch i with|.fz=>.sh|c=>.fr c)
 |.bo j k,i=>(match k.ch i with|.fz=>.sh|c=>.bo j c)
section
variable {K:Km} {H H' H0:Hp} {S:Pr} {g:Gh}
theorem TrL.len:∀{ds:List D} {es:List Ow} {r:Ow} {xs:List V} {F:Pr},TrL K H S ds es r xs F->xs.length=ds.length
 |[],_,_,_,_,h=>by unfold TrL at h;rw[h.1];rfl
 |d::ds,es,r,xs,F,h=>by
  unfold TrL at h;obtain⟨y,ys,F1,F2,rfl,_,_,_,h2⟩:=h;rw[KS,KS,TrL.len h2]
theorem TrL.get:∀{ds:List D} {es:List Ow} {r:Ow} {xs:List V} {F:Pr} {i:Nat} {d:D},TrL K H S ds es r xs F->ds[i]?=some d->∃x Fi,xs[i]?=some x/\(∀b,Fi b->F b)/\Tr K H S d (es.getD i r) x Fi
 |[],_,_,_,_,_,_,h,e=>by simp at e
 |d::ds,es,r,xs,F,0,d',h,e=>by
  unfold TrL at h;obtain⟨y,ys,F1,F2,rfl,hF,_,h1,h2⟩:=h;simp at e;subst e
  exact⟨y,F1,rfl,λb z=>(hF b).mpr (.inl z),by cases es<;>simpa using h1⟩
 |d::ds,es,r,xs,F,i+1,d',h,e=>by
  unfold TrL at h;obtain⟨y,ys,F1,F2,rfl,hF,_,h1,h2⟩:=h;obtain⟨x,Fi,e1,e2,e3⟩:=TrL.get h2 (by simpa using e)
  exact⟨x,Fi,by simpa using e1,λb z=>(hF b).mpr (.inr (e2 b z)),by cases es<;>simpa using e3⟩
theorem VR.ch{ds:List D}(h:VR K g H0 H kd (.nd hd ds) v):∃a o xs,v=.ref a/\H a=some o/\i8 K o hd xs/\xs.length=ds.length/\∀(i:Nat) d,ds[i]?=some d->∃x,xs[i]?=some x/\VR K g H0 H (oU kd i) d x:=by
 obtain⟨F,h1,h2⟩:=h
 have shc:∀{S':Pr},(∀b,g b≠none->S' b)->Rp K H S' (.nd hd ds) v->∃a o xs,v=.ref a/\H a=some o/\i8 K o hd xs/\xs.length=ds.length/\∀(i:Nat) d,ds[i]?=some d->∃x,xs[i]?=some x/\VR K g H0 H .sh d x:=λhs r=>by
  obtain⟨a,o,xs,e,n,q1,q2,q3⟩:=r.nd;refine⟨a,o,xs,e,q1,q2,q3.len,λi d e=>?_⟩;obtain⟨x,e1,e2⟩:=q3.getD e;exact⟨x,e1,D2 (e2.weak λb z=>hs b z)⟩
 cases kd with
 |sh=>exact shc (λb z=>.inl z) h2.2
 |fr k=>
  have h2:Tr K H (Sx g F) _ k v F:=h2
  cases k with
  |fz=>
   obtain⟨a,o,xs,e,q1,q2,q3,q4⟩:=shc (λb z=>.inl z) h2.fz_inv.2;exact⟨a,o,xs,e,q1,q2,q3,q4⟩
  |own es r=>
   unfold Tr at h2;obtain⟨a,o,xs,F',e,q1,q2,n1,n2,hF,t⟩:=h2;refine⟨a,o,xs,e,q1,q2,t.len,λi d e=>?_⟩;obtain⟨x,Fi,e1,e2,e3⟩:=t.get e;refine⟨x,e1,?_⟩;have hs:∀b o,H b=some o->¬Sx g F b->¬Sx g Fi b:=λb o _ n z=>n (z.imp id λz=>(hF b).mpr (.inr (e2 b z)))
   show VR K g H0 H (match es.getD i r with|.fz=>.sh|c=>.fr c) d x
   cases hc:es.getD i r with
   |fz=>
    rw[hc] at e3;exact D2 (e3.fz_inv.2.weak λb z=>.inl z)
   |own es' r'=>
    rw[hc] at e3;exact⟨Fi,λb z=>h1 b ((hF b).mpr (.inr (e2 b z))),e3.go (λ_ _ _ h=>h) hs⟩
 |bo j k=>
  obtain⟨hn,F0,h3,h4⟩:=h2
  cases k with
  |fz=>
   obtain⟨a,o,xs,e,q1,q2,q3,q4⟩:=shc (λb z=>.inl z) h4.fz_inv.2;exact⟨a,o,xs,e,q1,q2,q3,q4⟩
  |own es r=>
   unfold Tr at h4;obtain⟨a,o,xs,F',e,q1,q2,n1,n2,hF,t⟩:=h4;refine⟨a,o,xs,e,q1,q2,t.len,λi d e=>?_⟩;obtain⟨x,Fi,e1,e2,e3⟩:=t.get e;refine⟨x,e1,?_⟩
   show VR K g H0 H (match es.getD i r with|.fz=>.sh|c=>.bo j c) d x
   cases hc:es.getD i r with
   |fz=>
    rw[hc] at e3;exact D2 (e3.fz_inv.2.weak λb z=>.inl z)
   |own es' r'=>
    rw[hc] at e3;exact⟨F,h1,hn,Fi,λb z=>h3 b ((hF b).mpr (.inr (e2 b z))),e3⟩
end
structure Cz where
 sc:Scope
 N:List Str
 fn:Str->Bool
noncomputable abbrev Fn:=List D->Option KD
structure gH where
 fn:Str->Option Fn
 fm:Str->Option (Km->Sp)
 cst:Str->Option D
 cf:Str->Option (List Str)
noncomputable def bu(x:Str):List Str->Option Nat
 |[]=>none
 |y::r=>if x=y then some 0 else(bu x r).map (·+1)
theorem bc{x:Str}:∀{N:List Str} {i:Nat},bu x N=some i->N[i]?=some x
 |[],_,h=>by cases h
 |y::r,i,h=>by
  unfold bu at h;split at h
  ·rename_i e;cases h;simp[e]
  ·cases q:bu x r with
   |none=>rw[q] at h;cases h
   |some j=>
    rw[q] at h;cases h;simpa using bc q
noncomputable def A5(sc:Scope)(x:Str):Bool:=sc.names.lookup x==some .local||sc.names.lookup x==some .cell||sc.names.lookup x==some .free
noncomputable def l7(c:Cz)(x:Str):Bool:=c.sc.names.lookup x==some .local||(c.fn x&&c.sc.names.lookup x==some .cell)
noncomputable def gI(scope:Scope)(x:Str):Bool:=scope.names.lookup x==some .cell
noncomputable def d8(sc:Scope)(x:Str):Bool:=sc.names.lookup x==some .globalImplicit
theorem l8{x:Str}(h:A5 sc x=true):Du sc x:=by
 simp only[A5,K8,beq_iff_eq] at h;rcases h with(h|h)|h
 ·exact .inl h
 ·exact .inr (.inl h)
 ·exact .inr (.inr h)
noncomputable def l9(x:Str):Bool:=!(x==("__debug__":Str))&&!(x==("__classdict__":Str))
noncomputable def xG(K:Km)(φ:Fn):Sp:=λvs H Q _=>∃ds g kd d,RpL K H (Sg g) ds vs/\MuOk H (Sg g)/\φ ds=some (kd,d)/\∀v H',Same H H'->VR K g H H' kd d v->Q v H'
noncomputable def aq:List Str:=["len","isinstance","int","bool","list","all","range","enumerate","str","sum","min","max","abs","tuple","zip","dict","sorted","reversed","any","set","repr"]
noncomputable def ma(X:Cx)(x:Str)(sp:Sp):Prop:=
 (∃k f fd ps,FnOk X.prog X.w X.K X.mg X.base qE k f fd ps sp/\Room k X.A/\X.mg x=some (.ref f)/\Lo X.K (.ref f)=true/\Binds X.K fd ps []/\(x==("__debug__":Str))=false)\/
 False
noncomputable def Jx(sp:Sp)(t:TA):TE:=λσ H Q=>t σ H λvs H1=>sp vs H1 Q E0
theorem D6{X:Cx}{x:Str}{t:TA}(tm:∀(σ:L2.St) (H:Hp) (Q R:List V->Hp->Prop),t σ H Q->(∀vs H1,Q vs H1->R vs H1)->t σ H R)(h:ma X x sp)(hg:Gl X x)(ha:PA X (e::es) t)(he:starEach (e::es) X.env=(false,eval e X.env)::starEach es X.env)(hpl:(backTo pos (starEach es X.env)).any (·.1)=false) :
  PE X (.Call (.Name x p) (e::es) [] pos) (Jx sp t):=by
 intro pins s σ H Q I q;rcases h with⟨k,f,fd,ps,F,hr,hm,hk,hb,hdb⟩|h
 ·exact qx (E:=E0) F hr hg hm hk hb .nil ur ha hdb he hpl pins s σ H Q I (tm _ _ _ _ q λvs H1 z=>by rw[Ly];exact z)
 ·exact h.elim
theorem A6{x:Str}(h:ma X x sp)(hg:Gl X x):PE X (.Call (.Name x p) [] [] pos) (Jx sp AV):=by
 intro pins s σ H Q I q;rcases h with⟨k,f,fd,ps,F,hr,hm,hk,hb,hdb⟩|h
 ·exact uh (E:=E0) F hr hg hm hk hb .nil ur hdb pins s σ H Q I q
 ·exact h.elim
structure D7(X:Cx)(Γ:gH):Prop where
 fn:∀x φ,Γ.fn x=some φ->ma X x (xG X.K φ)
 cf:∀c fs C,Γ.cf c=some fs->Mu X.K mainGlobals c=some (some (.ref C))->Hj X.K C/\∀a∈fs,o8 X.K C a
 fm:∀x sp,Γ.fm x=some sp->∃k f fd ps,FnOk X.prog X.w X.K X.mg X.base qE k f fd ps (sp X.K)/\Room k X.A/\X.mg x=some (.ref f)/\Lo X.K (.ref f)=true/\Binds X.K fd ps []/\(x==("__debug__":Str))=false
 bl:∀x∈aq,X.mg x=none
 units:X.A.units+100<cLine
 gd:X.A.guards=some []
 cst:∀x d,Γ.cst x=some d->∃u v,X.mg x=some u/\RelV v u/\(∀H S,Rp X.K H S d v)/\(x==("__debug__":Str))=false
structure al(X:Cx)(Γ:gH)(c:Cz):Prop where
 sc:X.env.scope=c.sc
 N:X.N=c.N
 fn:∀x,c.fn x=true->X.fn x=true
 calm:X.calm=true
 nd:c.N.Nodup
 tab:D7 X Γ
section
variable {X:Cx} {Γ:gH} {c:Cz}
theorem bC(O:al X Γ c){x:Str}(h:d8 c.sc x=true):Gl X x:=by
 show X.env.scope.names.lookup x=_;rw[O.sc];simpa[d8] using h
theorem jJ(O:al X Γ c){x:Str}(h:l7 c x=true):Ay X.env.scope x/\(X.fn x=true\/X.env.scope.names.lookup x=some .local):=by
 simp only[l7,K8,Kn,beq_iff_eq] at h;rw[O.sc];rcases h with h|h
 ·exact⟨.inl h,.inr h⟩
 ·exact⟨.inr h.2,.inl (O.fn x h.1)⟩
noncomputable def nB(i:Nat)(o:Option (Option Sl)):Option KD:=match o with|some (some s)=>some (fX i s)|_=>none
noncomputable def d9(c:Cz)(x:Str):Option Nat:=match bu x c.N with|some i=>if A5 c.sc x&&l9 x then some i else none|none=>none
theorem zY(O:al X Γ c){x:Str}{i:Nat}(hc:d9 c x=some i)(pos:Pos):SndE X (λρ=>nB i ρ[i]?) (.Name x pos):=by
 intro ρ kd d h g σ H Q se q;unfold d9 at hc;split at hc
 ·rename_i j hj;split at hc
  ·rename_i hv;cases hc;simp only[Kn,l9,K4] at hv;dsimp only[nB] at h;split at h
   ·rename_i sl e;cases h;obtain⟨v,e1,e2⟩:=se.get e;exact ak (oY (i:=i) (by rw[O.N];exact bc hj) (by rw[O.sc];exact l8 hv.1) hv.2.1 hv.2.2) ⟨v,e1,q v H (Same.refl H) e2⟩
   ·cases h
  ·cases hc
 ·cases hc
theorem D8(i:Int)(j:Nat)(pos:Pos):SndE X (λ_=>some (.sh,.int i)) (.Constant (.int i) j pos):=by
 intro ρ kd d h g σ H Q se q;cases h;exact ak Az (q _ H (Same.refl H) i9)
theorem Hy(i:Bool)(j:Nat)(pos:Pos):SndE X (λ_=>some (.sh,.bl i)) (.Constant (.bool i) j pos):=by
 intro ρ kd d h g σ H Q se q;cases h;exact ak Dv (q _ H (Same.refl H) yb)
theorem D9(j:Nat)(pos:Pos):SndE X (λ_=>some (.sh,.non)) (.Constant .none j pos):=by
 intro ρ kd d h g σ H Q se q;cases h;exact ak AA (q _ H (Same.refl H) D0)
theorem Ea(x:Str)(j:Nat)(pos:Pos):SndE X (λ_=>some (.sh,.str x)) (.Constant (.str x) j pos):=by
 intro ρ kd d h g σ H Q se q;cases h;exact ak AB (q _ H (Same.refl H) Hw)
theorem Eb(O:al X Γ c){x:Str}{d:D}(hg:d8 c.sc x=true)(e:Γ.cst x=some d)(pos:Pos):SndE X (λ_=>some (.sh,d)) (.Name x pos):=by
 intro ρ kd d' h g σ H Q se q;cases h;obtain⟨u,v,h1,h2,h3,h4⟩:=O.tab.cst x d e;exact ak (xK (bC O hg) h1 h2 h4) (q v H (Same.refl H) (D2 (h3 H _)))
theorem two{fa fb:Ro->Option KD}(ha:SndE X fa a)(hb:SndE X fb b){ρ:Ro}{ka kb:Kd}{da db:D}(ea:fa ρ=some (ka,da))(eb:fb ρ=some (kb,db)){g:Gh}{σ:L2.St}{H:Hp}{R:V->V->Hp->Prop}(se:SE X.K g ρ σ H)(q:∀x y H',Same H H'->VR X.K g H H' ka da x->VR X.K g H H' kb db y->R x y H'):wE X a σ H λx H1=>wE X b σ H1 λy H2=>R x y H2:=
 ha ρ ka da ea g σ H _ se λx H1 s1 v1=>hb ρ kb db eb g σ H1 _ (se.same s1) λy H2 s2 v2=>q x y H2 (s1.trans s2) (v1.same s2) (v2.older s1)
noncomputable def uS(op:Operator)(a b:Option KD):Option KD:=match a,b with
 |some x,some y=>eR op x y
 |_,_=>none
theorem Ec{fa fb:Ro->Option KD}(ha:SndE X fa a)(hb:SndE X fb b):SndE X (λρ=>uS op (fa ρ) (fb ρ)) (.BinOp a op b pos):=by
 intro ρ kd d h g σ H Q se q;dsimp only[uS] at h;split at h
 ·rename_i x y ea eb;exact ak (zT (uJ op) au au) (two ha hb ea eb se λvx vy H' s r1 r2=>⟨g,H,x,y,kd,d,se.mu,s,r1,r2,h,λv H2 s2 r=>q v H2 (s.trans s2) (r.older s)⟩)
 ·cases h
noncomputable def jK(op:CmpOp)(a b:Option KD):Option Bool:=match a,b with
 |some (_,x),some (_,y)=>bf op x y
 |_,_=>none
noncomputable def bV(o:Option Bool):Option KD:=o.map λb=>(.sh,.bl b)
theorem Ed{fa fb:Ro->Option KD}{a b:Expr}{op:CmpOp}(O:al X Γ c)(hm:behindInMarks op b=false)(ha:SndE X fa a)(hb:SndE X fb b):SndE X (λρ=>bV (jK op (fa ρ) (fb ρ))) (.Compare a [op] [b] pos):=by
 intro ρ kd d h g σ H Q se q
 cases hc:jK op (fa ρ) (fb ρ) with
 |none=>simp only[hc,bV] at h;cases h
 |some r=>
  simp only[hc,bV] at h;cases h;unfold jK at hc;split at hc
  ·rename_i ka x kb y ea eb;exact ak (xS (fY O.tab.units op) au au hm) (two ha hb ea eb se λvx vy H' s vx' vy'=>⟨x,y,r,vx'.rd,vy'.rd,hc,q _ H' s yb⟩)
  ·cases hc
theorem bO{fa fb:Ro->Option KD}{a b:Expr}{op:CmpOp}(O:al X Γ c)(hm:behindInMarks op b=false)(ha:SndE X fa a)(hb:SndE X fb b):SndT X (λρ=>jK op (fa ρ) (fb ρ)) (.Compare a [op] [b] pos):=by
 intro ρ r hc g σ H Q se q;dsimp only[jK] at hc;split at hc
 ·rename_i ka x kb y ea eb;exact ny (qw (fY O.tab.units op) au au hm) (two ha hb ea eb se λvx vy H' s vx' vy'=>⟨x,y,r,vx'.rd,vy'.rd,hc,r,rfl,q H' s⟩)
 ·cases hc
noncomputable def cZ(op op':CmpOp)(a b z:Option KD):Option Bool:=match a,b with
 |some (_,x),some (_,y)=>(match bf op x y with
  |some true=>(match z with|some (_,z)=>bf op' y z|none=>none)
  |some false=>some false
  |none=>none)
 |_,_=>none
theorem jL{fa fb fc:Ro->Option KD}(ha:SndE X fa a)(hb:SndE X fb b)(he:SndE X fc e){ρ:Ro}{r:Bool}(h:cZ op op' (fa ρ) (fb ρ) (fc ρ)=some r){g:Gh}{σ:L2.St}{H:Hp}{Q:VK}(se:SE X.K g ρ σ H)(q:∀H',Same H H'->Q (.bl r) H') :
  o6 (uO X.K op) (uO X.K op') (wE X a) (wE X b) (wE X e) σ H Q:=by
 unfold cZ at h;split at h
 ·rename_i ka x kb y ea eb;split at h
  ·rename_i h1;split at h
   ·rename_i kz z ez;refine two ha hb ea eb se λvx vy H' s vx' vy'=>⟨x,y,true,vx'.rd,vy'.rd,h1,true,rfl,?_⟩;exact uu (he ρ kz z ez g σ H' _ (se.same s) λvz H2 s2 vz'=>⟨y,z,r,(vy'.same s2).rd,vz'.rd,h,q H2 (s.trans s2)⟩)
   ·cases h
  ·rename_i h1;cases h;exact two ha hb ea eb se λvx vy H' s vx' vy'=>⟨x,y,false,vx'.rd,vy'.rd,h1,false,rfl,ut (q H' s)⟩
  ·cases h
 ·cases h
theorem yf{fa fb fc:Ro->Option KD}(O:al X Γ c)(hm:behindInMarks op' e=false)(ha:SndE X fa a)(hb:SndE X fb b)(he:SndE X fc e):SndE X (λρ=>bV (cZ op op' (fa ρ) (fb ρ) (fc ρ))) (.Compare a [op,op'] [b,e] pos):=by
 intro ρ kd d h g σ H Q se q
 cases hc:cZ op op' (fa ρ) (fb ρ) (fc ρ) with
 |none=>simp only[hc,bV] at h;cases h
 |some r=>
  simp only[hc,bV] at h;cases h;exact ak (uc (fY O.tab.units op) (fY O.tab.units op') au au au hm) (jL ha hb he hc se (Q:=Q) λH' s=>q _ H' s yb)
theorem dw{fa fb fc:Ro->Option KD}(O:al X Γ c)(hm:behindInMarks op' e=false)(ha:SndE X fa a)(hb:SndE X fb b)(he:SndE X fc e):SndT X (λρ=>cZ op op' (fa ρ) (fb ρ) (fc ρ)) (.Compare a [op,op'] [b,e] pos):=by
 intro ρ r hc g σ H Q se q;exact ny (ud (fY O.tab.units op) (fY O.tab.units op') au au au hm) (jL ha hb he hc se (Q:=λx H'=>∃k,x=.bl k/\Q k H') λH' s=>⟨r,rfl,q H' s⟩)
noncomputable def yg(a:Option KD):Option KD:=match a with|some (_,.int i)=>some (.sh,.int (-i))|_=>none
theorem Ee{fa:Ro->Option KD}(ha:SndE X fa a):SndE X (λρ=>yg (fa ρ)) (.UnaryOp .USub a pos):=by
 intro ρ kd d h g σ H Q se q;dsimp only[yg] at h;split at h
 ·rename_i ka i ea;cases h;exact ak (DE AU au) (ha ρ _ _ ea g σ H _ se λv H' s r=>⟨i,r.rd.int,q _ H' s i9⟩)
 ·cases h
noncomputable def dE(a:Option KD):Option Bool:=match a with|some (_,d)=>nA d|none=>none
theorem Ef{fa:Ro->Option KD}(ha:SndE X fa a):SndE X (λρ=>bV ((dE (fa ρ)).map (!·))) (.UnaryOp .Not a pos):=by
 intro ρ kd d h g σ H Q se q
 cases e:dE (fa ρ) with
 |none=>simp only[e,bV] at h;cases h
 |some b=>
  simp only[e,bV] at h;cases h;unfold dE at e;split at e
  ·rename_i k d e1;intro pins s I;refine PyProof.Rows.UnaryOp_ (bq (ha ρ _ _ e1 g σ H (λv H'=>xT X.K v H' b/\Q (.bl (!b)) H') se (λv H' s vr=>⟨uR vr.rd e,q _ H' s yb⟩) pins s I) λv s1 ⟨x,H1,I1,r1,t1,q1⟩=>?_);exact PyProof.Rows.not_of (bq (fV pins s1 σ H1 x v (λk H2=>Q (.bl (!k)) H2) I1 r1 ⟨b,t1,q1⟩) λk s2 ⟨H2,I2,q2⟩=>⟨.bl (!k),H2,I2,rfl,q2⟩)
  ·cases e
theorem aQ{fa:Ro->Option Bool}(ha:SndT X fa a):SndT X (λρ=>(fa ρ).map (!·)) (.UnaryOp .Not a pos):=by
 intro ρ r h g σ H Q se q
 cases e:fa ρ with
 |none=>simp only[e] at h;cases h
 |some b=>
  simp only[e] at h;cases h;exact ny (AC dN) (ha ρ b e g σ H _ se λH' s=>q H' s)
theorem uT{fa:Ro->Option KD}{a:Expr}(ha:SndE X fa a)(hp:∀whole,isTrue a X.env whole=(do let v <- whole;standAt a.pos;holding [v] (truthy v))):SndT X (λρ=>dE (fa ρ)) a:=by
 intro ρ r h g σ H Q se q;dsimp only[dE] at h;split at h
 ·rename_i k d e;exact ny (ue au hp) (ha ρ _ _ e g σ H _ se λv H' s vr=>⟨r,uR vr.rd h,q H' s⟩)
 ·cases h
noncomputable def Eg(t:Option Bool)(a b:Option KD):Option KD:=match t with|some true=>a|some false=>b|none=>none
theorem Hz{ft:Ro->Option Bool}{fa fb:Ro->Option KD}(ht:SndT X ft t)(ha:SndE X fa a)(hb:SndE X fb b):SndE X (λρ=>Eg (ft ρ) (fa ρ) (fb ρ)) (.IfExp t a b pos):=by
 intro ρ k d h g σ H Q se q;dsimp only[Eg] at h;split at h
 ·rename_i e;exact ak (m9 dN au au) (ht ρ _ e g σ H _ se λH1 s1=>uu (ha ρ k d h g σ H1 Q (se.same s1) λv H2 s2 r=>q v H2 (s1.trans s2) (r.older s1)))
 ·rename_i e;exact ak (m9 dN au au) (ht ρ _ e g σ H _ se λH1 s1=>ut (hb ρ k d h g σ H1 Q (se.same s1) λv H2 s2 r=>q v H2 (s1.trans s2) (r.older s1)))
 ·cases h
noncomputable def ad:Expr->Bool
 |.Starred ..=>false
 |_=>true
theorem ac(h:ad e=true):starEach (e::es) env=(false,eval e env)::starEach es env:=by
 cases e<;>first|rfl|cases h
theorem a5{es:List Expr}(h:es.all ad=true):(backTo pos (starEach es env)).any (·.1)=false:=by
  have key:∀es:List Expr,es.all ad=true->∀p∈starEach es env,p.1=false:=by
    intro es
    induction es with
    |nil=>intro _ p hp;cases hp
    |cons e es ih=>
      intro h p hp;simp only[LA,Kn] at h;rw[ac h.1] at hp;rcases Ku.mp hp with rfl|hp
      · rfl
      · exact ih h.2 p hp
  have k2:=key es h
  cases e:starEach es env with
  |nil=>rfl
  |cons p r=>
    rw[e] at k2
    have h0:∀q∈backTo pos (p::r),q.1=false:=by
      intro q hq;unfold backTo at hq
      first
        |exact k2 q hq
        | (simp only[Lf,Ku] at hq
           first
             |(obtain⟨z,hz,rfl⟩:=hq;exact k2 z (by simpa using hz))
             | (rcases hq with rfl|hq
                · exact k2 p (by simp)
                · first
                    |exact k2 q (by simp[hq])
                    |(obtain⟨z,hz,rfl⟩:=hq;exact k2 z (by simp[hz]))))
    rw[L8];intro q hq;rw[h0 q hq];decide
noncomputable def eO(a:Option KD)(r:Option (List KD)):Option (List KD):=match a,r with|some x,some xs=>some (x::xs)|_,_=>none
theorem qI:jI X (λ_=>some []) []:=by
 intro ρ kds h g σ H Q se q;cases h;exact jH cF (q [] H (Same.refl H) .nil)
theorem me{fa:Ro->Option KD}{fr:Ro->Option (List KD)}(hn:ad e=true)(ha:SndE X fa e)(hr:jI X fr es):jI X (λρ=>eO (fa ρ) (fr ρ)) (e::es):=by
 intro ρ kds h g σ H Q se q;dsimp only[eO] at h;split at h
 ·rename_i x xs e1 e2;cases h;obtain⟨k,d⟩:=x;refine jH (a7 au cq (ac hn)) (ha ρ k d e1 g σ H _ se λv H1 s1 r1=>?_);obtain⟨F1,a1,a2⟩:=r1;exact hr ρ xs e2 (g.plus F1) σ H1 _ (se.plus s1 a1 a2.dom) λvs H2 s2 r2=>q (v::vs) H2 (s1.trans s2) (.cons s1 s2 a1 a2 r2)
 ·cases h
theorem VRs.two(h:VRs K g H0 H [(k,d),(k',d')] vs):∃v v',vs=[v,v']/\VR K g H0 H k d v/\VR K g H0 H k' d' v':=by
 obtain⟨F,h1,y,ys,F1,F2,rfl,hF,dj,h3,z,zs,F3,F4,rfl,hF2,dj2,h5,rfl,h7⟩:=h;have e:∀b,F b↔F1 b\/F3 b:=λb=>(hF b).trans ⟨λz=>z.imp id λz=>((hF2 b).mp z).elim id λz=>absurd z (h7 b),λz=>z.imp id λz=>(hF2 b).mpr (.inl z)⟩;refine⟨y,z,rfl,⟨F1,λb z=>h1 b ((e b).mpr (.inl z)),h3.go (λ_ _ h=>h) λb _ _ z=>(e b).mpr (.inl z)⟩,⟨F3,λb z=>h1 b ((e b).mpr (.inr z)),h5.go (λ_ _ h=>h) λb _ _ z=>(e b).mpr (.inr z)⟩⟩
end
end J
namespace J
open PySem PySem.Spec L2
mutual
noncomputable def Ow.le:Ow->Ow->Bool
 |.fz,_=>true
 |.own es r,.own es' r'=>Ow.les es es'&&Ow.le r r'
 |.own _ _,.fz=>false
noncomputable def Ow.les:List Ow->List Ow->Bool
 |[],[]=>true
 |a::as,b::bs=>Ow.le a b&&Ow.les as bs
 |_,_=>false
end
theorem Ow.les_hd:∀{es es':List Ow} {r r':Ow},Ow.les es es'=true->Ow.le r r'=true->(es.headD r).le (es'.headD r')=true/\Ow.les es.tail es'.tail=true
 |[],[],_,_,_,h=>⟨h,rfl⟩
 |a::as,b::bs,_,_,h,_=>by rw[Ow.les,Kn] at h;exact h
 |[],_::_,_,_,h,_=>by simp[Ow.les] at h
 |_::_,[],_,_,h,_=>by simp[Ow.les] at h
section
variable {K:Km} {H:Hp} {S:Pr}
mutual
theorem Tr.ofIm:∀{d:D} {k:Ow} {v:V},pf d=true->Rp K H S d v->Tr K H S d k v (λ_=>False)
 |.non,_,_,_,h=>by unfold Tr;exact⟨λ_ z=>z,h⟩
 |.bl _,_,_,_,h=>by unfold Tr;exact⟨λ_ z=>z,h⟩
 |.int _,_,_,_,h=>by unfold Tr;exact⟨λ_ z=>z,h⟩
 |.str _,_,_,_,h=>by unfold Tr;exact⟨λ_ z=>z,h⟩
 |.scr _,_,_,i,_=>by simp[pf] at i
 |.nd hd ds,.fz,_,_,h=>by unfold Tr;exact⟨λ_ z=>z,h⟩
 |.nd hd ds,.own es r,v,i,h=>by
  rw[pf,Kn] at i;have i1:hd.mu=false:=by simpa using i.1
  unfold Rp at h;unfold Tr;obtain⟨a,o,xs,e,n,g,q,t⟩:=h;exact⟨a,o,xs,λ_=>False,e,g,q,λ_ z=>z,λ_=>n,λb=>⟨λz=>z.elim,λz=>z.elim (λz=>by rw[i1] at z;cases z.1) id⟩,TrL.ofIm i.2 t⟩
theorem TrL.ofIm:∀{ds:List D} {es:List Ow} {r:Ow} {vs:List V},xY ds=true->RpL K H S ds vs->TrL K H S ds es r vs (λ_=>False)
 |[],_,_,_,_,h=>by unfold TrL;exact⟨h.nil_inv,λ_ z=>z⟩
 |d::ds,es,r,vs,i,h=>by
  rw[xY,Kn] at i;obtain⟨y,ys,rfl,h1,h2⟩:=h.cons_inv;unfold TrL;exact⟨y,ys,_,_,rfl,λb=>⟨λz=>z.elim,λz=>z.elim id id⟩,λ_ z=>z.elim,Tr.ofIm i.1 h1,TrL.ofIm i.2 h2⟩
end
theorem Tr.leaf{S':Pr}(hd:∀h ds,d≠.nd h ds)(h:Tr K H S d c v F)(hS:∀b,S' b->H b=none\/S b):Tr K H S' d k v (λ_=>False):=by
 cases d with
 |nd hh ds=>exact absurd rfl (hd hh ds)
 |_=>
  unfold Tr at h⊢;exact⟨λ_ z=>z,h.2.go λb o n e=>⟨e,λz=>(hS b z).elim (λq=>by rw[e] at q;cases q) n⟩⟩
mutual
theorem Tr.part:∀{d:D} {k c:Ow} {v:V} {F:Pr},k.le c=true->Tr K H S d c v F->∃F2:Pr,(∀b,F2 b->F b)/\∀S':Pr,(∀b,S' b->H b=none\/(S b/\(F b->F2 b)))->Tr K H S' d k v F2
 |.non,_,_,_,_,_,t=>⟨_,λ_ z=>z.elim,λS' hS=>t.leaf (λ_ _ e=>nomatch e) λb z=>(hS b z).imp id And.left⟩
 |.bl _,_,_,_,_,_,t=>⟨_,λ_ z=>z.elim,λS' hS=>t.leaf (λ_ _ e=>nomatch e) λb z=>(hS b z).imp id And.left⟩
 |.int _,_,_,_,_,_,t=>⟨_,λ_ z=>z.elim,λS' hS=>t.leaf (λ_ _ e=>nomatch e) λb z=>(hS b z).imp id And.left⟩
 |.str _,_,_,_,_,_,t=>⟨_,λ_ z=>z.elim,λS' hS=>t.leaf (λ_ _ e=>nomatch e) λb z=>(hS b z).imp id And.left⟩
 |.scr _,_,_,_,_,_,t=>⟨_,λ_ z=>z.elim,λS' hS=>t.leaf (λ_ _ e=>nomatch e) λb z=>(hS b z).imp id And.left⟩
 |.nd hd ds,.fz,c,v,F,_,t=>by
  refine⟨λ_=>False,λ_ z=>z.elim,λS' hS=>.fz ?_⟩;have r:Rp K H (λb=>S' b/\H b≠none) (.nd hd ds) v:=t.rp λb z=>(hS b z.1).elim (λq=>absurd q z.2) λq=>⟨q.1,q.2⟩;exact r.go λb o n e=>⟨e,λz=>n ⟨z,by rw[e];exact λh=>by cases h⟩⟩
 |.nd hd ds,.own es r,.fz,_,_,l,_=>by simp[Ow.le] at l
 |.nd hd ds,.own es r,.own es' r',v,F,l,t=>by
  rw[Ow.le,Kn] at l;unfold Tr at t;obtain⟨a,o,xs,F',e,g,q,n1,n2,hF,tl⟩:=t;obtain⟨G,g1,g2⟩:=TrL.part l.1 l.2 tl;refine⟨λb=>(hd.mu=true/\b=a)\/G b,λb z=>(hF b).mpr (z.imp id (g1 b)),λS' hS=>?_⟩;unfold Tr;refine⟨a,o,xs,G,e,g,q,λhm z=>n1 hm (g1 a z),λhm z=>(hS a z).elim (λq=>by rw[g] at q;cases q) λq=>n2 hm q.1,λb=>Iff.rfl,g2 S' λb z=>(hS b z).imp id λq=>⟨q.1,λf=>?_⟩⟩;exact(q.2 ((hF b).mpr (.inr f))).elim (λw=>absurd f (by rw[w.2];exact n1 w.1)) id
theorem TrL.part:∀{ds:List D} {es es':List Ow} {r r':Ow} {vs:List V} {F:Pr},Ow.les es es'=true->r.le r'=true->TrL K H S ds es' r' vs F->∃F2:Pr,(∀b,F2 b->F b)/\∀S':Pr,(∀b,S' b->H b=none\/(S b/\(F b->F2 b)))->TrL K H S' ds es r vs F2
 |[],_,_,_,_,_,_,_,_,t=>⟨λ_=>False,λ_ z=>z.elim,λS' _=>by unfold TrL at t⊢;exact⟨t.1,λ_ z=>z⟩⟩
 |d::ds,es,es',r,r',vs,F,l1,l2,t=>by
  unfold TrL at t;obtain⟨y,ys,F1,F2,e,hF,dj,t1,t2⟩:=t;have lh:=Ow.les_hd (r:=r) (r':=r') l1 l2;obtain⟨G1,a1,a2⟩:=Tr.part lh.1 t1;obtain⟨G2,b1,b2⟩:=TrL.part lh.2 l2 t2;refine⟨λb=>G1 b\/G2 b,λb z=>(hF b).mpr (z.imp (a1 b) (b1 b)),λS' hS=>?_⟩;unfold TrL;refine⟨y,ys,G1,G2,e,λb=>Iff.rfl,λb z1 z2=>dj b (a1 b z1) (b1 b z2),a2 S' λb z=>(hS b z).imp id λq=>⟨q.1,λf=>?_⟩,b2 S' λb z=>(hS b z).imp id λq=>⟨q.1,λf=>?_⟩⟩
  ·exact(q.2 ((hF b).mpr (.inl f))).elim id λw=>absurd (b1 b w) (dj b f)
  ·exact(q.2 ((hF b).mpr (.inr f))).elim (λw=>absurd f (dj b (a1 b w))) id
end
end
noncomputable def cP(k:Ow)(p:KD):Bool:=match k with
 |.fz=>ph p.1 p.2
 |k=>(match p.1 with|.fr c=>k.le c|_=>false)||pf p.2
noncomputable def pj:List Ow->Ow->List KD->Bool
 |_,_,[]=>true
 |es,r,p::ps=>cP (es.headD r) p&&pj es.tail r ps
section
variable {K:Km} {H H' H0:Hp} {g:Gh} {Ft F:Pr}
theorem VR1.fit{p:KD}(h:cP k p=true)(m:MuOk H (Sx g Ft))(hd:∀b,F b->g b=none)(hs:∀b,F b->Ft b)(r:VR1 K H g Ft p.1 p.2 v F):∃F2:Pr,(∀b,F2 b->F b)/\∀S':Pr,(∀b,S' b->H b=none\/g b≠none\/F2 b\/(Ft b/\¬F b))->Tr K H S' p.2 k v F2:=by
 obtain⟨kd,d⟩:=p
 cases k with
 |fz=>
  refine⟨λ_=>False,λb z=>z.elim,λS' hS=>.fz ?_⟩
  have r1:Rp K H (λb=>S' b/\H b≠none) d v:=by
   cases kd with
   |sh=>
    refine r.2.weak λb z=>?_;rcases hS b z.1 with q|q|q|q
    ·exact absurd q z.2
    ·exact .inl q
    ·exact q.elim
    ·exact .inr q.1
   |fr c=>
    refine Tr.rp (λb z=>?_) r;rcases hS b z.1 with q|q|q|q
    ·exact absurd q z.2
    ·exact⟨.inl q,λz2=>q (hd b z2)⟩
    ·exact q.elim
    ·exact⟨.inr q.1,q.2⟩
   |bo i c=>
    refine r.rd.im (λb z=>?_) h;rcases hS b z.1 with q|q|q|q
    ·exact absurd q z.2
    ·exact m b (.inl q)
    ·exact q.elim
    ·exact m b (.inr q.1)
  exact r1.go λb o n e=>⟨e,λz=>n ⟨z,by rw[e];exact λh=>by cases h⟩⟩
 |own es r'=>
  rcases K8 _ _▸(show(_||_)=true from h) with h|h
  ·cases kd with
   |sh=>cases h
   |bo i c=>cases h
   |fr c=>
    obtain⟨F2,a1,a2⟩:=Tr.part h r;refine⟨F2,a1,λS' hS=>a2 S' λb z=>?_⟩;rcases hS b z with q|q|q|q
    ·exact .inl q
    ·exact .inr ⟨.inl q,λf=>absurd (hd b f) q⟩
    ·exact .inr ⟨.inr (hs b (a1 b q)),λ_=>q⟩
    ·exact .inr ⟨.inr q.1,λf=>absurd f q.2⟩
  ·refine⟨λ_=>False,λb z=>z.elim,λS' hS=>.ofIm h ?_⟩
   have r1:Rp K H (λb=>S' b/\H b≠none) d v:=by
    refine r.rd.im (λb z=>?_) h;rcases hS b z.1 with q|q|q|q
    ·exact absurd q z.2
    ·exact m b (.inl q)
    ·exact q.elim
    ·exact m b (.inr q.1)
   exact r1.go λb o n e=>⟨e,λz=>n ⟨z,by rw[e];exact λh=>by cases h⟩⟩
theorem VRL.fit:∀{kds:List KD} {es:List Ow} {r:Ow} {vs:List V} {F:Pr},pj es r kds=true->MuOk H (Sx g Ft)->(∀b,F b->g b=none)->(∀b,F b->Ft b)->VRL K H g Ft kds vs F->
  ∃F2:Pr,(∀b,F2 b->F b)/\∀S':Pr,(∀b,S' b->H b=none\/g b≠none\/F2 b\/(Ft b/\¬F b))->TrL K H S' (kds.map (·.2)) es r vs F2
 |[],es,r,vs,F,_,_,_,_,h=>⟨λ_=>False,λb z=>z.elim,λS' hS=>by unfold Mj TrL;exact⟨h.1,λb z=>z⟩⟩
 |p::ps,es,r,vs,F,hf,m,hd,hs,h=>by
  obtain⟨y,ys,F1,F2,rfl,hF,dj,h1,h2⟩:=h;unfold pj at hf;rw[Kn] at hf;obtain⟨G1,a1,a2⟩:=VR1.fit hf.1 m (λb z=>hd b ((hF b).mpr (.inl z))) (λb z=>hs b ((hF b).mpr (.inl z))) h1;obtain⟨G2,b1,b2⟩:=VRL.fit hf.2 m (λb z=>hd b ((hF b).mpr (.inr z))) (λb z=>hs b ((hF b).mpr (.inr z))) h2;refine⟨λb=>G1 b\/G2 b,λb z=>(hF b).mpr (z.imp (a1 b) (b1 b)),λS' hS=>?_⟩;show TrL K H S' (p.2::ps.map (·.2)) es r (y::ys) _;unfold TrL;refine⟨y,ys,G1,G2,rfl,λb=>Iff.rfl,λb z1 z2=>dj b (a1 b z1) (b1 b z2),a2 S' λb z=>?_,b2 S' λb z=>?_⟩
  ·rcases hS b z with q|q|(q|q)|q
   ·exact .inl q
   ·exact .inr (.inl q)
   ·exact .inr (.inr (.inl q))
   ·exact .inr (.inr (.inr ⟨hs b ((hF b).mpr (.inr (b1 b q))),λz=>dj b z (b1 b q)⟩))
   ·exact .inr (.inr (.inr ⟨q.1,λz=>q.2 ((hF b).mpr (.inl z))⟩))
  ·rcases hS b z with q|q|(q|q)|q
   ·exact .inl q
   ·exact .inr (.inl q)
   ·exact .inr (.inr (.inr ⟨hs b ((hF b).mpr (.inl (a1 b q))),λz=>dj b (a1 b q) z⟩))
   ·exact .inr (.inr (.inl q))
   ·exact .inr (.inr (.inr ⟨q.1,λz=>q.2 ((hF b).mpr (.inr z))⟩))
theorem VRs.node{kds:List KD}{hd:Hd}(hf:pj es r kds=true)(m:MuOk H0 (Sg g))(s:Same H0 H)(h:VRs K g H0 H kds vs)(hp:H p=none)(ho:i8 K o hd vs)(hm:hd.mu=true) :
  VR K g H0 (upd H p o) (.fr (.own es r)) (.nd hd (kds.map (·.2))) (.ref p):=by
 obtain⟨F,h1,h2⟩:=h
 have hgF:∀b,F b->g b=none:=λb z=>by
  cases e:g b with
  |none=>rfl
  |some i=>
   obtain⟨o,q,_⟩:=m b (by rw[Sg,e];exact λh=>by cases h);rw[h1 b z] at q;cases q
 have mm:MuOk H (Sx g F):=λb z=>z.elim (λz=>m.same s b z) (λz=>h2.dom b z);obtain⟨F2,a1,a2⟩:=h2.fit hf mm hgF λb z=>z
 have np:¬F2 p:=λz=>by
  obtain⟨o,q,_⟩:=h2.dom p (a1 p z);rw[hp] at q;cases q
 refine⟨λb=>b=p\/F2 b,λb z=>z.elim (λz=>z▸s.free hp) λz=>h1 b (a1 b z),?_⟩;show Tr _ _ _ _ _ _ _;unfold Tr;refine⟨p,o,vs,F2,rfl,aE,ho,λ_=>np,λh=>by (rw[hm] at h;cases h),λb=>⟨λz=>z.imp (λz=>⟨hm,z⟩) id,λz=>z.imp (λz=>z.2) id⟩,?_⟩;refine(a2 (λb=>g b≠none\/F2 b) λb z=>.inr (z.imp id λz=>.inl z)).go (λb o' _ e=>af hp b o' e) λb o' e n z=>?_;rcases z with z|z|z
 ·exact n (.inl z)
 ·subst z;rw[hp] at e;cases e
 ·exact n (.inr z)
theorem VRs.tupO{kds:List KD}(hf:pj es r kds=true)(m:MuOk H0 (Sg g))(s:Same H0 H)(h:VRs K g H0 H kds vs)(hp:H p=none) :
  VR K g H0 (upd H p (.tup vs)) (.fr (.own es r)) (.tup (kds.map (·.2))) (.ref p):=by
 obtain⟨F,h1,h2⟩:=h
 have hgF:∀b,F b->g b=none:=λb z=>by
  cases e:g b with
  |none=>rfl
  |some i=>
   obtain⟨o,q,_⟩:=m b (by rw[Sg,e];exact λh=>by cases h);rw[h1 b z] at q;cases q
 have mm:MuOk H (Sx g F):=λb z=>z.elim (λz=>m.same s b z) (λz=>h2.dom b z);obtain⟨F2,a1,a2⟩:=h2.fit hf mm hgF λb z=>z
 have np:¬F2 p:=λz=>by
  obtain⟨o,q,_⟩:=h2.dom p (a1 p z);rw[hp] at q;cases q
 refine⟨F2,λb z=>h1 b (a1 b z),?_⟩;show Tr _ _ _ _ _ _ _;unfold Tr
 refine⟨p,_,vs,F2,rfl,aE,rfl,(λh=>nomatch h),λ_ z=>?_,λb=>⟨λz=>.inr z,λz=>z.elim (λz=>nomatch z.1) id⟩,?_⟩
 ·rcases z with z|z
  ·obtain⟨o,q,_⟩:=m.same s p z;rw[hp] at q;cases q
  ·exact np z
 ·exact(a2 (λb=>g b≠none\/F2 b) λb z=>.inr (z.imp id λz=>.inl z)).go (λb o' _ e=>af hp b o' e) λb o' e n z=>n z
end
noncomputable def gJ(k:Ow)(a:Option (List KD)):Option KD:=match a with
 |some kds=>(match k with|.own es r=>if pj es r kds=true/\kds.length<=100000 then some (.fr (.own es r),.lst (kds.map (·.2))) else none|.fz=>none)
 |none=>none
noncomputable def gK(k:Ow)(a:Option (List KD)):Option KD:=match a with
 |some kds=>(match k with
  |.own es r=>if pj es r kds=true/\kds.length<=100000 then some (.fr (.own es r),.tup (kds.map (·.2))) else none
  |.fz=>if(kds.all λp=>ph p.1 p.2)=true/\kds.length<=100000 then some (.sh,.tup (kds.map (·.2))) else none)
 |none=>none
section
variable {X:Cx} {Γ:gH} {c:Cz}
theorem VRs.len{kds:List KD}{vs:List V}(h:VRs K g H0 H kds vs):vs.length=kds.length:=by
 have:=h.rd.len;rw[Kp] at this;exact this
theorem Eh{f:Ro->Option (List KD)}(hf:jI X f es):SndE X (λρ=>gJ k (f ρ)) (.List es pos):=by
 intro ρ kd d h g σ H Q se q;dsimp only[gJ] at h;split at h
 ·rename_i kds e;split at h
  ·split at h
   ·rename_i hz;cases h;refine ak (uf cq) (hf ρ kds e g σ H _ se λvs H1 s1 r1=>⟨by rw[r1.len];exact aT hz.2,λp hp=>?_⟩);exact q _ _ (s1.trans (af hp)) (r1.node hz.1 se.mu s1 hp rfl rfl)
   ·cases h
  ·cases h
 ·cases h
theorem Ei{f:Ro->Option (List KD)}{n:Nat}(hf:jI X f es):SndE X (λρ=>gK k (f ρ)) (.Tuple es n pos):=by
 intro ρ kd d h g σ H Q se q;dsimp only[gK] at h;split at h
 ·rename_i kds e;split at h
  ·split at h
   ·rename_i hz;cases h;refine ak (lT cq) (hf ρ kds e g σ H _ se λvs H1 s1 r1=>⟨by rw[r1.len];exact aT hz.2,λp hp=>?_⟩);exact q _ _ (s1.trans (af hp)) (r1.tupO hz.1 se.mu s1 hp)
   ·cases h
  ·split at h
   ·rename_i hz;cases h;refine ak (lT cq) (hf ρ kds e g σ H _ se λvs H1 s1 r1=>⟨by rw[r1.len];exact aT hz.2,λp hp=>?_⟩);exact q _ _ (s1.trans (af hp)) ((A4 (se.mu.same s1) hp (r1.sh hz.1 se.mu s1)).older s1)
   ·cases h
 ·cases h
noncomputable def cQ:Expr->Bool
 |.Slice ..=>false
 |_=>true
theorem ef(h:cQ b=true):qA b:=by
 intro o i
 cases b<;>first|rfl|cases h
noncomputable def Gq(k:Kd)(xs:List D)(i:Int):Option KD:=match ir xs.length i with|some j=>(xs[j]?).map λd=>(oU k j,d)|none=>none
noncomputable def HA(k:Kd)(x:D)(i:Int):Option KD:=match x with
 |.nd hd xs=>(match hd with|.lst=>Gq k xs i|.tup=>Gq k xs i|_=>none)
 |.scr ns=>(L2.nq ns i).map λd=>(.sh,.int d)
 |_=>none
noncomputable def A7(x:D):Option (Nat×List DK×List D):=match x with
 |.nd hd xs=>(match hd with|.dic t ks=>some (t,ks,xs)|_=>none)
 |_=>none
noncomputable def Ej(k:Kd)(p:Nat×List DK×List D)(y:D):Option KD:=none
noncomputable def A8(x y:KD):Option KD:=match A7 x.2 with
 |some p=>Ej x.1 p y.2
 |none=>(match y.2 with|.int i=>HA x.1 x.2 i|_=>none)
noncomputable def pq(a b:Option KD):Option KD:=match a with
 |some x=>(match b with|some y=>A8 x y|none=>none)
 |none=>none
noncomputable def HB(f:Str)(a:Option KD):Option KD:=match a with
 |some (ka,.nd (.obj _ ns) xs)=>(match bu f ns with|some j=>(xs[j]?).map λd=>(oU ka j,d)|none=>none)
 |_=>none
theorem yh{α β:Type}(f:α->β)(xs:List α)(i:Int):L2.nq (xs.map f) i=(L2.nq xs i).map f:=by
 unfold L2.nq;rw[Kp]
 cases ir xs.length i with
 |none=>rfl
 |some j=>simp
theorem zZ{α β:Type}{o:Option α}{g:α->β}{b:β}(h:o.map g=some b):∃a,o=some a/\b=g a:=by
 cases o with
 |none=>cases h
 |some a=>cases h;exact⟨a,rfl,rfl⟩
theorem uU{xs:List D}{i:Int}{r:KD}(h:Gq k xs i=some r):∃j,ir xs.length i=some j/\xs[j]?=some r.2/\r.1=oU k j:=by
 unfold Gq at h
 cases e:ir xs.length i with
 |none=>rw[e] at h;cases h
 |some j=>
  rw[e] at h;obtain⟨d,e1,e2⟩:=zZ h;exact⟨j,rfl,by rw[e1,e2],by rw[e2]⟩
theorem yj{p:Nat×List DK×List D}(h:A7 x=some p):x=.nd (.dic p.1 p.2.1) p.2.2:=by
 cases x with
 |nd hd xs=>cases hd with
  |dic t ks=>cases h;rfl
  |_=>cases h
 |_=>cases h
theorem qJ{x y r:KD}(h:A8 x y=some r):(∃i,y.2=.int i/\HA x.1 x.2 i=some r)\/∃p,x.2=.nd (.dic p.1 p.2.1) p.2.2/\Ej x.1 p y.2=some r:=by
 unfold A8 at h
 cases e:A7 x.2 with
 |some p=>rw[e] at h;exact .inr ⟨p,yj e,h⟩
 |none=>
  rw[e] at h;obtain⟨ky,dy⟩:=y
  cases dy with
  |int i=>exact .inl ⟨i,rfl,h⟩
  |_=>cases h
theorem qK{i:Int}{Q:VK}(h:HA k dx i=some (kd,d))(rx:VR K g H0 H2 k dx vx)(q:∀v,VR K g H0 H2 kd d v->Q v H2):Jw K vx (.int i) H2 Q:=by
 cases dx with
 |nd hd xs=>cases hd with
  |lst=>
   obtain⟨j,hj,e,rfl⟩:=uU h;obtain⟨p,o,us,rfl,g1,q1,l1,c1⟩:=rx.ch;cases(show o=_ from q1);obtain⟨v,e1,e2⟩:=c1 j _ e;exact .inl ⟨p,us,i,v,rfl,rfl,.of g1,by unfold L2.nq;rw[l1,hj];exact e1,q v e2⟩
  |tup=>
   obtain⟨j,hj,e,rfl⟩:=uU h;obtain⟨p,o,us,rfl,g1,q1,l1,c1⟩:=rx.ch;cases(show o=_ from q1);obtain⟨v,e1,e2⟩:=c1 j _ e;exact .inr (.inl ⟨p,us,i,v,rfl,rfl,.of g1,by unfold L2.nq;rw[l1,hj];exact e1,q v e2⟩)
  |_=>cases h
 |scr ns=>
  obtain⟨d',e,e'⟩:=zZ (show(L2.nq ns i).map _=some (kd,d) from h);cases e';obtain⟨p,rfl,g1⟩:=rx.rd.scr;exact .inl ⟨p,_,i,.int d',rfl,rfl,g1,by rw[yh,e];rfl,q _ i9⟩
 |_=>cases h
theorem HC(O:al X Γ c){fa fb:Ro->Option KD}{a b:Expr}{pos:Pos}(ha:SndE X fa a)(hb:SndE X fb b)(hp:cQ b=true):SndE X (λρ=>pq (fa ρ) (fb ρ)) (.Subscript a b pos):=by
 intro ρ kd d h g σ H Q se q;dsimp only[pq] at h
 cases ea:fa ρ with
 |none=>rw[ea] at h;cases h
 |some x=>cases eb:fb ρ with
  |none=>rw[ea,eb] at h;cases h
  |some y=>
   rw[ea,eb] at h;obtain⟨kx,dx⟩:=x;obtain⟨ky,dy⟩:=y;rcases qJ h with⟨i,e,hh⟩|⟨p,e,hh⟩
   ·cases(show dy=_ from e);refine ak (qB lX au au (ef hp)) (two ha hb ea eb se λvx vy H' s rx ry=>?_);obtain rfl:=ry.rd.int;exact qK hh rx λv r=>q v H' s r
   ·cases hh
noncomputable def dO(xs:List D)(lo hi:Option Int):List D:=(xs.drop (HT.i6 xs.length 0 lo)).take (HT.i6 xs.length xs.length hi-HT.i6 xs.length 0 lo)
theorem RpL.cut(h:RpL K H S ds vs)(lo hi:Option Int):RpL K H S (dO ds lo hi) (sB vs lo hi):=by
 unfold dO sB;rw[h.len];exact(h.drop _).take _
noncomputable def wO(X:Cx)(e:Option Expr):TO:=λσ H Q=>∃t,PO X e t/\t σ H Q
theorem yk:PO X e (wO X e):=λpins s σ H Q I h=>let ⟨t,p,q⟩:=h;p pins s σ H Q I q
noncomputable def uV(X:Cx)(f:Ro->Option (Option Int))(e:Option Expr):Prop:=∀ρ o,f ρ=some o->∀g σ H Q,SE X.K g ρ σ H->(∀H',Same H H'->Q o H')->wO X e σ H Q
noncomputable def ym(a:Option KD):Option (Option Int):=match a with|some (_,.int i)=>some (some i)|_=>none
theorem A9:uV X (λ_=>some none) none:=λρ o h g σ H Q se q=>by cases h;exact⟨_,qy,q H (Same.refl H)⟩
theorem Ba{f:Ro->Option KD}(hf:SndE X f e):uV X (λρ=>ym (f ρ)) (some e):=λρ o h g σ H Q se q=>by
 dsimp only[ym] at h;split at h
 ·rename_i k i ea;cases h;exact⟨_,qz au,hf ρ _ _ ea g σ H _ se λv H' s r=>⟨i,r.rd.int,q H' s⟩⟩
 ·cases h
noncomputable def Ek(a:Option KD)(lo hi:Option (Option Int)):Option KD:=match a,lo,hi with
 |some (ka,.nd .lst xs),some l,some u=>if ip ka xs=true then some (.fr aZ,.lst (dO xs l u)) else none
 |some (_,.scr ns),some l,some u=>some (.fr aZ,.lst (dO (ns.map .int) l u))
 |_,_,_=>none
theorem HD{fa:Ro->Option KD}{fl fh:Ro->Option (Option Int)}(ha:SndE X fa a)(hl:uV X fl lo)(hh:uV X fh hi):SndE X (λρ=>Ek (fa ρ) (fl ρ) (fh ρ)) (.Subscript a (.Slice lo hi none p2) pos):=by
 intro ρ kd d h g σ H Q se q;dsimp only[Ek] at h;split at h
 ·rename_i ka xs l u ea el eu;split at h
  ·rename_i hk;cases h;refine ak (jD lZ au yk yk) (ha ρ _ _ ea g σ H _ se λx H1 s1 rx=>hl ρ _ el g σ H1 _ (se.same s1) λH2 s2=>hh ρ _ eu g σ H2 _ ((se.same s1).same s2) λH3 s3=>?_);obtain⟨p,o,us,rfl,g1,q1,r⟩:=((rx.same s2).same s3).items hk se.mu ((s1.trans s2).trans s3);cases(show o=_ from q1);exact⟨p,us,rfl,.of g1,λp' hp'=>q _ _ (((s1.trans s2).trans s3).trans (af hp')) ((l5 hp' (r.cut l u)).older ((s1.trans s2).trans s3))⟩
  ·cases h
 ·rename_i ka ns l u ea el eu;cases h;refine ak (jD lZ au yk yk) (ha ρ _ _ ea g σ H _ se λx H1 s1 rx=>hl ρ _ el g σ H1 _ (se.same s1) λH2 s2=>hh ρ _ eu g σ H2 _ ((se.same s1).same s2) λH3 s3=>?_);obtain⟨p,rfl,g1⟩:=((rx.same s2).same s3).rd.scr;exact⟨p,_,rfl,g1,λp' hp'=>q _ _ (((s1.trans s2).trans s3).trans (af hp')) ((l5 hp' ((RpL.ints ns).cut l u)).older ((s1.trans s2).trans s3))⟩
 ·cases h
end
end J
namespace J
open PySem PySem.Spec L2
mutual
noncomputable def Jy:Nat->D->Bool
 |_,.non=>true
 |_,.bl _=>true
 |_,.int i=>decide (i.natAbs<10^70)
 |_,.str x=>PyData.strOk (reprText x)&&x.cps.toList.all λc=>decide (c<16^8)
 |_,.scr _=>false
 |n,.nd .lst ds=>decide (1<=n)&&Bb (n-1) ds
 |n,.nd .tup ds=>decide (1<=n)&&Bb (n-1) ds
 |n,.nd (.dic t ks) _=>decide (1<=n)&&(decide (t=0)&&ks.isEmpty)
 |_,.nd (.obj _ _) _=>false
noncomputable def Bb:Nat->List D->Bool
 |_,[]=>true
 |n,d::ds=>Jy n d&&Bb n ds
end
mutual
noncomputable def Jz:D->Nat
 |.str x=>x.cps.size
 |.nd .lst ds=>HE ds
 |.nd .tup ds=>HE ds
 |_=>0
noncomputable def HE:List D->Nat
 |[]=>0
 |d::ds=>Jz d+1+HE ds
end
section
variable {X:Cx} {pins:List (Addr×Obj)} {σ:L2.St} {H:Hp} {s:Shared} {S:Pr}
end
end J
namespace G
open PySem PySem.Spec PyProof.Rows L2
theorem pt:fillsInplaceSlot (.type "list") "add" (Operator.Add==.Add)=pure false:=by
 unfold fillsInplaceSlot;show(typeLookup (.type "list") (dunderI "add") >>= λfi=>pure (fi.isSome&&!isSeqSlot fi))=pure false;rw[PySem.F.slot_list_iadd.lookup];show(pure (true&&!isSeqSlot (some (.builtin "list.__iadd__"))):Sem Bool)=_;rw[show isSeqSlot (some (.builtin "list.__iadd__"))=true by decide +kernel];rfl
section
variable {X:Cx}
theorem Bc:G7 X .Add (λx y H Q=>qD x [y] H λ_ H'=>Q x H'):=by
 intro pins s σ H x y v u Q I rx ry h;obtain⟨l,b,xs,zs,rfl,e0,hH,hB,hz,q⟩:=h;cases e0;cases rx;cases ry;obtain⟨z,its,n,r,hl,e⟩:=I.lstM hH;obtain⟨z2,its2,n2,r2,hl2,e2⟩:=I.lstM hB;have hsz:its.toArray.size+its2.toArray.size<=sizeLine:=by rw[Kv,Kv];lia
 have hlong:¬(!its.toArray.isEmpty&&Builtin.List.listTooLong (its.toArray.size+its2.toArray.size))=true:=by
  rw[ul hsz,Bool.and_false];exact LF
 have ta:s.TypeIs (.ref l) "list":=⟨_,e,rfl⟩;unfold inplaceOp;refine wpAny_holding ?_;refine wpAny_bind (wpAny_typeOf ta (wpAny_bind (wpAny_of_eq pt ?_)))
 show wpAny _ _ (if false=true then _ else _) _ _ s
 rw[if_neg LF];refine wpAny_bind (PyProof.Rows.binaryOp1_none (nm:="add") ta ⟨_,e2,rfl⟩ noFill_list_add ?_);refine wpAny_bind (wpAny_of_eq (PyProof.Rows.seqSlot_of PySem.F.slot_list_iadd.lookup (by decide +kernel)) ?_);refine wpAny_bind (wpAny_rule ?_);refine call_meets PySem.F.slot_list_iadd ta PySem.F.entry_list_iadd (PySem.F.args_list_iadd_2 _ _) (AutoSeq1.list___iadd___list_list_0 l its.toArray n b its2.toArray n2 hlong (by rw[Kv];lia) (by lia)) ⟨e,e2,?_⟩;refine⟨.ref l,_,I.lset (its':=its++its2) hH e (by simp) (r.append r2) ?_,rfl,q⟩;rw[K9]
 lia
end
end G
namespace G
open PySem PySem.Spec PyProof.Rows L2
noncomputable def Ri(xs:Array Nat):Prop:=xs.toList.Pairwise (· < ·)
theorem Ri.at{xs:Array Nat}(h:Ri xs){i k:Nat}(hik:i<k)(hk:k<xs.size):xs[i]'(Ll hik hk)<xs[k]:=by
 have:=Mr.mp h i k (by simpa using Ll hik hk) (by simpa using hk) hik;simpa using this
theorem jM{xs:Array Nat}{j:Nat}(hs:Ri xs):∀(fuel lo hi:Nat),hi-lo<=fuel->lo<=hi->hi<=xs.size->(∀i (h:i<xs.size),i<lo->xs[i]<j)->(∀i (h:i<xs.size),hi<=i->j<=xs[i])->
  SetTable.below.go xs j fuel lo hi<=xs.size/\(∀i (h:i<xs.size),i<SetTable.below.go xs j fuel lo hi->xs[i]<j)/\(∀i (h:i<xs.size),SetTable.below.go xs j fuel lo hi<=i->j<=xs[i])
 |0,lo,hi,hf,h1,h2,a,b=>by
  obtain rfl:lo=hi:=by lia
  exact⟨h2,a,b⟩
 |fuel+1,lo,hi,hf,h1,h2,a,b=>by
  unfold SetTable.below.go;by_cases hlt:lo<hi
  ·rw[if_pos hlt];dsimp only;have hm:(lo+hi) / 2<xs.size:=by lia
   have hg:xs.getD ((lo+hi) / 2) j=xs[(lo+hi) / 2]:=by simp[Me,hm]
   rw[hg];by_cases hx:xs[(lo+hi) / 2]<j
   ·rw[if_pos hx];refine jM hs fuel _ hi (by lia) (by lia) h2 (λi h hi'=>?_) b;rcases KW i ((lo+hi) / 2) with g|g
    ·exact Ll (hs.at g hm) hx
    ·obtain rfl:i=(lo+hi) / 2:=by lia
     exact hx
   ·rw[if_neg hx];refine jM hs fuel lo _ (by lia) (by lia) (by lia) a λi h hi'=>?_;rcases KW ((lo+hi) / 2) i with g|g
    ·exact L4 (Lw (Nat.not_lt.mp hx) (hs.at g h))
    ·obtain rfl:i=(lo+hi) / 2:=by lia
     exact Nat.not_lt.mp hx
  ·rw[if_neg hlt];obtain rfl:lo=hi:=by lia
   exact⟨h2,a,b⟩
theorem jN{xs:Array Nat}(hs:Ri xs)(j:Nat):SetTable.below xs j<=xs.size/\(∀i (h:i<xs.size),i<SetTable.below xs j->xs[i]<j)/\(∀i (h:i<xs.size),SetTable.below xs j<=i->j<=xs[i]):=
 jM hs xs.size 0 xs.size (by lia) (K2 _) (Kw _) (λi h z=>absurd z (LQ _)) λi h z=>absurd h (by lia)
theorem eS{xs:Array Nat}(hs:Ri xs){j k:Nat}(hk:k<=xs.size)(h1:∀i (h:i<xs.size),i<k->xs[i]<j)(h2:∀i (h:i<xs.size),k<=i->j<=xs[i]):SetTable.below xs j=k:=by
 obtain⟨a,b,c⟩:=jN hs j;rcases Nd (SetTable.below xs j) k with g|g|g
 ·have:=c _ (by lia) (Kw _);have:=h1 _ (by lia) g;lia
 ·exact g
 ·have:=b _ (by lia) g;have:=h2 _ (by lia) (Kw _);lia
theorem sG{xs:Array Nat}(hs:Ri xs){j:Nat}(hj:xs[SetTable.below xs j]?≠some j):Ri (SetTable.insertAt xs (SetTable.below xs j) j):=by
 obtain⟨a,b,c⟩:=jN hs j;unfold Ri;rw[SetTable.toList_insertAt]
 have c':∀i (h:i<xs.size),SetTable.below xs j<=i->j<xs[i]:=λi h hi=>by
  rcases KW (SetTable.below xs j) i with g|g
  ·exact Lw (c _ (by lia) (Kw _)) (hs.at g h)
  ·have e:SetTable.below xs j=i:=by lia
   have:=c i h hi;rcases KW j xs[i] with q|q
   ·exact q
   ·exact absurd (show xs[SetTable.below xs j]?=some j by rw[e,KT h];congr 1;lia) hj
 have tk:∀x∈xs.toList.take (SetTable.below xs j),x<j:=λx hx=>by
  obtain⟨i,hi,e⟩:=List.mem_take_iff_getElem.mp hx;rw[<- e];have:=b i (by simp at hi;lia) (by simp at hi;lia);simpa using this
 have dr:∀x∈xs.toList.drop (SetTable.below xs j),j<x:=λx hx=>by
  obtain⟨i,hi,e⟩:=List.mem_drop_iff_getElem.mp hx;rw[<- e];have:=c' (SetTable.below xs j+i) (by simp at hi;lia) (by lia);simpa[Nat.add_comm] using this
 rw[List.pairwise_append];refine⟨List.Pairwise.sublist (Nb _ _) hs,K1.mpr ⟨dr,List.Pairwise.sublist (List.drop_sublist _ _) hs⟩,λx hx y hy=>?_⟩;rcases Ku.mp hy with rfl|hy
 ·exact tk x hx
 ·exact Ll (tk x hx) (dr y hy)
theorem jO{t:SetTable}{h:Int}(hd:t.dummies=#[]):∀(fuel:Nat) (p:SetTable.Probe) {j:Nat} {d:Option Nat},p.dummy=none->SetTable.probe.go t f h fuel p=some (.empty j d)->d=none/\t.slot j=.empty
 |0,p,j,d,_,e=>by cases e
 |fuel+1,p,j,d,hp,e=>by
  unfold SetTable.probe.go at e
  have hadv:(t.advance p).dummy=none:=by
   unfold SetTable.advance;split
   ·exact hp
   ·exact hp
  cases hsl:t.slot p.j with
  |empty=>
   rw[hsl] at e;dsimp only at e;cases e;exact⟨hp,hsl⟩
  |dummy=>
   exfalso;unfold SetTable.slot at hsl;dsimp only at hsl;rw[hd] at hsl;split at hsl
   ·cases hsl
   ·split at hsl
    ·rename_i z;unfold SetTable.has at z;rw[Array.getElem?_empty] at z;cases z
    ·cases hsl
  |live i=>
   rw[hsl] at e;dsimp only at e;split at e
   ·cases e
   ·exact jO hd fuel _ hadv e
structure Gd(led:Bool)(t:SetTable):Prop where
 ri:Ri t.place
 nod:t.dummies=#[]
 led:t.led=led
theorem uW(n:Nat):Ri (Array.range n):=by
 unfold Ri;rw[Array.toList_range];exact MG
theorem Gd.standIn{led:Bool}{t:SetTable}(h:Gd led t)(n:Nat):Gd led (t.standIn n):=⟨uW n,rfl,h.led⟩
theorem Gd.orStandIn{led:Bool}{t:SetTable}(h:Gd led t)(n:Nat):Gd led (t.orStandIn n):=by
 unfold SetTable.orStandIn;split
 ·exact h
 ·exact h.standIn n
theorem sH{led:Bool}(g:Gd led t)(es:Array (Int×Value))(h:Int)(x:Value):Gd led (layNew t es h x).2.1:=by
 unfold layNew;split
 ·rename_i slot wd e;unfold SetTable.freeSlot at e;split at e
  ·rename_i j d e2;obtain⟨rfl,hsl⟩:=jO g.nod _ _ (by rfl) e2;have e3:j=slot:=by simpa using congrArg (λz=>z.map (·.1)) e
   subst e3;refine Gd.orStandIn (t:=(t.put j).1) ⟨sG g.ri (j:=j) ?_,?_,g.led⟩ _
   ·intro z;unfold SetTable.slot at hsl;dsimp only at hsl;rw[z] at hsl;simp at hsl
   ·show(if SetTable.has t.dummies j then _ else t.dummies)=#[]
    rw[g.nod];rfl
  ·cases e
 ·exact g.standIn _
theorem sI(l:List Nat)(hl:l.Pairwise (· < ·))(f:Nat->Option Nat):((l.filterMap λj=>(f j).map (j,·)).map (·.1)).Pairwise (· < ·):=by
 have sub:((l.filterMap λj=>(f j).map (j,·)).map (·.1)).Sublist l:=by
  clear hl
  induction l with
  |nil=>exact .slnil
  |cons a l ih=>
   rw[LB]
   cases f a with
   |none=>exact ih.cons a
   |some b=>exact ih.cons_cons a
 exact hl.sublist sub
theorem uX{led:Bool}(g:Gd led t)(es:Array (Int×Value))(n:Nat):Gd led (relayAll t es n).2.1:=by
 unfold relayAll;split
 ·rename_i t' order e;dsimp only;split
  ·unfold SetTable.relaid SetTable.laid at e;simp only[Option.bind_eq_bind,Lp] at e;obtain⟨ow,_,e⟩:=e;cases e;refine⟨?_,rfl,g.led⟩;show(List.toArray _).toList.Pairwise (· < ·);exact sI _ MG λj=>ow.getD j none
  ·exact g.standIn _
 ·exact g.standIn _
noncomputable def ns(es:List (Int×Value)):List Int:=es.map λe=>numOf e.2
noncomputable def SetI(prog:Program)(w:World)(h:Heap)(a:Addr)(led:Bool)(ms:List Int):Prop:=
 ∃o es ep t,h.get? a=some o/\o.ExactSet/\o.data=.set es ep t/\ElemsOf (intKind prog w) es.toList/\(ns es.toList).Perm ms/\es.size<scanBound/\t.fits es.size=true/\Gd led t
noncomputable def addI(ms:List Int)(k:Int):List Int:=if k∈ms then ms else ms++[k]
section
variable {prog:Program} {w:World} {A:Around} {E:Value->Shared->Prop} {s:Shared}
theorem SetI.kept{h h':Heap}{led:Bool}(x:SetI prog w h a led ms)(k:∀o,h.get? a=some o->h'.get? a=some o):SetI prog w h' a led ms:=
 let ⟨o,es,ep,t,ho,r⟩:=x;⟨o,es,ep,t,k o ho,r⟩
theorem nC{h:Heap}{o:Obj}{ep:Nat}{es':Array (Int×Value)}{t':SetTable}{led:Bool}(ho:h.get? a=some o)(hex:o.ExactSet)(hd:o.data=.set es ep t)(hel:ElemsOf (intKind prog w) es'.toList)(hp:(ns es'.toList).Perm ms)(hb:es'.size<scanBound)(hf:t'.fits es'.size=true)(hg:Gd led t') :
  (h.update a (Obj.putSet es' t')).get? a=some { o with data:=.set es' (ep+1) t' }/\SetI prog w (h.update a (Obj.putSet es' t')) a led ms:=by
 have e:(h.update a (Obj.putSet es' t')).get? a=some { o with data:=.set es' (ep+1) t' }:=by
  have:=Lj (Obj.putSet es' t') ho (by rw[putSet_of es' t' hd];rfl);rwa [putSet_of es' t' hd] at this
 exact⟨e,_,es',ep+1,t',e,hex,rfl,hel,hp,hb,hf,hg⟩
theorem Bd{l:List (Int×Value)}(h:ElemsOf (intKind prog w) l)(k:Int):k∈ns l↔∃e∈l,(intKind prog w).is k e.2=true:=by
 unfold ns;rw[Lf];constructor
 ·rintro ⟨e,he,rfl⟩
  obtain⟨⟨k',hk,_⟩,_⟩:=h e he;obtain⟨t,e2⟩:=Value.isInt_shape hk;exact⟨e,he,by rw[e2];exact intKind_is prog w k' t⟩
 ·rintro ⟨e,he,hk⟩
  obtain⟨t,e2⟩:=Value.isInt_shape hk;exact⟨e,he,by rw[e2];rfl⟩
theorem uY{led:Bool}{ms:List Int}{k:Int}{Q:Bool->Shared->Prop}(hS:SetI prog w s.heap a led ms)(hr:ms.length+1<scanBound)(h:∀b h',Heap.SameBut a s.heap h'->SetI prog w h' a led (addI ms k)->Q b { s with heap:=h' }):wpAny (model prog w) A (setAddHashed a (.int k tk) ((intKind prog w).hash k)) Q E s:=by
 obtain⟨o,es,ep,t,ho,hex,hd,hel,hp,hb,hf,hg⟩:=hS;have hlen:es.size=ms.length:=by rw[<- hp.length_eq];unfold ns;rw[Kp,KI]
 have hkey:=intKind_is prog w k tk;have hmem:k∈ms↔∃e∈es.toList,(intKind prog w).is k e.2=true:=hp.mem_iff.symm.trans (Bd hel k);unfold setAddHashed setAddHashedIn;refine wpAny_holding (wpAny_bind (wpAny_setState_of ho hd hf ?_));dsimp only;rw[byScan_of rfl hb hel];simp only[↓reduceIte];unfold setAddByScan;refine wpAny_bind (wpAny_bind (wpAny_rule (wpAny_bind (wpAny_setScan_of hkey ho hd hf hel ?_))))
 cases hq:List.findIdx? (λe=>(intKind prog w).is k e.2) es.toList with
 |some j=>
  dsimp only;obtain⟨hj,hpj,_⟩:=List.findIdx?_eq_some_iff_getElem.mp hq;refine wpAny_pure (wpAny_pure ?_);have e:s={ s with heap:=s.heap }:=by cases s;rfl
  rw[e];refine h _ s.heap (Heap.SameBut.refl a s.heap) ⟨o,es,ep,t,ho,hex,hd,hel,?_,hb,hf,hg⟩;unfold addI;rw[if_pos (hmem.mpr ⟨_,Ld hj,hpj⟩)];exact hp
 |none=>
  dsimp only
  have hno:k∉ms:=λz=>by
   obtain⟨e,he,q⟩:=hmem.mp z;have:=List.findIdx?_eq_none_iff.mp hq e he;rw[q] at this;cases this
  have hperm:=layNew_perm t es ((intKind prog w).hash k) (.int k tk);have hfits:=layNew_fits t es ((intKind prog w).hash k) (.int k tk);have hgd:=sH hg es ((intKind prog w).hash k) (.int k tk);generalize layNew t es ((intKind prog w).hash k) (.int k tk)=L at hperm hfits hgd⊢;obtain⟨es1,t1,wd,gv⟩:=L;dsimp only at hperm hfits hgd⊢;rw[Nf] at hperm;have hel1:ElemsOf (intKind prog w) es1.toList:=(hel.push hkey rfl).perm hperm
  have hp1:(ns es1.toList).Perm (addI ms k):=by
   unfold addI;rw[if_neg hno];refine(hperm.map _).trans ?_;rw[KR];exact hp.append (.refl _)
  have hb1:es1.size<scanBound:=by rw[<- KI,hperm.length_eq,K9,KI,hlen];exact hr
  have run:∀(b:Bool) (s1:Shared) (Q':Unit->Shared->Prop),Q' () s1->wpAny (model prog w) A (match b with|true=>rule "set.scan.the-table-gave-way" |false=>pure ()) Q' E s1:=λb s1 Q' q=>by
   cases b
   ·exact wpAny_pure q
   ·exact wpAny_rule q
  refine wpAny_bind (run _ _ _ ?_);obtain⟨ho2,hS2⟩:=nC (prog:=prog) (w:=w) ho hex hd hel1 hp1 hb1 hfits hgd;have sb:=Heap.SameBut.update s.heap a (Obj.putSet es1 t1)
  have tail:∀(g:Bool->Sem Unit) (hg:∀(b:Bool) (s1:Shared) (Q':Unit->Shared->Prop),Q' () s1->wpAny (model prog w) A (g b) Q' E s1),wpAny (model prog w) A (do
    storeSet a es1 t1
    if(!wd&&t1.tooFull)=true then do
      g (relayAll t1 es1 (SetTable.grown es1.size)).2.2
      storeSet a (relayAll t1 es1 (SetTable.grown es1.size)).1 (relayAll t1 es1 (SetTable.grown es1.size)).2.1
      pure (some true)
     else pure (some true)) (λr s'=>wpAny (model prog w) A (match r with|some added=>pure added|none=>setAddHashedIn a (.int k tk) ((intKind prog w).hash k) 99999) Q E s') E s:=by
   intro g run;refine wpAny_bind (wpAny_storeSet_of ho hd ?_ (fits_of_scanBound hb1));split
   ·have rp:=relayAll_perm t1 es1 (SetTable.grown es1.size);have rf:=relayAll_fits t1 es1 (SetTable.grown es1.size);have rg:=uX hgd es1 (SetTable.grown es1.size);generalize relayAll t1 es1 (SetTable.grown es1.size)=L at rp rf rg⊢;obtain⟨es2,t2,g2⟩:=L;dsimp only at rp rf rg⊢;have hb2:es2.size<scanBound:=by rw[<- KI,rp.length_eq,KI];exact hb1
    refine wpAny_bind (run _ _ _ (wpAny_bind (wpAny_storeSet_of ho2 rfl ?_ (fits_of_scanBound hb2))));obtain⟨_,hS3⟩:=nC (prog:=prog) (w:=w) ho2 hex rfl (hel1.perm rp) ((rp.map _).trans hp1) hb2 rf rg;exact wpAny_pure (wpAny_pure (h _ _ (sb.trans (Heap.SameBut.update _ a _)) hS3))
   ·exact wpAny_pure (wpAny_pure (h _ _ sb hS2))
  split
  ·refine wpAny_bind ?_;rw[hashByValue_scannable 8 rfl];refine wpAny_pure ?_;simp only[plainKind,↓reduceIte];exact tail _ run
  ·refine wpAny_bind (wpAny_pure ?_);simp only[↓reduceIte];exact tail _ run
end
noncomputable def fZ(val:Nat->Int):Nat->List Int
 |0=>[]
 |i+1=>addI (fZ val i) (val i)
theorem mf(val:Nat->Int):∀i,(fZ val i).length<=i
 |0=>Kw _
 |i+1=>by
  have:=mf val i;show(addI _ _).length<=_;unfold addI;split
  ·lia
  ·rw[K9];simp only[KS,Mz];lia
section
variable {prog:Program} {w:World} {A:Around} {R:Result->Shared->Prop} {J:Addr} {fp wr:List Addr} {GG:Array GenState->Array GenState->Prop} {n:Nat} {P:Nat->Value->Prop} {St:Nat->Shared->Prop}
theorem sJ(W:WalksS prog w A.in1 J fp wr GG n P St)(S:Addr)(hSf:S∉fp)(led:Bool)(val:Nat->Int)
  (hval:∀i v,P i v->∃t,v=.int (val i) t) (hb:n+1<scanBound):∀(k i:Nat) (s:Shared),n-i=k->i<=n->St i s->SetI prog w s.heap S led (fZ val i)->
   (∀s',Moved (S::wr) GG s s'->SetI prog w s'.heap S led (fZ val n)->R (.ok (.ret .none)) s')->
   codeAny (model prog w) A (.builtin "set.update.loop" ⟨[.ref S,.ref J],[]⟩) R s:=by
 have hw:S∉wr:=λh=>hSf (W.sub _ h);have sb:∀b∈wr,b∈S::wr:=λb hb=>Kx _ hb;intro k
 induction k with
 |zero=>
  intro i s hk hi st hS hR;obtain rfl:i=n:=by lia
  refine codeAny_builtin F.entry_set_update_loop ?_;rw[Around.under_plainId F.plain_set_update_loop _];show wpAny _ A.in1 (pyNext (.ref J) >>= _) _ _ s;refine wpAny_bind (W.done s _ _ st λs1 mv=>?_);show wpAny _ A.in1 (ret Value.none) _ _ s1;exact wpAny_pure (hR s1 (mv.mono sb) (hS.kept λo ho=>mv.heap S _ hw ho))
 |succ k ih=>
  intro i s hk hi st hS hR;have lt:i<n:=by lia
  refine codeAny_builtin F.entry_set_update_loop ?_;rw[Around.under_plainId F.plain_set_update_loop _];show wpAny _ A.in1 (pyNext (.ref J) >>= _) _ _ s;refine wpAny_bind (W.item i s _ _ lt st λv s1 hp st1 mv=>?_);obtain⟨tk,rfl⟩:=hval i v hp;have hS1:SetI prog w s1.heap S led (fZ val i):=hS.kept λo ho=>mv.heap S _ hw ho;have room:(fZ val i).length+1<scanBound:=by have:=mf val i;lia
  show wpAny _ A.in1 (holding [Value.int (val i) tk] (setAdd S (.int (val i) tk)) >>= _) _ _ s1;refine wpAny_bind (wpAny_holding ?_);unfold setAdd;refine wpAny_holding (wpAny_bind ((intKind prog w).pyHash (k:=val i) (intKind_is prog w _ tk) ?_));refine uY (s:={ s1 with toks:=s1.toks+1 }) hS1 room λb h' same hS2=>?_;refine wpAny_pure ⟨plainId_quiet F.plain_set_update_loop _,ih (i+1) _ (by lia) lt (W.frame _ s1 _ _ st1 (LD _) λb hb o e=>?_) hS2 λs2 mv2 hS4=>hR s2 (Moved.trans W.gtrans ((mv.mono sb).then_heap (LD _) λb o hb e=>?_) mv2) hS4⟩
  ·rw[same.2 b λh:b=S=>hSf (h▸hb)];exact e
  ·rw[same.2 b λh:b=S=>hb (h▸KF)];exact e
end
section
variable {prog:Program} {w:World} {A:Around} {E:Value->Shared->Prop} {s:Shared}
noncomputable abbrev c4(w:World):Bool:=!w.params.followText "set-order"
noncomputable abbrev lc(h:Heap)(led:Bool):Heap:=h.push { cls:=.type "set",dict:=none,data:=.set #[] 0 (.fresh 0 0 led) }
theorem mi(a:Value){Q₁:Value->Shared->Prop}(h:Q₁ (.ref s.heap.objs.size) { s with heap:=lc s.heap (c4 w) }) :
  codeAny (model prog w) A (.call (.builtin "set.__new__") ⟨[.type "set",a],[]⟩) (wants Q₁ E) s:=by
 refine codeAny_of_tree ?_;show wpAny _ A.in1 (do checkBuiltinCall "set.__new__" ⟨[.type "set",a],[]⟩;again (.builtin "set.__new__" ⟨[.type "set",a],[]⟩)) _ _ s;refine wpAny_bind (wpAny_of_eq (PySem.F.newCall_set_1 a) (wpAny_pure ⟨plainId_quiet PySem.F.plain_set_new _,codeAny_builtin PySem.F.entry_set_new ?_⟩));rw[Around.under_plainId PySem.F.plain_set_new _];unfold Builtin.«set.__new__» Builtin.Frozenset.newClass;have hsub:=PySem.sub_set_self;obtain⟨hp,g,d,tk,os⟩:=s;dsimp only
 wp_walk
 refine wpAny_askSetting (wpAny_pure ?_);dsimp only;simp only[newObj];exact wpAny_bind (wpAny_alloc (wpAny_pure (wpAny_pure h)))
theorem uZ{its:Array Value}{ks:List Int}{Q:Value->Shared->Prop}(hh:A.handled=none)(hl:s.heap.IsList l its)(hk:∀(i:Nat) v,its[i]?=some v->∃t,v=.int (ks.getD i 0) t)(hb:its.size+1<scanBound)(h:∀(h':Heap) (tk:Nat),SetI prog w h' s.heap.objs.size (c4 w) (fZ (λi=>ks.getD i 0) its.size)->
   (∀b o,b<s.heap.objs.size->s.heap.get? b=some o->h'.get? b=some o)->Q (.ref s.heap.objs.size) { s with heap:=h',toks:=tk }) :
  wpAny (model prog w) A (call (.type "set") [.ref l]) Q E s:=by
 obtain⟨c,tl,hmro⟩:=PySem.F.called_set.mro;have hmade:=PySem.F.called_set.made;have hsub:=PySem.F.called_set.sub;refine wpAny_call (codeAny_of_tree ?_);show wpAny _ _ (callAny (.type "set") _) _ _ _;refine wpAny_pure ⟨Code.quiet_builtin _ (by decide +kernel),codeAny_builtin PySem.F.entry_type_call ?_⟩;rw[Around.under_plain (weight_type_call_type "set" [.ref l] []) rfl];have h1:=PySem.F.called_set.notType;have h2:=PySem.F.called_set.canCreate;have hct:=PySem.F.typeCall_set_1 (.ref l)
 repeat (any_goals (first|assumption|wp_step))
 refine codeAny_mono (mi (.ref l) (E:=E) (Q₁:=λr s₁=>r=.ref s.heap.objs.size/\s₁={ s with heap:=lc s.heap (c4 w) }) ⟨rfl,rfl⟩) λr s₁ hr=>?_
 cases r with
 |error e=>exact hr
 |ok fl=>
  cases fl with
  |ret obj=>
   obtain⟨rfl,rfl⟩:=hr;have hS:(lc s.heap (c4 w)).get? s.heap.objs.size=some _:=KB _ rfl;have hT:Shared.TypeIs { s with heap:=lc s.heap (c4 w) } (.ref s.heap.objs.size) "set":=⟨_,hS,rfl⟩;have hli:=PySem.F.called_set.init.lookup;have hbi:=PySem.F.called_set.init.bind (.ref s.heap.objs.size)
   repeat (any_goals (first|assumption|wp_step))
   refine codeAny_mono (codeAny_call_builtin (R:=wants (λr s₂=>r=.none/\∃h' tk,s₂={ s with heap:=h',toks:=tk }/\SetI prog w h' s.heap.objs.size (c4 w) (fZ (λi=>ks.getD i 0) its.size)/\(∀b o,b<s.heap.objs.size->s.heap.get? b=some o->h'.get? b=some o)) E) PySem.F.called_set.init.plain PySem.F.entry_set_init (check_set_init_1 hT ?_)) λr₂ s₂ hr₂=>?_
   ·obtain⟨⟨ocls,odict,odata,oslots⟩,hol,hcl,nl,hdl⟩:=hl;simp only at hcl hdl;subst hcl;subst hdl;have hol1:=Kq { cls:=.type "set",dict:=none,data:=.set #[] 0 (.fresh 0 0 (c4 w)) } hol;have hl1:(lc s.heap (c4 w)).IsList l its:=⟨_,hol1,rfl,nl,rfl⟩;have hsls:=PySem.F.sub_list_set;have hslf:=PySem.F.sub_list_frozenset;have hne:(Value.type "list" == Value.type "dict")=false:=by decide
    unfold Builtin.«set.__init__» noKeywords Builtin.Frozenset.updateFrom;generalize hPI:pyIter=PI
    wp_walk
    subst hPI;refine wpAny_pyIter_list hl1 (wpAny_bind (wpAny_runValue ?_));have lt:l<s.heap.objs.size:=Ks hol;have sz:(lc s.heap (c4 w)).objs.size=s.heap.objs.size+1:=Lv ..;refine sJ (Walks.list (by simp[hh]) _ l (by rw[sz];exact KC (K3 lt)) its).toS s.heap.objs.size (by rw[sz];simp only[Ku,KO,or_false,not_or];exact⟨KC (Lb _),Lx lt⟩) (c4 w) (λi=>ks.getD i 0) hk hb (its.size-0) 0 _ (by lia) (K2 _) ⟨⟨_,KB _ rfl,rfl,rfl⟩,hl1.push _⟩ ?_ λs' mv hS'=>?_
    ·have g1:=Kq ({ cls:=.type "list_iterator",data:=.fields #[.ref l,.int 0 0] }:Obj) hS;exact⟨_,#[],0,.fresh 0 0 (c4 w),g1,⟨rfl,rfl,rfl⟩,rfl,λe he=>by simp at he,.refl _,by unfold scanBound;simp,rfl,.nil,rfl,rfl⟩
    ·obtain⟨h',g',d',tk',os'⟩:=s';obtain rfl:g'=s.gens:=mv.gens;obtain rfl:d'=s.drawn:=mv.drawn;obtain rfl:os'=s.os:=mv.os;show wpAny _ _ _ _ _ _;refine wpAny_pure ?_;show wpAny _ _ (ret Value.none) _ _ _;refine wpAny_pure ⟨rfl,h',tk',rfl,hS',λb o hb e=>mv.heap b o ?_ (Kq _ (Kq _ e))⟩;rw[sz];simp only[Ku,KO,or_false,not_or];exact⟨KC hb,KC (K3 hb)⟩
   ·cases r₂ with
    |error e=>exact hr₂
    |ok fl₂=>
     cases fl₂ with
     |ret r=>
      obtain⟨rfl,h',tk,rfl,hS',hk'⟩:=hr₂
      repeat (any_goals (first|assumption|wp_step))
      exact h _ _ hS' hk'
     |_=>exact hr₂.elim
  |_=>exact hr.elim
end
end G
namespace G
open PySem PySem.Spec PyProof.Rows L2
theorem slot_si_next:Slot "set_iterator" "__next__" "set_iterator.__next__":=
 .of (owner:="set_iterator") (n:="__next__") (by rw[typeLookup_type,builtinLookup_eq_fast];kernel_rfl) (by decide +kernel) (by decide +kernel) (by decide +kernel)
  (by first|exact .inl (by decide +kernel)|exact .inr (by decide +kernel)) (by rw[isSubtype_type];kernel_rfl)
theorem gM:Slot "set_iterator" "__iter__" "set_iterator.__iter__":=
 .of (owner:="set_iterator") (n:="__iter__") (by rw[typeLookup_type,builtinLookup_eq_fast];kernel_rfl) (by decide +kernel) (by decide +kernel) (by decide +kernel)
  (by first|exact .inl (by decide +kernel)|exact .inr (by decide +kernel)) (by rw[isSubtype_type];kernel_rfl)
theorem cj:entryFor table "set_iterator.__next__" = some Builtin.«set_iterator.__next__»:=entryFor_of_tree (by kernel_rfl)
theorem kI:entryFor table "set_iterator.__iter__" = some Builtin.«dict_keyiterator.__iter__»:=entryFor_alias (id':="dict_keyiterator.__iter__") (by kernel_rfl) rfl (by decide +kernel) (by kernel_rfl)
theorem cR(a:Value):argsOk "set_iterator.__next__" ⟨[a],[]⟩:=by unfold argsOk;kernel_rfl
theorem mj(a:Value):argsOk "set_iterator.__iter__" ⟨[a],[]⟩:=by unfold argsOk;kernel_rfl
theorem mn:entryFor table "set.__iter__" = some Builtin.«frozenset.__iter__»:=entryFor_alias (id':="frozenset.__iter__") (by kernel_rfl) rfl (by decide +kernel) (by kernel_rfl)
noncomputable def IsSi(h:Heap)(it:Addr)(f:Value)(i:Nat)(a:Addr)(n ep:Nat):Prop:=∃o,h.get? it=some o/\o.cls=.type "set_iterator"/\o.data=.fields #[f,.int i 0,.ref a,.int n 0,.int ep 0]
theorem IsSi.typeIs{s:Shared}{i:Nat}{n ep:Nat}(x:IsSi s.heap it f i a n ep):s.TypeIs (.ref it) "set_iterator":=let ⟨o,ho,hc,_⟩:=x;⟨o,ho,hc⟩
section
variable {prog:Program} {w:World} {A:Around} {E:Value->Shared->Prop} {s:Shared}
noncomputable def SetAt(h:Heap)(a:Addr)(es:Array (Int×Value))(ep:Nat)(t:SetTable):Prop:=∃o,h.get? a=some o/\o.ExactSet/\o.data=.set es ep t/\t.fits es.size=true
theorem ld{ep:Nat}(hb:w.params.followText "set-order" = true)(hS:SetAt s.heap a es ep t){sl i:Nat}{Q:Option (Value×Nat)->Shared->Prop}(h:Q ((pickOrder (w.params.setOrder a ep) es)[i]?.map λe=>(e.2,sl)) s):wpAny (model prog w) A (setNext a sl i ep) Q E s:=by
 obtain⟨o,ho,hex,hd,hf⟩:=hS;unfold setNext setsByText;refine wpAny_bind (wpAny_setState_of ho hd hf (wpAny_bind (wpAny_bind (wpAny_askSetting (wpAny_pure ?_)))))
 show wpAny _ _ (if w.params.followText "set-order" = true then _ else _) _ _ _
 rw[if_pos hb]
 show wpAny _ _ (if(ep != ep)=true then _ else _) _ _ _
 rw[if_neg (by simp)];refine wpAny_bind ?_;unfold setWalk setsByText;refine wpAny_bind (wpAny_setState_of ho hd hf (wpAny_bind (wpAny_bind (wpAny_askSetting (wpAny_pure ?_)))))
 show wpAny _ _ (if w.params.followText "set-order" = true then _ else _) _ _ _
 rw[if_pos hb];exact wpAny_bind (wpAny_askSetting (wpAny_pure (wpAny_pure h)))
theorem jP{es:Array (Int×Value)}{ep:Nat}{t:SetTable}(hb:w.params.followText "set-order" = false)(hl:t.led=true)(hp:t.plain=true\/es.size<=1)(hS:SetAt s.heap a es ep t){sl i:Nat}{Q:Option (Value×Nat)->Shared->Prop}(h:Q (match es[SetTable.below t.place sl]?,t.place[SetTable.below t.place sl]? with|some (_,x),some j=>some (x,j+1)|_,_=>none) s):wpAny (model prog w) A (setNext a sl i ep) Q E s:=by
 obtain⟨o,ho,hex,hd,hf⟩:=hS;unfold setNext setsByText;refine wpAny_bind (wpAny_setState_of ho hd hf (wpAny_bind (wpAny_bind (wpAny_askSetting (wpAny_pure ?_)))))
 show wpAny _ _ (if w.params.followText "set-order" = true then _ else _) _ _ _
 rw[if_neg (by rw[hb];exact LF)]
 show wpAny _ _ (if(!t.plain&&decide (es.size > 1))=true then _ else _) _ _ _
 rw[if_neg (by
  rcases hp with hp|hp
  ·rw[hp];simp
  ·simp;intro _;lia)]
 refine wpAny_bind ?_
 show wpAny _ _ (if(!t.led&&!es.isEmpty)=true then _ else _) _ _ _
 rw[if_neg (by rw[hl];simp)];exact wpAny_pure (wpAny_pure h)
theorem u0{i:Nat}{n ep:Nat}{o:Obj}(ho:s.heap.get? it=some o)(hc:o.cls=.type "set_iterator")(hd:o.data=.fields #[f,.int i 0,.ref a,.int n 0,.int ep 0]) :
  ∃o',(s.heap.update it (Obj.mapFields (·.setIfInBounds 0 f'))).get? it=some o'/\o'.cls=.type "set_iterator"/\o'.data=.fields #[f',.int i 0,.ref a,.int n 0,.int ep 0]:=
 ⟨_,Lj _ ho (Obj.isFreed_of_fields (Obj.data_mapFields hd _)),(Obj.cls_mapFields ..).trans hc,by rw[Obj.data_mapFields hd];simp⟩
theorem qL{h:Heap}{i:Nat}{n ep:Nat}{o:Obj}(ho:h.get? it=some o)(hc:o.cls=.type "set_iterator")(hd:o.data=.fields #[f,.int i 0,.ref a,.int n 0,.int ep 0]) :
  IsSi (h.update it (Obj.mapFields (·.setIfInBounds 1 (rawInt ((i:Int)+1))))) it f (i+1) a n ep:=
 ⟨_,Lj _ ho (Obj.isFreed_of_fields (Obj.data_mapFields hd _)),(Obj.cls_mapFields ..).trans hc,by rw[Obj.data_mapFields hd];simp[rawInt]⟩
theorem yn{sl sl' i:Nat}{es:Array (Int×Value)}{ep:Nat}{Q:Option Value->Shared->Prop}(hit:IsSi s.heap it (.int sl 0) i a es.size ep)(hS:SetAt s.heap a es ep t)(hN:∀(B:Around) (E:Value->Shared->Prop) (Q:Option (Value×Nat)->Shared->Prop),Q (some (x,sl')) s->wpAny (model prog w) B (setNext a sl i ep) Q E s)(hQ:∀h',IsSi h' it (.int sl' 0) (i+1) a es.size ep->Heap.SameBut it s.heap h'->Q (some x) { s with heap:=h' }):wpAny (model prog w) A (pyNext (.ref it)) Q E s:=by
 obtain⟨o,ho,hc,hd⟩:=id hit;obtain⟨oa,hoa,_,hda,hf⟩:=id hS;unfold pyNext;refine wpAny_bind (wpAny_attempt (wpAny_callSpecial?_slot (name:=Str.ofString "__next__") hit.typeIs slot_si_next (wpAny_call_entry slot_si_next hit.typeIs cj ?_ (cR _))));show wpAny _ _ (fieldsOf (.ref it) >>= _) _ _ s;refine wpAny_bind (wpAny_fieldsOf ho hd ?_);show wpAny _ _ (setEntries a >>= _) _ _ s;refine wpAny_bind (wpAny_setEntries_of hoa hda hf ?_)
 show wpAny _ _ (if((es.size:Int) != (es.size:Int))=true then _ else _) _ _ s
 rw[if_neg (by simp)];show wpAny _ _ (setNext a sl i ep >>= _) _ _ s;refine wpAny_bind (hN _ _ _ ?_);show wpAny _ _ (setField (.ref it) 0 (rawInt sl') >>= _) _ _ s;refine wpAny_bind (wpAny_setField ho hd (by simp) ?_);obtain⟨o1,ho1,hc1,hd1⟩:=u0 (f':=rawInt sl') ho hc hd;show wpAny _ _ (setField (.ref it) 1 (rawInt ((i:Int)+1)) >>= _) _ _ _;refine wpAny_bind (wpAny_setField (s:={ s with heap:=s.heap.update it (Obj.mapFields (·.setIfInBounds 0 (rawInt sl'))) }) ho1 hd1 (by simp) (wpAny_pure ⟨x,rfl,wpAny_pure (hQ _ (qL ho1 hc1 hd1) ?_)⟩));exact(Heap.SameBut.update ..).trans (Heap.SameBut.update ..)
theorem Be{sl i:Nat}{es:Array (Int×Value)}{ep:Nat}{Q:Option Value->Shared->Prop}(hh:A.handled=none)(hit:IsSi s.heap it (.int sl 0) i a es.size ep)(hS:SetAt s.heap a es ep t)(hN:∀(B:Around) (E:Value->Shared->Prop) (Q:Option (Value×Nat)->Shared->Prop),Q none s->wpAny (model prog w) B (setNext a sl i ep) Q E s)(hQ:∀h',Heap.ExtBut it s.heap h'->Q none { s with heap:=h' }):wpAny (model prog w) A (pyNext (.ref it)) Q E s:=by
 obtain⟨o,ho,hc,hd⟩:=id hit;obtain⟨oa,hoa,_,hda,hf⟩:=id hS;unfold pyNext;refine wpAny_bind (wpAny_attempt (wpAny_callSpecial?_slot (name:=Str.ofString "__next__") hit.typeIs slot_si_next (wpAny_call_entry slot_si_next hit.typeIs cj ?_ (cR _))));show wpAny _ _ (fieldsOf (.ref it) >>= _) _ _ s;refine wpAny_bind (wpAny_fieldsOf ho hd ?_);show wpAny _ _ (setEntries a >>= _) _ _ s;refine wpAny_bind (wpAny_setEntries_of hoa hda hf ?_)
 show wpAny _ _ (if((es.size:Int) != (es.size:Int))=true then _ else _) _ _ s
 rw[if_neg (by simp)];show wpAny _ _ (setNext a sl i ep >>= _) _ _ s;refine wpAny_bind (hN _ _ _ ?_);show wpAny _ _ (setField (.ref it) 2 .none >>= _) _ _ s;refine wpAny_bind (wpAny_setField ho hd (by simp) ?_);show wpAny _ _ (newExc (.type "StopIteration") [] >>= _) _ _ _;refine wpAny_bind ?_;simp only[newExc,newTuple];refine wpAny_bind (wpAny_newObj_type ?_ (by size_fits))
 refine wpAny_bind (m:=firstArgMember _ _) (wpAny_of_eq (a:=Value.none) (by first|rfl|(simp only[firstArgMember];rfl)) ?_)
 refine wpAny_newObj_type ?_ (by size_fits);simp only[raiseNew];refine wpAny_bind (wpAny_handled ?_);rw[show A.in1.handled=none from hh];refine wpAny_bind (wpAny_pure (wpAny_throw ?_));refine wpAny_bind (wpAny_isInstance (T:="StopIteration") (b:=true) ⟨_,KB _ rfl,rfl⟩ isSubtype_stop ?_);exact wpAny_pure (hQ _ (((Heap.SameBut.update ..).extBut.push _).push _))
theorem pv{i:Nat}{es:Array (Int×Value)}{ep:Nat}{ps:List Nat}{hx:Int}{j:Nat}{Q:Option Value->Shared->Prop}(hit:IsSi s.heap it (.ref tp) i a es.size ep)(hS:SetAt s.heap a es ep t)(htp:∃o n,s.heap.get? tp=some o/\o.data=.seq (ps.map λ(k:Nat)=>rawInt k).toArray n)(hj:ps[i]?=some j)(he:es[j]?=some (hx,x))(hQ:∀h',IsSi h' it (.ref tp) (i+1) a es.size ep->Heap.SameBut it s.heap h'->Q (some x) { s with heap:=h' }):wpAny (model prog w) A (pyNext (.ref it)) Q E s:=by
 obtain⟨o,ho,hc,hd⟩:=id hit;obtain⟨oa,hoa,_,hda,hf⟩:=id hS;obtain⟨ot,nt,hot,hdt⟩:=htp;unfold pyNext;refine wpAny_bind (wpAny_attempt (wpAny_callSpecial?_slot (name:=Str.ofString "__next__") hit.typeIs slot_si_next (wpAny_call_entry slot_si_next hit.typeIs cj ?_ (cR _))));show wpAny _ _ (fieldsOf (.ref it) >>= _) _ _ s;refine wpAny_bind (wpAny_fieldsOf ho hd ?_);show wpAny _ _ (setEntries a >>= _) _ _ s;refine wpAny_bind (wpAny_setEntries_of hoa hda hf ?_)
 show wpAny _ _ (if((es.size:Int) != (es.size:Int))=true then _ else _) _ _ s
 rw[if_neg (by simp)];show wpAny _ _ (seqItems? (.ref tp) >>= _) _ _ s;refine wpAny_bind (wpAny_seqItems hot hdt ?_)
 have e1:(ps.map λ(k:Nat)=>rawInt k).toArray[(i:Int).toNat]?=some (.int j 0):=by
  rw[Lh,Md,Kr,hj];rfl
 simp only[e1];show wpAny _ _ (setNextDrawn a j ep >>= _) _ _ s;unfold setNextDrawn;refine wpAny_bind (wpAny_bind (wpAny_setState_of hoa hda hf ?_))
 show wpAny _ _ (if(ep != ep)=true then _ else _) _ _ s
 rw[if_neg (by simp)];simp only[he];refine wpAny_pure ?_;show wpAny _ _ (setField (.ref it) 1 (rawInt ((i:Int)+1)) >>= _) _ _ _;exact wpAny_bind (wpAny_setField ho hd (by simp) (wpAny_pure ⟨x,rfl,wpAny_pure (hQ _ (qL ho hc hd) (Heap.SameBut.update ..))⟩))
theorem sK{i:Nat}{es:Array (Int×Value)}{ep:Nat}{ps:List Nat}{Q:Option Value->Shared->Prop}(hh:A.handled=none)(hit:IsSi s.heap it (.ref tp) i a es.size ep)(hS:SetAt s.heap a es ep t)(htp:∃o n,s.heap.get? tp=some o/\o.data=.seq (ps.map λ(k:Nat)=>rawInt k).toArray n)(hj:ps[i]?=none)(hQ:∀h',Heap.ExtBut it s.heap h'->Q none { s with heap:=h' }):wpAny (model prog w) A (pyNext (.ref it)) Q E s:=by
 obtain⟨o,ho,hc,hd⟩:=id hit;obtain⟨oa,hoa,_,hda,hf⟩:=id hS;obtain⟨ot,nt,hot,hdt⟩:=htp;unfold pyNext;refine wpAny_bind (wpAny_attempt (wpAny_callSpecial?_slot (name:=Str.ofString "__next__") hit.typeIs slot_si_next (wpAny_call_entry slot_si_next hit.typeIs cj ?_ (cR _))));show wpAny _ _ (fieldsOf (.ref it) >>= _) _ _ s;refine wpAny_bind (wpAny_fieldsOf ho hd ?_);show wpAny _ _ (setEntries a >>= _) _ _ s;refine wpAny_bind (wpAny_setEntries_of hoa hda hf ?_)
 show wpAny _ _ (if((es.size:Int) != (es.size:Int))=true then _ else _) _ _ s
 rw[if_neg (by simp)];show wpAny _ _ (seqItems? (.ref tp) >>= _) _ _ s;refine wpAny_bind (wpAny_seqItems hot hdt ?_)
 have e1:(ps.map λ(k:Nat)=>rawInt k).toArray[(i:Int).toNat]?=none:=by
  rw[Lh,Md,Kr,hj];rfl
 simp only[e1];refine wpAny_bind (wpAny_setField ho hd (by simp) ?_);obtain⟨o1,ho1,hc1,hd1⟩:=u0 (f':=rawInt 0) ho hc hd;refine wpAny_bind (wpAny_setField (s:={ s with heap:=s.heap.update it (Obj.mapFields (·.setIfInBounds 0 (rawInt 0))) }) ho1 hd1 (by simp) ?_);show wpAny _ _ (newExc (.type "StopIteration") [] >>= _) _ _ _;refine wpAny_bind ?_;simp only[newExc,newTuple];refine wpAny_bind (wpAny_newObj_type ?_ (by size_fits))
 refine wpAny_bind (m:=firstArgMember _ _) (wpAny_of_eq (a:=Value.none) (by first|rfl|(simp only[firstArgMember];rfl)) ?_)
 refine wpAny_newObj_type ?_ (by size_fits);simp only[raiseNew];refine wpAny_bind (wpAny_handled ?_);rw[show A.in1.handled=none from hh];refine wpAny_bind (wpAny_pure (wpAny_throw ?_));refine wpAny_bind (wpAny_isInstance (T:="StopIteration") (b:=true) ⟨_,KB _ rfl,rfl⟩ isSubtype_stop ?_);exact wpAny_pure (hQ _ ((((Heap.SameBut.update ..).trans (Heap.SameBut.update ..)).extBut.push _).push _))
theorem qM{i:Nat}{n ep:Nat}{Q:Value->Shared->Prop}(hit:IsSi s.heap it f i a n ep)(h:Q (.ref it) s):wpAny (model prog w) A (pyIter (.ref it)) Q E s:=by
 refine wpAny_pyIter_slot hit.typeIs gM (wpAny_call_entry gM hit.typeIs kI ?_ (mj _));show wpAny _ _ (ret (.ref it)) _ _ s;exact wpAny_pure ⟨_,rfl,"set_iterator",_,hit.typeIs,slot_si_next.lookup,h⟩
end
section
variable {prog:Program} {w:World}
theorem IsSi.at{h h':Heap}{i:Nat}{n ep:Nat}(x:IsSi h it f i a n ep)(e:∀o,h.get? it=some o->h'.get? it=some o):IsSi h' it f i a n ep:=let ⟨o,ho,r⟩:=x;⟨o,e _ ho,r⟩
theorem SetAt.at{h h':Heap}{ep:Nat}(x:SetAt h a es ep t)(e:∀o,h.get? a=some o->h'.get? a=some o):SetAt h' a es ep t:=let ⟨o,ho,r⟩:=x;⟨o,e _ ho,r⟩
theorem u3{A:Around}(hh:A.handled=none)(it a:Addr)(hne:a≠it)(es:Array (Int×Value))(ep:Nat)(t:SetTable)(ord:List Value)(sl:Nat->Nat)(hl:ord.length=es.size)
  (hN:∀(i:Nat) (x:Value) (s:Shared),ord[i]?=some x->SetAt s.heap a es ep t->∀(B:Around) (E:Value->Shared->Prop) (Q:Option (Value×Nat)->Shared->Prop),Q (some (x,sl (i+1))) s->wpAny (model prog w) B (setNext a (sl i) i ep) Q E s)
  (hN':∀(s:Shared),SetAt s.heap a es ep t->∀(B:Around) (E:Value->Shared->Prop) (Q:Option (Value×Nat)->Shared->Prop),Q none s->wpAny (model prog w) B (setNext a (sl es.size) es.size ep) Q E s) :
  Walks prog w A it [it,a] [it] es.size (λi v=>ord[i]?=some v) (λi h=>IsSi h it (.int (sl i) 0) i a es.size ep/\SetAt h a es ep t) where
 sub:=λb hb=>by simp at hb;simp[hb]
 frame:=λ_ _ _ st hk=>⟨st.1.at λo e=>hk it (by simp) o e,st.2.at λo e=>hk a (by simp) o e⟩
 item:=λi s Q E hi st hQ=>by
  have e:ord[i]?=some (ord[i]'(by lia)):=Ko _;refine yn st.1 st.2 (hN i _ s e st.2) λh' hit' hs'=>hQ _ h' s.toks e ⟨hit',st.2.at λo e=>?_⟩ λb o hb e=>hs'.extBut b o (λh=>hb (by simp[h])) e;rw[hs'.2 a hne];exact e
 done:=λs Q E st hQ=>Be hh st.1 st.2 (hN' s st.2) λh' he'=>hQ h' s.toks λb o hb e=>he' b o (λh=>hb (by simp[h])) e
 self:=λ_ _ _ _ st hQ=>qM st.1 hQ
theorem nD{A:Around}(hh:A.handled=none)(it a tp:Addr)(hne:a≠it)(hnt:tp≠it)(es:Array (Int×Value))(ep:Nat)(t:SetTable)(ps:List Nat)(hl:ps.length=es.size)(hps:∀j∈ps,j<es.size) :
  Walks prog w A it [it,a,tp] [it] es.size (λi v=>(ps.map λj=>(es.getD j (0,.none)).2)[i]?=some v) (λi h=>IsSi h it (.ref tp) i a es.size ep/\SetAt h a es ep t/\∃o n,h.get? tp=some o/\o.data=.seq (ps.map λ(k:Nat)=>rawInt k).toArray n) where
 sub:=λb hb=>by simp at hb;simp[hb]
 frame:=λ_ _ _ st hk=>⟨st.1.at λo e=>hk it (by simp) o e,st.2.1.at λo e=>hk a (by simp) o e,let ⟨o,n,e,d⟩:=st.2.2;⟨o,n,hk tp (by simp) o e,d⟩⟩
 item:=λi s Q E hi st hQ=>by
  have hi':i<ps.length:=by lia
  have hj:=hps _ (Ld hi')
  have e2:es[ps[i]]?=some ((es.getD ps[i] (0,.none)).1,(es.getD ps[i] (0,.none)).2):=by
   simp[Me,hj]
  refine pv st.1 st.2.1 st.2.2 (Ko hi') e2 λh' hit' hs'=>hQ _ h' s.toks ?_ ⟨hit',st.2.1.at λo e=>?_,?_⟩ λb o hb e=>hs'.extBut b o (λh=>hb (by simp[h])) e
  ·rw[Kr,Ko hi'];rfl
  ·rw[hs'.2 a hne];exact e
  ·obtain⟨o,n,e,d⟩:=st.2.2;exact⟨o,n,by rw[hs'.2 tp hnt];exact e,d⟩
 done:=λs Q E st hQ=>sK hh st.1 st.2.1 st.2.2 (Lk (by lia)) λh' he'=>hQ h' s.toks λb o hb e=>he' b o (λh=>hb (by simp[h])) e
 self:=λ_ _ _ _ st hQ=>qM st.1 hQ
end
theorem f6{α:Type}:∀(l:List α) (i:Nat) (h:i<l.length),(l[i]::l.eraseIdx i).Perm l
 |[],i,h=>absurd h (LQ _)
 |x::l,0,h=>.refl _
 |x::l,i+1,h=>by
  have:=f6 l i (by simpa using h);exact(List.Perm.swap _ _ _).trans (this.cons x)
theorem qN{α:Type}(next:Nat->Nat):∀(fuel k:Nat) (left:List α) (out:Array α),left.length<=fuel->(pickOrder.go next fuel k left out).toList.Perm (out.toList++left)
 |0,k,left,out,h=>by
  obtain rfl:left=[]:=KY.mp (by lia);rw[Ly];exact .refl _
 |fuel+1,k,left,out,h=>by
  unfold pickOrder.go
  cases e:left[next k%left.length]? with
  |none=>
   have:left.length<=next k%left.length:=LJ.mp e
   have hz:left=[]:=by
    rcases M3 left.length with z|z
    ·exact KY.mp z
    ·have:=Nat.mod_lt (next k) z;lia
   subst hz;dsimp only;rw[Ly]
  |some x=>
   dsimp only;obtain⟨hi,ex⟩:=Ky.mp e
   refine(qN next fuel (k+1) _ _ (by rw[MS];split<;>lia)).trans ?_
   rw[Nf,Nc];refine .append_left _ ?_;rw[<- ex];exact(f6 _ _ hi)
theorem sL{α:Type}(next:Nat->Nat)(xs:Array α):(pickOrder next xs).toList.Perm xs.toList:=by
 have:=qN next xs.size 0 xs.toList #[] (by simp)
 unfold pickOrder;simpa using this
theorem mq{n:Nat}{Q:Nat->Shared->Prop}(hn:n≠0)(h:∀i d,i<n->Q i { s with drawn:=d }):wpAny M A (choose src n) Q E s:=
 λ_ _ _=>⟨hn,h _ _ (Nat.mod_lt _ (M4 hn))⟩
theorem lg{α:Type}:∀(n:Nat) (xs:List α) (s:Shared) (Q:List α->Shared->Prop),n=xs.length->(∀ys d,ys.Perm xs->Q ys { s with drawn:=d })->wpAny M A (drawOrder n xs) Q E s
 |0,xs,s,Q,hn,h=>by
  obtain rfl:xs=[]:=KY.mp hn.symm;exact wpAny_pure (h [] s.drawn (.refl _))
 |n+1,[],s,Q,hn,h=>by cases hn
 |n+1,x::xs,s,Q,hn,h=>by
  unfold drawOrder;refine wpAny_bind (mq (by simp) λi d hi=>?_);have e:(x::xs)[i]?=some (x::xs)[i]:=Ko hi;rw[e];dsimp only;refine wpAny_bind (lg n _ _ _ (by rw[MS,if_pos hi];simp at hn⊢;lia) λys d' hp=>wpAny_pure (h _ d' ?_));exact(hp.cons _).trans (f6 _ _ hi)
section
variable {prog:Program} {w:World} {A:Around} {E:Value->Shared->Prop} {s:Shared}
noncomputable def Bf(prog:Program)(w:World)(a:Addr)(n:Nat)(xs:List Value)(s s':Shared)(it:Addr):Prop:=
 ∃(fp:List Addr) (ord:List Value) (St:Nat->Heap->Prop),(∀B:Around,B.handled=none->Walks prog w B it fp [it] n (λi v=>ord[i]?=some v) St)/\St 0 s'.heap/\ord.Perm xs/\(∀b o,s.heap.get? b=some o->s'.heap.get? b=some o)/\(∀b∈fp,b=a\/s.heap.objs.size<=b)/\s.heap.objs.size<=it/\s'.gens=s.gens/\s'.os=s.os/\s'.toks=s.toks/\s'.TypeIs (.ref it) "set_iterator"
theorem u4{es:Array (Int×Value)}{ep:Nat}(hS:SetAt s.heap a es ep t)(hg:Gd (c4 w) t)(hsz:es.size<=4000){Q:Value->Shared->Prop}(h:∀(s':Shared) (it:Addr),Bf prog w a es.size (es.toList.map (·.2)) s s' it->Q (.ref it) s'):wpAny (model prog w) A (pyIter (.ref a)) Q E s:=by
 obtain⟨o,ho,hex,hd,hf⟩:=id hS;have hT:s.TypeIs (.ref a) "set":=⟨o,ho,hex.1⟩;have lt:a<s.heap.objs.size:=Ks ho;refine wpAny_pyIter_slot hT PySem.F.slot_set_iter (wpAny_call_entry PySem.F.slot_set_iter hT mn ?_ (PySem.F.args_set_iter_1 _));show wpAny _ _ (Builtin.Frozenset.sizeOf a >>= _) _ _ s;unfold Builtin.Frozenset.sizeOf;refine wpAny_bind (wpAny_bind (wpAny_setEntries_of ho hd hf (wpAny_pure ?_)));show wpAny _ _ (setDrawn a >>= _) _ _ s;unfold setDrawn setsByText;refine wpAny_bind (wpAny_bind (wpAny_setState_of ho hd hf (wpAny_bind (wpAny_bind (wpAny_askSetting (wpAny_pure (wpAny_pure ?_)))))))
 have key:∀(ord:List Value) (sl:Nat->Nat),sl 0=0->ord.length=es.size->ord.Perm (es.toList.map (·.2))->
   (∀(i:Nat) (x:Value) (s:Shared),ord[i]?=some x->SetAt s.heap a es ep t->∀(B:Around) (E:Value->Shared->Prop) (Q:Option (Value×Nat)->Shared->Prop),Q (some (x,sl (i+1))) s->wpAny (model prog w) B (setNext a (sl i) i ep) Q E s)->
   (∀(s:Shared),SetAt s.heap a es ep t->∀(B:Around) (E:Value->Shared->Prop) (Q:Option (Value×Nat)->Shared->Prop),Q none s->wpAny (model prog w) B (setNext a (sl es.size) es.size ep) Q E s)->
   Q (.ref s.heap.objs.size) { s with heap:=s.heap.push { cls:=.type "set_iterator",data:=.fields #[rawInt 0,rawInt 0,.ref a,rawInt es.size,rawInt ep] } }:=λord sl h0 hl hp n1 n2=>
  h _ _ ⟨[s.heap.objs.size,a],ord,_,λB hB=>u3 hB _ a (KC lt) es ep t ord sl hl n1 n2,⟨⟨_,KB _ rfl,rfl,by rw[h0];rfl⟩,hS.at λo e=>Kq _ e⟩,hp,λb o e=>Kq _ e,λb hb=>by
   rcases Ku.mp hb with rfl|hb
   ·exact .inr (Kw _)
   ·exact .inl (K0.mp hb),Kw _,rfl,rfl,rfl,⟨_,KB _ rfl,rfl⟩⟩
 show wpAny _ _ (if(!w.params.followText "set-order" && (!t.plain&&decide (es.size > 1)))=true then _ else _) _ _ s
 by_cases hdr:(!w.params.followText "set-order" && (!t.plain&&decide (es.size > 1)))=true
 ·rw[if_pos hdr];refine wpAny_bind (lg _ _ _ _ (by simp) λps d hp=>?_);have hpl:ps.length=es.size:=by rw[hp.length_eq,K5]
  have hpb:∀j∈ps,j<es.size:=λj hj=>KU.mp (hp.mem_iff.mp hj);refine wpAny_bind (wpAny_newObj_type ?_ (by show(ps.map λ(k:Nat)=>rawInt k).toArray.size<=_;simp only[Kv,Kp];rw[sizeLine_eq];lia));have hS1:SetAt (s.heap.push { cls:=.type "tuple",data:=.seq (ps.map λ(k:Nat)=>rawInt k).toArray }) a es ep t:=hS.at λo e=>Kq _ e;obtain⟨o1,ho1,_,hd1,_⟩:=id hS1;unfold setEpoch;refine wpAny_bind (wpAny_bind (wpAny_setState_of (s:={ s with heap:=s.heap.push { cls:=.type "tuple",data:=.seq (ps.map λ(k:Nat)=>rawInt k).toArray },drawn:=d }) ho1 hd1 hf (wpAny_pure ?_)));refine wpAny_bind (wpAny_newObj_type (wpAny_pure ⟨_,rfl,"set_iterator",_,⟨_,KB _ rfl,rfl⟩,slot_si_next.lookup,?_⟩));have sz:(s.heap.push { cls:=.type "tuple",data:=.seq (ps.map λ(k:Nat)=>rawInt k).toArray }).objs.size=s.heap.objs.size+1:=Lv ..;refine h _ _ ⟨[_,a,s.heap.objs.size],_,_,λB hB=>nD hB _ a s.heap.objs.size ?_ ?_ es ep t ps hpl hpb,⟨⟨_,KB _ rfl,rfl,rfl⟩,hS1.at λo e=>Kq _ e,_,_,Kq _ (KB _ rfl),rfl⟩,?_,λb o e=>Kq _ (Kq _ e),λb hb=>?_,?_,rfl,rfl,rfl,⟨_,KB _ rfl,rfl⟩⟩
  ·rw[sz];exact KC (K3 lt)
  ·rw[sz];exact KC (Lb _)
  ·refine(hp.map _).trans (.of_eq ?_);refine Mb (by simp) λi h1 h2=>?_;simp only[Kp,K5] at h1;simp[Me,h1]
  ·rw[sz] at hb;simp only[Ku,KO,or_false] at hb;rcases hb with rfl|rfl|rfl
   ·exact .inr (LD _)
   ·exact .inl rfl
   ·exact .inr (Kw _)
  ·rw[sz];exact LD _
 ·rw[if_neg hdr];refine wpAny_bind (wpAny_pure ?_);unfold setEpoch;refine wpAny_bind (wpAny_bind (wpAny_setState_of ho hd hf (wpAny_pure ?_)));refine wpAny_bind (wpAny_newObj_type (wpAny_pure ⟨_,rfl,"set_iterator",_,⟨_,KB _ rfl,rfl⟩,slot_si_next.lookup,?_⟩))
  cases hb:w.params.followText "set-order" with
  |true=>
   have pp:=sL (w.params.setOrder a ep) es;have pl:(pickOrder (w.params.setOrder a ep) es).size=es.size:=by rw[<- KI,pp.length_eq,KI]
   refine key ((pickOrder (w.params.setOrder a ep) es).toList.map (·.2)) (λ_=>0) rfl (by rw[Kp,KI,pl]) (pp.map _) (λi x s hx hS B E Q q=>ld hb hS ?_) λs hS B E Q q=>ld hb hS ?_
   ·rw[Kr,Lu] at hx
    cases hy:(pickOrder (w.params.setOrder a ep) es)[i]? with
    |none=>rw[hy] at hx;cases hx
    |some e=>rw[hy] at hx;cases hx;exact q
   ·rw[L9 (by rw[pl];exact Kw _)];exact q
  |false=>
   have hpl:t.plain=true\/es.size<=1:=by
    rw[hb] at hdr
    cases hq:t.plain with
    |true=>exact .inl rfl
    |false=>
     right;rw[hq] at hdr;simpa using hdr
   have hled:t.led=true:=by rw[hg.led];unfold c4;rw[hb];rfl
   have hfit:t.place.size=es.size:=by
    have:=hf;simp only[SetTable.fits,Kn,beq_iff_eq] at this;exact this.1
   have hbel:∀i,i<=es.size->SetTable.below t.place (if i=0 then 0 else t.place.getD (i-1) 0+1)=i:=λi hi=>by
    refine eS hg.ri (by rw[hfit];exact hi) (λk hk hki=>?_) λk hk hki=>?_
    ·rw[if_neg (by lia)];have h1:i-1<t.place.size:=by lia
     have e1:t.place.getD (i-1) 0=t.place[i-1]:=by simp[Me,h1]
     rw[e1];rcases KW k (i-1) with g|g
     ·exact K3 (hg.ri.at g h1)
     ·obtain rfl:k=i-1:=by lia
      exact Lb _
    ·split
     ·exact K2 _
     ·have h1:i-1<t.place.size:=by lia
      have e1:t.place.getD (i-1) 0=t.place[i-1]:=by simp[Me,h1]
      rw[e1];exact hg.ri.at (by lia) hk
   refine key (es.toList.map (·.2)) (λi=>if i=0 then 0 else t.place.getD (i-1) 0+1) rfl (by rw[Kp,KI]) (.refl _) (λi x s hx hS B E Q q=>jP hb hled hpl hS ?_) λs hS B E Q q=>jP hb hled hpl hS ?_
   ·rw[Kr,Lu] at hx
    have hi:i<es.size:=by
     rcases KW i es.size with g|g
     ·exact g
     ·rw[L9 g] at hx;cases hx
    have hi2:i<t.place.size:=by lia
    rw[hbel i (by lia),KT hi,KT hi2];rw[KT hi] at hx;cases hx;have e2:t.place.getD (i+1-1) 0=t.place[i]:=by simp[Me,hi2]
    rw[if_neg (by lia),e2] at q;exact q
   ·rw[hbel _ (Kw _),L9 (Kw _)];exact q
end
end G
namespace G
open PySem PySem.Spec PyProof.Rows L2
noncomputable def ja(x:Int):List Int->List Int
 |[]=>[x]
 |y::ys=>if x<y then x::y::ys else if x=y then y::ys else y::ja x ys
noncomputable def cr(xs:List Int):List Int:=xs.foldr ja []
theorem mem_insI{x z:Int}:∀{l:List Int},z∈ja x l↔z=x\/z∈l
 |[]=>by simp[ja]
 |y::ys=>by
  unfold ja;split
  ·simp
  ·split
   ·rename_i h;subst h;simp
   ·rw[Ku,mem_insI,Ku];constructor
    ·rintro (h|h|h)
     ·exact .inr (.inl h)
     ·exact .inl h
     ·exact .inr (.inr h)
    ·rintro (h|h|h)
     ·exact .inr (.inl h)
     ·exact .inl h
     ·exact .inr (.inr h)
theorem qO{x:Int}:∀{l:List Int},l.Pairwise (· < ·)->(ja x l).Pairwise (· < ·)
 |[],_=>by simp[ja]
 |y::ys,h=>by
  obtain⟨h1,h2⟩:=K1.mp h;unfold ja;split
  ·rename_i q;refine K1.mpr ⟨λz hz=>?_,h⟩;rcases Ku.mp hz with rfl|hz
   ·exact q
   ·exact Int.lt_trans q (h1 z hz)
  ·split
   ·exact h
   ·refine K1.mpr ⟨λz hz=>?_,qO h2⟩;rcases mem_insI.mp hz with rfl|hz
    ·lia
    ·exact h1 z hz
theorem iy{z:Int}:∀{l:List Int},z∈cr l↔z∈l
 |[]=>by simp[cr]
 |y::ys=>by
  show z∈ja y (cr ys)↔_;rw[mem_insI,iy,Ku]
theorem gN:∀(l:List Int),(cr l).Pairwise (· < ·)
 |[]=>.nil
 |y::ys=>qO (gN ys)
theorem mr:∀{a b:List Int},a.Pairwise (· < ·)->b.Pairwise (· < ·)->(∀z,z∈a↔z∈b)->a=b
 |[],[],_,_,_=>rfl
 |[],y::_,_,_,h=>absurd ((h y).mpr KF) (by simp)
 |x::_,[],_,_,h=>absurd ((h x).mp KF) (by simp)
 |x::xs,y::ys,ha,hb,h=>by
  obtain⟨a1,a2⟩:=K1.mp ha;obtain⟨b1,b2⟩:=K1.mp hb
  have e:x=y:=by
   rcases Ku.mp ((h x).mp KF) with e|e
   ·exact e
   ·rcases Ku.mp ((h y).mpr KF) with e2|e2
    ·exact e2.symm
    ·have:=a1 y e2;have:=b1 x e;lia
  subst e;congr 1;refine mr a2 b2 λz=>?_;constructor
  ·intro hz;rcases Ku.mp ((h z).mp (Kx _ hz)) with e|e
   ·have:=a1 z hz;lia
   ·exact e
  ·intro hz;rcases Ku.mp ((h z).mpr (Kx _ hz)) with e|e
   ·have:=b1 z hz;lia
   ·exact e
theorem f7(val:Nat->Int):∀i,(fZ val i).Nodup
 |0=>.nil
 |i+1=>by
  show(addI _ _).Nodup;unfold addI;split
  ·exact f7 val i
  ·rename_i h;refine Ng.mpr ⟨f7 val i,by simp,λa ha b hb=>?_⟩;rw[K0.mp hb];exact λe=>h (e▸ha)
theorem nE(val:Nat->Int)(z:Int):∀i,z∈fZ val i↔∃j,j<i/\val j=z
 |0=>by simp[fZ]
 |i+1=>by
  have ih:=nE val z i
  have e:z∈fZ val (i+1)↔z∈fZ val i\/z=val i:=by
   show z∈addI _ _↔_;unfold addI;split
   ·rename_i h;exact⟨.inl,λq=>q.elim id λe=>e▸h⟩
   ·simp
  rw[e,ih];constructor
  ·rintro (⟨j,h1,h2⟩|h)
   ·exact⟨j,by lia,h2⟩
   ·exact⟨i,by lia,h.symm⟩
  ·rintro ⟨j,h1,h2⟩
   rcases KW j i with g|g
   ·exact .inl ⟨j,g,h2⟩
   ·obtain rfl:j=i:=by lia
    exact .inr h2.symm
theorem sM{ks out:List Int}(hp:out.Perm (fZ (λi=>ks.getD i 0) ks.length))(hs:out.Pairwise (·<=·)):out=cr ks:=by
 have nd:out.Nodup:=hp.symm.nodup (f7 _ _);refine mr ?_ (gN ks) λz=>?_
 ·have:=hs.and nd;exact this.imp λh=>by have:=h.1;have:=h.2;lia
 ·rw[hp.mem_iff,nE,iy,Lz];constructor
  ·rintro ⟨j,h1,h2⟩
   exact⟨j,h1,by rw[KA,Ko h1] at h2;exact h2⟩
  ·rintro ⟨j,h1,h2⟩
   exact⟨j,h1,by rw[KA,Ko h1];exact h2⟩
section
variable {prog:Program} {w:World} {A:Around} {E:Value->Shared->Prop} {s:Shared}
theorem nG{es:Array (Int×Value)}{ep:Nat}(hh:A.handled=none)(hS:SetAt s.heap a es ep t)(hg:Gd (c4 w) t)(hsz:es.size<=4000){Q:List Value->Shared->Prop}(hQ:∀(s':Shared) vs,vs.Perm (es.toList.map (·.2))->(∀b o,s.heap.get? b=some o->s'.heap.get? b=some o)->s'.gens=s.gens->s'.os=s.os->s.heap.objs.size<=s'.heap.objs.size->Q vs s'):wpAny (model prog w) A (collect (.ref a)) Q E s:=by
 obtain⟨o,ho,hex,hd,hf⟩:=id hS;have lt:a<s.heap.objs.size:=Ks ho;unfold collect;refine wpAny_bind (wpAny_runValue (codeAny_builtin PySem.F.entry_proto_collect ?_));rw[Around.under_plainId PySem.F.plain_proto_collect _];show wpAny _ A.in1 (newList [] >>= λl=>again (.builtin "list.__iadd__" ⟨[l,.ref a],[]⟩)) _ _ s;refine wpAny_bind (wpAny_newObj_type ?_);refine wpAny_pure ⟨plainId_quiet PySem.F.plain_list_iadd _,codeAny_builtin PySem.F.entry_list_iadd ?_⟩;rw[Around.under_plainId PySem.F.plain_list_iadd _];show wpAny _ A.in1 (Builtin.List.listExtendWith (.ref s.heap.objs.size) (.ref a) (.ref s.heap.objs.size)) _ _ _;have hS1:SetAt (s.heap.push { cls:=.type "list",data:=.seq ([]:List Value).toArray }) a es ep t:=hS.at λo e=>Kq _ e;obtain⟨o1,ho1,hex1,hd1,_⟩:=id hS1;have hT:∀s':Shared,s'.heap=s.heap.push { cls:=.type "list",data:=.seq ([]:List Value).toArray }->s'.TypeIs (.ref a) "set":=λs' e=>⟨o1,by rw[e];exact ho1,hex1.1⟩;unfold Builtin.List.listExtendWith;refine wpAny_bind (wpAny_typeOf (T:="set") (hT _ rfl) ?_);have h1:Builtin.List.listSameRef (.ref s.heap.objs.size) (.ref a)=false:=by simp[Builtin.List.listSameRef,Lx lt]
 have h2:(Value.type "set" == Value.type "list")=false:=by decide
 have h3:(Value.type "set" == Value.type "tuple")=false:=by decide
 simp only[h1,h2,h3,MW,L5,if_false];have sz:(s.heap.push { cls:=.type "list",data:=.seq ([]:List Value).toArray }).objs.size=s.heap.objs.size+1:=Lv ..;refine wpAny_bind (u4 (s:={ s with heap:=s.heap.push { cls:=.type "list",data:=.seq ([]:List Value).toArray } }) hS1 hg hsz λs1 it wk=>?_);obtain⟨fp,ord,St,W,st0,hord,kp,hfp,hit,e1,e2,e3,hTi⟩:=wk;have hTa:s1.TypeIs (.ref a) "set":=⟨o1,kp _ _ ho1,hex1.1⟩;refine wpAny_bind (wpAny_holding ?_);unfold Builtin.List.listLengthHint;refine wpAny_bind (wpAny_specialOf hTa PySem.F.slot_set_len.lookup ?_)
 wp_delta
 refine wpAny_bind (wpAny_isInstance (T:="set") (v:=.ref a) (b:=true) hTa (by rw[isSubtype_type];kernel_rfl) ?_);show wpAny _ A.in1 (typeOf (Value.ref a) >>= _) _ _ _;refine wpAny_bind (wpAny_typeOf hTa ?_);refine wpAny_pure ?_;show wpAny _ A.in1 (rule "list.extend.makes-room" >>= λ_=>Builtin.List.listTouch (.ref s.heap.objs.size) >>= λ_=>again (.builtin "list.extend.loop" ⟨[.ref s.heap.objs.size,.ref it,.ref s.heap.objs.size],[]⟩)) _ _ _;refine wpAny_bind (wpAny_rule ?_);have hL:s1.heap.get? s.heap.objs.size=some { cls:=.type "list",data:=.seq ([]:List Value).toArray }:=kp _ _ (KB _ rfl);refine wpAny_bind ?_;show wpAny _ A.in1 (updateSeq s.heap.objs.size (·.push .none) >>= λ_=>updateSeq s.heap.objs.size (·.pop)) _ _ _;refine wpAny_bind (wpAny_updateSeq hL rfl ?_);have hL2:=Lj (Obj.mapSeq (·.push Value.none)) hL rfl;refine wpAny_updateSeq (hz:=by seq_fits) hL2 rfl ?_;have hL3:=Lj (Obj.mapSeq (·.pop)) hL2 rfl
 have oth:∀b o,b≠s.heap.objs.size->s1.heap.get? b=some o->((s1.heap.update s.heap.objs.size (Obj.mapSeq (·.push Value.none))).update s.heap.objs.size (Obj.mapSeq (·.pop))).get? b=some o:=
  λb o hb e=>(LC _ _ (Ne.symm hb)).trans ((LC _ _ (Ne.symm hb)).trans e)
 have nfp:s.heap.objs.size∉fp:=λz=>by
  rcases hfp _ z with e|e
  ·exact KC lt e.symm
  ·rw[sz] at e;exact absurd e (Nat.not_succ_le_self _)
 have WS:=(W A.in1 hh).toS;refine wpAny_pure ⟨plainId_quiet PySem.F.plain_extend_loop _,codeAny_extend_loopS WS (by rw[sizeLine_eq];lia) _ nfp _ es.size 0 _ _ _ rfl (K2 _) (WS.frame 0 s1 _ s1.toks st0 (Kw _) λb hb o e=>oth b o (λz=>nfp (z▸hb)) e) hL3 (ItemsOf.nil _) λs' acc' c' hm hS' hacc=>?_⟩;show wpAny _ A (load s.heap.objs.size >>= _) _ _ s';refine wpAny_bind (wpAny_load hS' ?_);have hol:ord.length=es.size:=by rw[hord.length_eq,Kp,KI]
 have eacc:acc'.toList=ord:=by
  refine Mq λi=>?_;rcases KW i es.size with g|g
  ·have hi:i<acc'.size:=by rw[hacc.1];exact g
   have:=hacc.2 i acc'[i] (KT hi);rw[this,Lu,KT hi]
  ·have el:acc'.toList.length=es.size:=by rw[KI,hacc.1]
   rw[Lk (by lia),Lk (by lia)]
 refine wpAny_pure (hQ s' _ (by rw[eacc];exact hord) (λb ob e=>?_) (hm.gens.trans e1) (hm.os.trans e2) (L4 (Ks hS')));have hb:=Ks e;refine hm.heap b ob (λz=>?_) (oth b ob (KC hb) (kp _ _ (Kq _ e)));rcases Ku.mp z with q|q
 ·exact absurd hb (q▸KZ _)
 ·rw[K0.mp q] at hb;rw[sz] at hit;exact absurd (Kz hb (L6 hit)) (KZ _)
theorem yo{l:List (Int×Value)}(h:ElemsOf (intKind prog w) l){vs:List Value}(hp:vs.Perm (l.map (·.2))):IntsAre vs (vs.map numOf):=
 intsAre_map vs λv hv=>by
  obtain⟨e,he,rfl⟩:=Lf.mp (hp.mem_iff.mp hv);obtain⟨⟨k,hk,_⟩,_⟩:=h e he;obtain⟨t,e2⟩:=Value.isInt_shape hk;exact⟨k,t,e2⟩
theorem pA{ms:List Int}(hh:A.handled=none)(hS:SetI prog w s.heap a (c4 w) ms)(h64:ms.length<64){Q:Value->Shared->Prop}(h:∀(s':Shared) (l:Addr) (vs':List Value) (ns':List Int) (e:Nat),s'.heap.get? l=some (seqObj "list" vs'.toArray e)->IntsAre vs' ns'->ns'.Perm ms->ns'.Pairwise (·<=·)->(∀b o,s.heap.get? b=some o->s'.heap.get? b=some o)->
   s.heap.objs.size<=l->s'.gens=s.gens->s'.os=s.os->Q (.ref l) s'):wpAny (model prog w) A (call (.builtin "sorted") [.ref a]) Q E s:=by
 obtain⟨o,es,ep,t,ho,hex,hd,hel,hp,hb,hf,hg⟩:=hS;have hlen:es.size=ms.length:=by rw[<- hp.length_eq];unfold ns;rw[Kp,KI]
 refine Calls.call_function_entry kind_sorted plain_sorted entry_sorted (args_sorted1 _) ?_;unfold Builtin.«sorted»;refine wpAny_bind (m:=checkCount "sorted" 1 1 _) (wpAny_pure ?_);refine wpAny_bind (nG (by simpa using hh) ⟨o,ho,hex,hd,hf⟩ hg (by lia) λs1 vs hv kp e1 e2 hsz=>?_);have hvl:vs.length=ms.length:=by rw[hv.length_eq,Kp,KI,hlen]
 refine wpAny_bind (wpAny_newList ?_ (by rw[sizeLine_eq];lia));have hoL:(s1.heap.push (seqObj "list" vs.toArray 0)).get? s1.heap.objs.size=some (seqObj "list" vs.toArray 0):=KB _ rfl;refine wpAny_bind (wpAny_holding (wpAny_call_entry slot_list_sort (s:={ s1 with heap:=s1.heap.push (seqObj "list" vs.toArray 0) }) ⟨_,hoL,rfl⟩ entry_list_sort (list_sort_tree hoL (yo hel hv) (by lia) λout ns' a1 a2 a3=>⟨_,rfl,?_⟩) (args_list_sort _)));obtain⟨e,he⟩:=sortedHeap_at (out:=out) hoL;refine wpAny_pure ⟨_,rfl,h _ _ out.toList ns' e (by simpa using he) a1 (a2.trans ?_) a3 (λb ob q=>?_) hsz e1 e2⟩
 ·refine(hv.map numOf).trans (List.Perm.trans (.of_eq ?_) hp);rw[KQ];rfl
 ·have q1:=kp b ob q;have lt:=Ks q1;rw[sortedHeap_old (KC lt) (by rw[size_push'];exact K3 lt)];exact Kq _ q1
end
section
variable {X:Cx}
theorem u5(I:Inv X pins σ H s)(d:Drawn):Inv X pins σ H { s with drawn:=d }:=
 I.step (g':=s.gens) (d':=d) (t':=s.toks) (h':=s.heap) (ch:=[]) (λ_ z=>nomatch z) (λb o _ _ _ e _=>e) (λb o _ _ _ e _=>⟨o.slots,e⟩) (λb o _ e n=>n) (λb o _ e=>⟨o,e⟩) (λ_ _ e=>e) (λ_ _ _ e=>e) (λb ps e=>⟨#[],by rw[e];simp⟩) (λ_ z=>z) I.hok I.bare
theorem dL:∀{vs:List Value} {ns:List Int},IntsAre vs ns->Vals (ns.map V.int) vs
 |_,_,.nil=>.nil
 |_,_,.cons n t h=>.cons ⟨t,rfl⟩ (dL h)
noncomputable def El(X:Cx)(ta:TA):TE:=λσ H Q=>ta σ H λvs H1=>∃l ks,vs=[.ref l]/\SqL X.K H1 l (ks.map V.int)/\ks.length<=60/\∀p,H1 p=none->Q (.ref p) (upd H1 p (.lst ((cr ks).map V.int)))
theorem yp{a:Expr}(hc:X.calm=true)(hg:Gl X "sorted")(hm:X.mg "sorted" = none)(hg2:Gl X "set")(hm2:X.mg "set" = none)(ha:PA X [a] ta)(hs:starEach [a] X.env=[(false,eval a X.env)])(hs2:starEach [.Call (.Name "set" p2) [a] [] pos2] X.env=[(false,eval (.Call (.Name "set" p2) [a] [] pos2) X.env)]:=by rfl) :
  PE X (.Call (.Name "sorted" p) [.Call (.Name "set" p2) [a] [] pos2] [] pos) (El X ta):=by
 intro pins s σ H Q I h;refine Call_ (cY I hg hm PyProof.Rows.boot_sorted (PyProof.Rows.callWith_builtin1 ?_ hs2 rfl));rw[hs2];refine Calls.spliced_cons ?_;refine Call_ (cY I hg2 hm2 PyProof.Rows.boot_set (PyProof.Rows.callWith_type1 (bq (ha pos2 pins s σ H _ I h) λus s1 ⟨vs,H1,I1,r1,l,ks,e,hq,hz,q⟩=>?_) hs rfl));subst e;obtain⟨u,rfl,ru⟩:=r1.one;cases ru;obtain⟨its,rv,pl,_⟩:=I1.list hq;have hlen:its.length=ks.length:=by have:=rv.length;simpa using this.symm
 have hh:X.A.handled=none:=I1.ok.hd hc;refine uZ (ks:=ks) hh pl.isList (λi v hv=>?_) (by rw[Kv,hlen];unfold scanBound;lia) λh' tk hS hk=>Calls.spliced_nil ?_
 ·have hi:i<its.length:=by
   have:=(Array.getElem?_eq_some_iff.mp hv).1;simpa using this
  have hi2:i<ks.length:=by lia
  obtain⟨u,e1,e2⟩:=rv.get (show(ks.map V.int)[i]?=some (V.int ks[i]) by rw[Kr,Ko hi2];rfl);rw[Md] at hv;rw[hv] at e1;cases e1;rw[KA,Ko hi2];exact e2
 ·have hsz:its.toArray.size=ks.length:=by rw[Kv,hlen]
  rw[hsz] at hS;have hml:(fZ (λi=>ks.getD i 0) ks.length).length<=ks.length:=mf _ _;have I2:Inv X pins σ H1 { s1 with heap:=h',toks:=tk }:=I1.kept λb o e=>hk b o (Ks e) e;refine pA (s:={ s1 with heap:=h',toks:=tk }) hh hS (by lia) λs2 l2 vs2 ns2 ee he hi hp hs kp hl e1 e2=>?_;have ens:=sM hp hs;subst ens;have hns:(cr ks).length<=60:=by rw[hp.length_eq];lia
  have ok:ObjOk X.prog X.w (upd H1 l2 (.lst ((cr ks).map V.int))) s2.heap l2 (.lst ((cr ks).map V.int)):=
   ⟨by rw[Kp,sizeLine_eq];lia,vs2,ee,dL hi,he⟩
  have I3:=u5 (I2.laid (h':=s2.heap) (t':=s2.toks) (a:=l2) kp hl ok) s2.drawn;refine⟨.ref l2,_,?_,rfl,q _ (I2.hok.fresh hl)⟩;obtain⟨h2,g2,d2,t2,os2⟩:=s2;simp only at e1 e2;subst e1;subst e2;exact I3
end
end G
namespace G
open PySem PySem.Spec PyProof.Rows L2
theorem pB:typeLookup (.type "list_reverseiterator") "__len__" = pure none:=by rw[typeLookup_type,builtinLookup_eq_fast];kernel_rfl
theorem u6:typeLookup (.type "list_reverseiterator") "__length_hint__" = pure (some (.builtin "list_reverseiterator.__length_hint__")):=by rw[typeLookup_type,builtinLookup_eq_fast];kernel_rfl
section
variable {prog:Program} {w:World} {A:Around} {E:Value->Shared->Prop} {s:Shared} {R:Result->Shared->Prop}
theorem pC{items:Array Value}{c₀:Nat}(hh:A.handled=none)(hne:l≠it)(hSi:S≠it)(hSl:S≠l)(hst:s.heap.IsRevIter it l ((items.size:Int)-1)/\s.heap.IsList l items)(hS:s.heap.get? S=some { cls:=.type "list",data:=.seq #[] c₀ })(hsz:items.size<=100000)(hR:∀s' acc' c',Moved [S,it] (λa b=>b=a) s s'->s'.heap.get? S=some { cls:=.type "list",dict:=none,data:=.seq acc' c',slots:=#[] }->ItemsOf (λi v=>items[items.size-1-i]?=some v) acc' items.size->R (.ok (.ret .none)) s') :
  wpAny (model prog w) A.in1 (Builtin.List.listExtendWith (.ref S) (.ref it) .none)
   (λfin s'=>match fin with|.done f=>R (.ok f) s'|.again c'=>c'.quiet=true/\codeAny (model prog w) A c' R s') (λe s'=>R (.error e) s') s:=by
 have W:=(Walks.listRev (prog:=prog) (w:=w) (A:=A.in1) (by simpa using hh) it l hne items).toS;have hT:s.TypeIs (.ref it) "list_reverseiterator":=hst.1.typeIs;unfold Builtin.List.listExtendWith;refine wpAny_bind (wpAny_typeOf hT ?_);have h1:Builtin.List.listSameRef (.ref S) (.ref it)=false:=by simp[Builtin.List.listSameRef,hSi]
 have h2:(Value.type "list_reverseiterator" == Value.type "list")=false:=by decide
 have h3:(Value.type "list_reverseiterator" == Value.type "tuple")=false:=by decide
 simp only[h1,h2,h3,MW,L5,if_false];refine wpAny_bind (wpAny_pyIter_revIter hst.1 ?_);refine wpAny_bind (wpAny_holding ?_);unfold Builtin.List.listLengthHint;refine wpAny_bind (wpAny_specialOf hT pB ?_);show wpAny _ A.in1 (specialOf (Value.ref it) (Str.ofString "__length_hint__") >>= _) _ _ _;refine wpAny_bind (wpAny_specialOf hT u6 ?_)
 wp_delta
 refine wpAny_bind (wpAny_isInstance (T:="list_reverseiterator") (v:=.ref it) (b:=true) hT (by rw[isSubtype_type];kernel_rfl) ?_);refine wpAny_pure ?_;rw[if_neg (by decide)];refine wpAny_pure ⟨plainId_quiet PySem.F.plain_extend_loop _,codeAny_extend_loopS W (by rw[sizeLine_eq];lia) _ (by simp[hSi,hSl]) _ items.size 0 _ _ _ rfl (K2 _) ⟨K2 _,by simpa using hst.1,hst.2⟩ hS (ItemsOf.nil _) λs' acc' c' hm hS' hacc=>hR s' acc' c' hm hS' hacc⟩
theorem kJ{it l:Addr}{items:Array Value}{Q:Value->Shared->Prop}(hh:A.handled=none)(hne:l≠it)(hst:s.heap.IsRevIter it l ((items.size:Int)-1)/\s.heap.IsList l items)(hsz:items.size<=100000)
  (hQ:∀h' tk acc' c',(∀b o,b≠it->s.heap.get? b=some o->h'.get? b=some o)->h'.get? s.heap.objs.size=some { cls:=.type "list",dict:=none,data:=.seq acc' c',slots:=#[] }->acc'.toList=items.toList.reverse->Q (.ref s.heap.objs.size) { s with heap:=h',toks:=tk }) :
  wpAny (model prog w) A (call (.type "list") [.ref it]) Q E s:=by
 refine callType_codes (Q₁:=λobj s₁=>obj=.ref s.heap.objs.size/\s₁={ s with heap:=s.heap.push { cls:=.type "list",data:=.seq #[] } }) PySem.F.called_list (PySem.F.typeCall_list_1 _) PySem.F.entry_list_init
  (code_list_new _ ⟨rfl,rfl⟩) λobj s₁ h₁=>?_
 obtain⟨rfl,rfl⟩:=h₁;have hS:(s.heap.push { cls:=.type "list",data:=.seq #[] }).get? s.heap.objs.size=some { cls:=.type "list",data:=.seq #[] }:=KB _ rfl;obtain⟨oi,hoi,ri⟩:=id hst.1;obtain⟨ol,hol,rl⟩:=id hst.2;have lti:it<s.heap.objs.size:=Ks hoi;have ltl:l<s.heap.objs.size:=Ks hol;refine⟨⟨_,hS,rfl⟩,PySem.F.args_list_init_2 _ _,?_⟩;show wpAny _ A.in1.in1 (do let old <- Builtin.List.listItems (.ref s.heap.objs.size);Builtin.List.listUpdate (.ref s.heap.objs.size) (λ_=>#[]);letGo old.toList.reverse;Builtin.List.listExtendWith (.ref s.heap.objs.size) (.ref it) .none) _ _ _;refine wpAny_bind ?_;unfold Builtin.List.listItems;refine wpAny_bind (wpAny_seqItems hS rfl (wpAny_pure ?_));show wpAny _ A.in1.in1 (updateSeq s.heap.objs.size (λ_=>#[]) >>= λ_=>letGo (#[]:Array Value).toList.reverse >>= λ_=>Builtin.List.listExtendWith (.ref s.heap.objs.size) (.ref it) .none) _ _ _;refine wpAny_bind (wpAny_updateSeq hS rfl ?_);have hS₂:=Lj (Obj.mapSeq (λ_=>(#[]:Array Value))) hS rfl
 have oth:∀b o,b≠s.heap.objs.size->s.heap.get? b=some o->((s.heap.push { cls:=.type "list",data:=.seq #[] }).update s.heap.objs.size (Obj.mapSeq (λ_=>(#[]:Array Value)))).get? b=some o:=
  λb o hb e=>(LC _ _ (Ne.symm hb)).trans (Kq _ e)
 refine wpAny_bind (wpAny_letGo ?_);refine pC (A:=A.in1) (items:=items) (by simpa using hh) hne (Lx lti) (Lx ltl) ⟨⟨oi,oth _ _ (KC lti) hoi,ri⟩,⟨ol,oth _ _ (KC ltl) hol,rl⟩⟩ hS₂ hsz λs' acc' c' hm hS' hacc=>?_;obtain⟨h',g',d',tk',os'⟩:=s';obtain rfl:g'=s.gens:=hm.gens;obtain rfl:d'=s.drawn:=hm.drawn;obtain rfl:os'=s.os:=hm.os;refine⟨rfl,hQ h' tk' acc' c' (λb o hb e=>hm.heap b o (by simp only[Ku,KO,or_false,not_or];exact⟨KC (Ks e),hb⟩) (oth b o (KC (Ks e)) e)) hS' ?_⟩;refine Mq λi=>?_;have el:acc'.toList.length=items.size:=by rw[KI,hacc.1]
 rcases KW i items.size with g|g
 ·have hi:i<acc'.size:=by rw[hacc.1];exact g
  have:=hacc.2 i acc'[i] (KT hi);rw[List.getElem?_reverse (by simpa using g),Lu,Lu,KT hi,KI,this]
 ·rw[Lk (by lia),Lk (by simpa using g)]
end
section
variable {X:Cx}
noncomputable def Em(X:Cx)(ta:TA):TE:=λσ H Q=>ta σ H λvs H1=>∃l xs,vs=[.ref l]/\SqL X.K H1 l xs/\xs.length<=100000/\∀p,H1 p=none->Q (.ref p) (upd H1 p (.lst xs.reverse))
theorem nH:∀{xs:List V} {vs:List Value},Vals xs vs->Vals xs.reverse vs.reverse
 |_,_,.nil=>.nil
 |_,_,.cons h t=>by
  rw[Nh,Nh];exact(nH t).append (.cons h .nil)
theorem yq{a:Expr}(hc:X.calm=true)(hg:Gl X "list")(hm:X.mg "list" = none)(hg2:Gl X "reversed")(hm2:X.mg "reversed" = none)(ha:PA X [a] ta)(hs:starEach [a] X.env=[(false,eval a X.env)])(hs2:starEach [.Call (.Name "reversed" p2) [a] [] pos2] X.env=[(false,eval (.Call (.Name "reversed" p2) [a] [] pos2) X.env)]:=by rfl) :
  PE X (.Call (.Name "list" p) [.Call (.Name "reversed" p2) [a] [] pos2] [] pos) (Em X ta):=by
 intro pins s σ H Q I h;refine Call_ (cY I hg hm boot_list (PyProof.Rows.callWith_type1 ?_ hs2 rfl));rw[hs2];refine Calls.spliced_cons ?_;refine Call_ (cY I hg2 hm2 PyProof.Rows.boot_reversed (PyProof.Rows.callWith_type1 (bq (ha pos2 pins s σ H _ I h) λus s1 ⟨vs,H1,I1,r1,l,xs,e,hq,hz,q⟩=>?_) hs rfl));subst e;obtain⟨u,rfl,ru⟩:=r1.one;cases ru;obtain⟨its,rv,pl,_⟩:=I1.list hq;have hlen:its.length=xs.length:=rv.length.symm;have hh:X.A.handled=none:=I1.ok.hd hc;have hil:=pl.isList;have lt:l<s1.heap.objs.size:=by obtain⟨o,ho,_⟩:=id hil;exact Ks ho
 refine call_reversed_list hil (Calls.spliced_nil ?_);have sz:(s1.heap.push (revObj l ((its.toArray.size:Int)-1))).objs.size=s1.heap.objs.size+1:=Lv ..;refine kJ (s:={ s1 with heap:=s1.heap.push (revObj l ((its.toArray.size:Int)-1)) }) hh (KC lt) ⟨⟨_,KB _ rfl,rfl,rfl⟩,hil.push _⟩ (by rw[Kv,hlen];exact hz) λh' tk acc' c' kp new eacc=>?_;have hle:s1.heap.objs.size<=(s1.heap.push (revObj l ((its.toArray.size:Int)-1))).objs.size:=by rw[sz];exact LD _
 have ok:ObjOk X.prog X.w (upd H1 (s1.heap.push (revObj l ((its.toArray.size:Int)-1))).objs.size (.lst xs.reverse)) h' (s1.heap.push (revObj l ((its.toArray.size:Int)-1))).objs.size (.lst xs.reverse):=
  ⟨by rw[List.length_reverse,sizeLine_eq];lia,acc'.toList,c',by rw[eacc];exact nH rv,by simpa using new⟩
 exact⟨.ref (s1.heap.push (revObj l ((its.toArray.size:Int)-1))).objs.size,_,I1.laid (t':=tk) (λb o e=>kp b o (KC (Ks e)) (Kq _ e)) hle ok,rfl,q _ (I1.hok.fresh hle)⟩
end
end G
namespace G
open PySem PySem.Spec PyProof.Rows L2
section
variable {X:Cx}
theorem kK(hc:X.calm=true):eM X (.builtin "min") (λxs H Q=>∃(p:Addr) (ns:List Int),xs=[.ref p]/\SqL X.K H p (ns.map V.int)/\ns≠[]/\∀m,m∈ns->(∀x∈ns,m<=x)->Q (.int m) H):=by
 intro pins s σ H xs us Q I r h;obtain⟨p,ns,rfl,hq,hn,q⟩:=h;obtain⟨u,rfl,rx⟩:=gA r;cases rx;obtain⟨its,rv,pl,hz⟩:=I.list hq;have hlen:=rv.length;rw[Kp] at hlen;have hh:X.A.in1.handled=none:=I.ok.hd hc
 have lp:p<s.heap.objs.size:=by
  obtain⟨o,n,e,_⟩:=pl;exact Ks e
 have vat:∀(i:Nat) (v:Value),its.toArray[i]?=some v->∃t,v=Value.int ((ns[i]?).getD 0) t:=λi v hv=>by
  have hv:its[i]?=some v:=by simpa using hv
  cases hb:ns[i]? with
  |none=>
   rw[rv.none_of (show(ns.map V.int)[i]?=none by rw[Kr,hb];rfl)] at hv;cases hv
  |some b=>
   obtain⟨z,e1,e2⟩:=rv.get (show(ns.map V.int)[i]?=some (V.int b) by rw[Kr,hb];rfl);rw[hv] at e1;cases e1;obtain⟨t,rfl⟩:=e2;exact⟨t,rfl⟩
 have sz:its.toArray.size=ns.length:=by rw[Kv,<- hlen]
 have hp0:0<ns.length:=MY.mpr hn;refine call_min_walk (wpAny_pyIter_list pl.isList ⟨_,[s.heap.objs.size,p],[s.heap.objs.size],_,_,_,_,rfl,Walks.list hh s.heap.objs.size p (KC lp) its.toArray,⟨⟨_,KB _ rfl,rfl,rfl⟩,pl.isList.push _⟩,λb hb=>?_,by rw[sz];exact hp0,CmpOf.ints_lt (λi=>(ns[i]?).getD 0) (λi v=>vat i v),λv h' tk hP kp=>?_⟩)
 ·show b<(s.heap.push _).objs.size;rw[Lv];rcases Ku.mp hb with rfl|hb
  ·exact Lb _
  ·rw[K0.mp hb];exact K3 lp
 ·have I':Inv X pins σ H { s with heap:=h',toks:=tk }:=I.kept λb o e=>kp b o (λz=>by
   rw[K0.mp z] at e;exact absurd (Ks e) (KZ _)) (Kq _ e)
  obtain⟨t,rfl⟩:=vat _ v hP;obtain⟨h1,h2⟩:=argBest_lt (λi=>(ns[i]?).getD 0) (its.toArray.size-1)
  have hi:argBest (λi j=>decide ((ns[i]?).getD 0<(ns[j]?).getD 0)) (its.toArray.size-1)<ns.length:=by
   have:=h1
   lia
  generalize argBest (λi j=>decide ((ns[i]?).getD 0<(ns[j]?).getD 0)) (its.toArray.size-1)=k at hi h2⊢;refine⟨.int _,H,I',⟨t,rfl⟩,?_⟩;rw[Ko hi] at h2⊢;refine q _ (Ld hi) λx hx=>?_;obtain⟨l,hl,rfl⟩:=Lz.mp hx;have:=h2 l (by lia);rw[Ko hl] at this;exact this
end
end G
namespace J
open PySem PySem.Spec L2
section
variable {X:Cx}
theorem kM(hc:X.calm=true):eM X (.builtin "all") (λxs H Q=>∃(p:Addr) (bs:List Bool),xs=[.ref p]/\SqL X.K H p (bs.map V.bl)/\Q (.bl (bs.all id)) H):=by
 intro pins s σ H xs us Q I r h;obtain⟨p,bs,rfl,hq,q⟩:=h;obtain⟨u,rfl,rx⟩:=gA r;cases rx;obtain⟨its,rv,pl,hz⟩:=I.list hq;have hlen:=rv.length;have hh:X.A.in1.handled=none:=I.ok.hd hc
 have hnz:p≠s.heap.objs.size:=by
  obtain⟨o,n,e,_⟩:=pl;exact KC (Ks e)
 refine call_all_walk (wpAny_pyIter_list pl.isList ?_)
 have hp:(s.heap.push { cls:=.type "list_iterator",data:=.fields #[.ref p,.int 0 0] }).IsList p its.toArray:=by
  obtain⟨o,e,r⟩:=pl.isList;exact⟨o,Kq _ e,r⟩
 refine⟨s.heap.objs.size,_,_,_,_,_,λi=>(bs[i]?).getD false,rfl,Walks.list hh s.heap.objs.size p hnz its.toArray,⟨⟨_,KB _ rfl,rfl,rfl⟩,hp⟩,λi v s' Q' E' hP hQ=>?_,λh' tk hk=>?_⟩
 ·have hP':its[i]?=some v:=by simpa using hP
  cases hb:bs[i]? with
  |none=>
   have h1:(bs.map V.bl)[i]?=none:=by rw[Kr,hb];rfl
   rw[rv.none_of h1] at hP';cases hP'
  |some b=>
   have h1:(bs.map V.bl)[i]?=some (.bl b):=by rw[Kr,hb];rfl
   obtain⟨u,e1,e2⟩:=rv.get h1;rw[hP'] at e1;cases e1;cases e2;simp only[hb,Lq] at hQ;exact wpAny_truthy_bool hQ
 ·have e:((KG its.toArray.size).all λi=>(bs[i]?).getD false)=bs.all id:=by
   have hl:its.toArray.size=bs.length:=by rw[Kv,<- hlen,Kp]
   rw[hl,L0];simp only[Lc,KU,id];constructor
   ·intro h x hx;obtain⟨i,hi,rfl⟩:=Lz.mp hx;have:=h i hi;rw[Ko hi] at this;exact this
   ·intro h i hi;rw[Ko hi];exact h _ (Ld hi)
  rw[e];refine⟨.bl (bs.all id),H,I.kept λb o q'=>hk b o (λz=>?_) (Kq _ q'),rfl,q⟩;have:b=s.heap.objs.size:=by simpa using z
  exact absurd (this▸Ks q') (KZ _)
theorem kN(hc:X.calm=true):eM X (.builtin "any") (λxs H Q=>∃(p:Addr) (bs:List Bool),xs=[.ref p]/\SqL X.K H p (bs.map V.bl)/\Q (.bl (bs.any id)) H):=by
 intro pins s σ H xs us Q I r h;obtain⟨p,bs,rfl,hq,q⟩:=h;obtain⟨u,rfl,rx⟩:=gA r;cases rx;obtain⟨its,rv,pl,hz⟩:=I.list hq;have hlen:=rv.length;have hh:X.A.in1.handled=none:=I.ok.hd hc
 have hnz:p≠s.heap.objs.size:=by
  obtain⟨o,n,e,_⟩:=pl;exact KC (Ks e)
 refine call_any_walk (wpAny_pyIter_list pl.isList ?_)
 have hp:(s.heap.push { cls:=.type "list_iterator",data:=.fields #[.ref p,.int 0 0] }).IsList p its.toArray:=by
  obtain⟨o,e,r⟩:=pl.isList;exact⟨o,Kq _ e,r⟩
 refine⟨s.heap.objs.size,_,_,_,_,_,λi=>(bs[i]?).getD false,rfl,Walks.list hh s.heap.objs.size p hnz its.toArray,⟨⟨_,KB _ rfl,rfl,rfl⟩,hp⟩,λi v s' Q' E' hP hQ=>?_,λh' tk hk=>?_⟩
 ·have hP':its[i]?=some v:=by simpa using hP
  cases hb:bs[i]? with
  |none=>
   have h1:(bs.map V.bl)[i]?=none:=by rw[Kr,hb];rfl
   rw[rv.none_of h1] at hP';cases hP'
  |some b=>
   have h1:(bs.map V.bl)[i]?=some (.bl b):=by rw[Kr,hb];rfl
   obtain⟨u,e1,e2⟩:=rv.get h1;rw[hP'] at e1;cases e1;cases e2;simp only[hb,Lq] at hQ;exact wpAny_truthy_bool hQ
 ·have e:((KG its.toArray.size).any λi=>(bs[i]?).getD false)=bs.any id:=by
   have hl:its.toArray.size=bs.length:=by rw[Kv,<- hlen,Kp]
   rw[hl,L0];simp only[LU,KU,id];constructor
   ·rintro ⟨i,hi,h⟩
    rw[Ko hi] at h;exact⟨_,Ld hi,h⟩
   ·rintro ⟨x,hx,h⟩
    obtain⟨i,hi,rfl⟩:=Lz.mp hx;exact⟨i,hi,by rw[Ko hi];exact h⟩
  rw[e];refine⟨.bl (bs.any id),H,I.kept λb o q'=>hk b o (λz=>?_) (Kq _ q'),rfl,q⟩;have:b=s.heap.objs.size:=by simpa using z
  exact absurd (this▸Ks q') (KZ _)
theorem nI:eM X (.builtin "isinstance") (λxs H Q=>∃x T t b,xs=[x,.ty T]/\kC X.K H x t/\Ls X.K t (.type T)=some b/\Q (.bl b) H):=by
 intro pins s σ H xs us Q I r h;obtain⟨x,T,t,b,rfl,ty,e,q⟩:=h;obtain⟨u,w',rfl,r1,r2⟩:=zV r;cases r2;exact su I r1 ty e λtk=>⟨.bl b,H,I.tok _,rfl,q⟩
theorem sN:eM X (.type "int") (λxs H Q=>∃b:Bool,xs=[.bl b]/\Q (.int (if b then 1 else 0)) H):=by
 intro pins s σ H xs us Q I r h;obtain⟨b,rfl,q⟩:=h;obtain⟨u,rfl,rx⟩:=gA r;cases rx;exact call_int_bool ⟨.int _,H,I.tok _,⟨_,rfl⟩,q⟩
end
noncomputable def yr:D->Option Nat
 |.nd .lst ds=>some ds.length
 |.nd .tup ds=>some ds.length
 |.scr ns=>some ns.length
 |_=>none
noncomputable def bJ:List D->Option (List Bool)
 |[]=>some []
 |.bl b::r=>(bJ r).map (b::·)
 |_=>none
noncomputable def toInts:List D->Option (List Int)
 |[]=>some []
 |.int b::r=>(toInts r).map (b::·)
 |_=>none
theorem f8:∀{ds:List D} {bs:List Bool},bJ ds=some bs->ds=bs.map D.bl
 |[],bs,h=>by cases h;rfl
 |d::r,bs,h=>by
  cases d<;>simp only[bJ] at h<;>try cases h
  rename_i b
  cases e:bJ r with
  |none=>rw[e] at h;cases h
  |some cs=>rw[e] at h;cases h;rw[f8 e];rfl
theorem dP:∀{ds:List D} {bs:List Int},toInts ds=some bs->ds=bs.map D.int
 |[],bs,h=>by cases h;rfl
 |d::r,bs,h=>by
  cases d<;>simp only[toInts] at h<;>try cases h
  rename_i b
  cases e:toInts r with
  |none=>rw[e] at h;cases h
  |some cs=>rw[e] at h;cases h;rw[dP e];rfl
theorem c5:∀ns:List Int,toInts (ns.map D.int)=some ns
 |[]=>rfl
 |n::ns=>by simp[toInts,c5 ns]
theorem eT:∀ns:List Bool,bJ (ns.map D.bl)=some ns
 |[]=>rfl
 |n::ns=>by simp[bJ,eT ns]
theorem RpL.bools:∀{bs:List Bool} {vs:List V},RpL K H S (bs.map D.bl) vs->vs=bs.map V.bl
 |[],_,h=>h.nil_inv
 |b::bs,_,h=>by
  obtain⟨y,ys,rfl,r,t⟩:=h.cons_inv;rw[r.bl,RpL.bools t];rfl
theorem RpL.toInts:∀{ns:List Int} {vs:List V},RpL K H S (ns.map D.int) vs->vs=ns.map V.int
 |[],_,h=>h.nil_inv
 |b::bs,_,h=>by
  obtain⟨y,ys,rfl,r,t⟩:=h.cons_inv;rw[r.int,RpL.toInts t];rfl
noncomputable def u7(kds:List KD):Option KD:=match kds with|[(_,d)]=>(yr d).map λn=>(.sh,.int n)|_=>none
noncomputable def Bg(kds:List KD):Option KD:=match kds with|[(_,.nd .lst ds)]=>(bJ ds).map λbs=>(.sh,.bl (bs.all id))|_=>none
noncomputable def Bh(kds:List KD):Option KD:=match kds with|[(_,.nd .lst ds)]=>(bJ ds).map λbs=>(.sh,.bl (bs.any id))|_=>none
noncomputable def u8(kds:List KD):Option KD:=match kds with
 |[(k,.nd .lst ds)]=>if ip k ds=true then some (.fr aZ,.lst ds) else none
 |[(k,.nd .tup ds)]=>if ip k ds=true then some (.fr aZ,.lst ds) else none
 |[(_,.scr ns)]=>some (.fr aZ,.lst (ns.map D.int))
 |_=>none
noncomputable def Bi:Kd->Kd
 |.fr (.own es (.own es' r))=>.fr (.own es (.own es' r))
 |_=>.sh
noncomputable def pE(kds:List KD):Option KD:=match kds with
 |[(k,.nd .lst ds)]=>if ip k ds=true then some (Bi k,.tup ds) else none
 |_=>none
noncomputable def JS(kds:List KD):Option KD:=match kds with|[(_,.int i)]=>if i.natAbs.log2<1920 then some (.sh,.str (toString i)) else none|_=>none
noncomputable def Bj(kds:List KD):Option KD:=match kds with|[(_,.nd .lst ds)]=>(toInts ds).map λns=>(.sh,.int ns.sum)|[(_,.scr ns)]=>some (.sh,.int ns.sum)|_=>none
noncomputable def kO(n:Int)(ns:List Int):Int:=ns.foldl (λa b=>if b<a then b else a) n
theorem jm:∀(ns:List Int) (n:Int),kO n ns∈n::ns/\∀x∈n::ns,kO n ns<=x
 |[],n=>⟨KF,λx hx=>by simp at hx;subst hx;exact MH _⟩
 |m::ns,n=>by
  have e:kO n (m::ns)=kO (if m<n then m else n) ns:=rfl
  have hz:(if m<n then m else n)=n\/(if m<n then m else n)=m:=by split<;>simp
  have hn:(if m<n then m else n)<=n/\(if m<n then m else n)<=m:=by split<;>lia
  rw[e]
  generalize (if m<n then m else n)=z at hz hn
  have ih:=jm ns z;have h0:=ih.2 z KF;refine⟨?_,λx hx=>?_⟩
  ·rcases Ku.mp ih.1 with h|h
   ·rw[h];rcases hz with rfl|rfl<;>simp
   ·exact Kx _ (Kx _ h)
  ·rcases Ku.mp hx with rfl|hx
   ·lia
   ·rcases Ku.mp hx with rfl|hx
    ·lia
    ·exact ih.2 x (Kx _ hx)
theorem yt{n m:Int}(h1:m∈n::ns)(h2:∀x∈n::ns,m<=x):m=kO n ns:=Int.le_antisymm (h2 _ (jm ns n).1) ((jm ns n).2 m h1)
noncomputable def Bk(kds:List KD):Option KD:=match kds with
 |[(_,.int i),(_,.int j)]=>some (.sh,.int (if j<i then j else i))
 |[(_,.nd .lst ds)]=>(match J.toInts ds with|some (n::ns)=>some (.sh,.int (kO n ns))|_=>none)
 |_=>none
noncomputable def HF(n:Int)(ns:List Int):Int:=ns.foldl (λa b=>if a<b then b else a) n
noncomputable def JT(kds:List KD):Option KD:=match kds with
 |[(_,.int i),(_,.int j)]=>some (.sh,.int (if j > i then j else i))
 |[(_,.nd .lst ds)]=>(match J.toInts ds with|some (n::ns)=>some (.sh,.int (HF n ns))|_=>none)
 |_=>none
noncomputable def JU(kds:List KD):Option KD:=match kds with|[(_,.int i)]=>some (.sh,.int (if i<0 then -i else i))|_=>none
noncomputable def Bl(kds:List KD):Option KD:=match kds with|[(_,.bl b)]=>some (.sh,.int (if b then 1 else 0))|_=>none
noncomputable def qP:List D->Option (List (Int×D))
 |[]=>some []
 |d::r=>match d with
  |.nd .tup ds=>(match ds with
   |[a,x]=>(match a with|.int z=>(qP r).map ((z,x)::·)|_=>none)
   |_=>none)
  |_=>none
noncomputable def En(ps:List (Int×D)):D:=.nd (.dic 0 (ps.map λp=>Sum.inl (Sum.inl p.1))) (ps.map (·.2))
noncomputable def JA(kds:List KD):Option KD:=match kds with
 |[(k,.nd .lst ds)]=>if ip k ds=true then(match qP ds with|some ps=>if(ps.map (·.1)).Nodup/\ps.length<=100000 then some (.fr aZ,En ps) else none|none=>none) else none
 |_=>none
noncomputable def Bm(d:D):Option KD:=if Jy 98 d=true/\Jz d<=200000 then some (.sh,.str (py d).shown) else none
noncomputable def JB(kds:List KD):Option KD:=match kds with
 |[(_,d)]=>Bm d
 |_=>none
noncomputable def dQ(x:Str):List KD->Option KD:=
 if x="len" then u7 else if x="all" then Bg else if x="any" then Bh else if x="list" then u8 else if x="tuple" then pE else if x="str" then(λ_=>none) else if x="sum" then Bj
 else if x="min" then Bk else if x="max" then(λ_=>none) else if x="abs" then(λ_=>none) else if x="int" then Bl else if x="dict" then(λ_=>none) else if x="repr" then(λ_=>none) else λ_=>none
noncomputable def nJ(x:Str)(a:Option (List KD)):Option KD:=match a with|some kds=>dQ x kds|none=>none
noncomputable def JC(X:Cx)(kds:List KD)(kd:Kd)(d:D)(Q:VK)(vs:List V)(H1:Hp):Prop:=∃g H0,MuOk H0 (Sg g)/\Same H0 H1/\VRs X.K g H0 H1 kds vs/\∀v H',Same H1 H'->VR X.K g H0 H' kd d v->Q v H'
noncomputable def StrictOk(X:Cx)(f:List KD->Option KD)(es:List Expr)(node:Expr):Prop:=∀kds kd d,f kds=some (kd,d)->∀σ H Q,wA X es σ H (JC X kds kd d Q)->wE X node σ H Q
theorem bn{H:Hp}{Q Q':List V->Hp->Prop}(h:wA X es σ H Q)(k:∀vs H,Q vs H->Q' vs H):wA X es σ H Q':=λpos pins s I=>bq (h pos pins s I) λus s' ⟨vs,H',I',r,q⟩=>⟨vs,H',I',r,k vs H' q⟩
theorem dA{H:Hp}{Q Q':VK}(h:wE X e σ H Q)(k:∀v H,Q v H->Q' v H):wE X e σ H Q':=λpins s I=>bq (h pins s I) λu s' ⟨v,H',I',r,q⟩=>⟨v,H',I',r,k v H' q⟩
theorem StrictOk.snd{fa:Ro->Option (List KD)}(h:StrictOk X f es node)(ha:jI X fa es):SndE X (λρ=>(fa ρ).bind f) node:=by
 intro ρ kd d hd g σ H Q se q;dsimp only at hd
 cases e:fa ρ with
 |none=>rw[e] at hd;cases hd
 |some kds=>
  rw[e] at hd;exact h kds kd d hd σ H Q (ha ρ kds e g σ H _ se λvs H1 s1 r1=>⟨g,H,se.mu,s1,r1,λv H' s r=>q v H' (s1.trans s) r⟩)
noncomputable def dR(X:Cx)(x:Str)(f:List KD->Option KD):Prop:=∀(e:Expr) (es:List Expr) (p pos:Pos),Gl X x->ad e=true->es.all ad=true->StrictOk X f (e::es) (.Call (.Name x p) (e::es) [] pos)
section
variable {X:Cx} {Γ:gH} {c:Cz}
theorem Eo(O:al X Γ c):dR X "len" u7:=by
 intro e es p pos hg n1 n2 kds kd d h σ H Q hA;unfold u7 at h;split at h
 ·rename_i ka da
  cases hl:yr da with
  |none=>rw[hl] at h;cases h
  |some n=>
   rw[hl] at h;cases h;refine ak (cn (l0) hg (O.tab.bl _ (by simp[aq])) PySem.boot_len cq (by decide) (by decide) (ac n1) (a5 n2)) (bn hA λvs H1 ⟨g,H0,m,s1,r1,q⟩=>?_);obtain⟨v,rfl,r⟩:=r1.one;have t:=r.rd
   cases da with
   |scr ns=>
    obtain⟨a,rfl,g1⟩:=t.scr;cases hl;exact⟨a,_,rfl,.inl g1,q _ H1 (Same.refl H1) (by rw[Kp];exact i9)⟩
   |nd hd ds=>
    obtain⟨a,o,us,rfl,_,g1,q1,rr⟩:=t.nd
    cases hd with
    |lst=>cases hl;cases(show o=_ from q1);exact⟨a,us,rfl,.inl (.of g1),q _ H1 (Same.refl H1) (by rw[rr.len];exact i9)⟩
    |tup=>cases hl;cases(show o=_ from q1);exact⟨a,us,rfl,.inr (.of g1),q _ H1 (Same.refl H1) (by rw[rr.len];exact i9)⟩
    |dic tt ks=>cases hl
    |obj c ns=>cases hl
   |_=>cases hl
 ·cases h
theorem Ep(O:al X Γ c):dR X "all" Bg:=by
 intro e es p pos hg n1 n2 kds kd d h σ H Q hA;unfold Bg at h;split at h
 ·rename_i ka ds
  cases hl:bJ ds with
  |none=>rw[hl] at h;cases h
  |some bs=>
   rw[hl] at h;cases h;refine ak (cn (kM O.calm) hg (O.tab.bl _ (by simp[aq])) PyProof.Rows.boot_all cq (by decide) (by decide) (ac n1) (a5 n2)) (bn hA λvs H1 ⟨g,H0,m,s1,r1,q⟩=>?_);obtain⟨v,rfl,r⟩:=r1.one;obtain⟨a,o,us,rfl,_,g1,q1,rr⟩:=r.rd.nd;cases(show o=_ from q1);rw[f8 hl] at rr;exact⟨a,bs,rfl,.of (by rw[g1,rr.bools]),q _ H1 (Same.refl H1) yb⟩
 ·cases h
theorem Er(O:al X Γ c):dR X "any" Bh:=by
 intro e es p pos hg n1 n2 kds kd d h σ H Q hA;unfold Bh at h;split at h
 ·rename_i ka ds
  cases hl:bJ ds with
  |none=>rw[hl] at h;cases h
  |some bs=>
   rw[hl] at h;cases h;refine ak (cn (kN O.calm) hg (O.tab.bl _ (by simp[aq])) PyProof.Rows.boot_any cq (by decide) (by decide) (ac n1) (a5 n2)) (bn hA λvs H1 ⟨g,H0,m,s1,r1,q⟩=>?_);obtain⟨v,rfl,r⟩:=r1.one;obtain⟨a,o,us,rfl,_,g1,q1,rr⟩:=r.rd.nd;cases(show o=_ from q1);rw[f8 hl] at rr;exact⟨a,bs,rfl,.of (by rw[g1,rr.bools]),q _ H1 (Same.refl H1) yb⟩
 ·cases h
theorem Bn(O:al X Γ c):dR X "list" u8:=by
 intro e es p pos hg n1 n2 kds kd d h σ H Q hA;unfold u8 at h;split at h
 ·rename_i ka ds;split at h
  ·rename_i hk;cases h;refine ak (dI d7 hg (O.tab.bl _ (by simp[aq])) PyProof.Rows.boot_list cq (by decide) (by decide) (ac n1) (a5 n2)) (bn hA λvs H1 ⟨g,H0,m,s1,r1,q⟩=>?_);obtain⟨v,rfl,r⟩:=r1.one;obtain⟨a,o,us,rfl,g1,q1,rr⟩:=r.items hk m s1;cases(show o=_ from q1);exact⟨a,us,rfl,.inl (.of g1),λl hl=>q _ _ (af hl) ((l5 hl rr).older s1)⟩
  ·cases h
 ·rename_i ka ds;split at h
  ·rename_i hk;cases h;refine ak (dI d7 hg (O.tab.bl _ (by simp[aq])) PyProof.Rows.boot_list cq (by decide) (by decide) (ac n1) (a5 n2)) (bn hA λvs H1 ⟨g,H0,m,s1,r1,q⟩=>?_);obtain⟨v,rfl,r⟩:=r1.one;obtain⟨a,o,us,rfl,g1,q1,rr⟩:=r.items hk m s1;cases(show o=_ from q1);exact⟨a,us,rfl,.inr (.of g1),λl hl=>q _ _ (af hl) ((l5 hl rr).older s1)⟩
  ·cases h
 ·rename_i ka ns;cases h;refine ak (dI d7 hg (O.tab.bl _ (by simp[aq])) PyProof.Rows.boot_list cq (by decide) (by decide) (ac n1) (a5 n2)) (bn hA λvs H1 ⟨g,H0,m,s1,r1,q⟩=>?_);obtain⟨v,rfl,r⟩:=r1.one;obtain⟨a,rfl,g1⟩:=r.rd.scr;exact⟨a,_,rfl,.inl g1,λl hl=>q _ _ (af hl) ((l5 hl (RpL.ints ns)).older s1)⟩
 ·cases h
theorem u9{H0 H1:Hp}(m:MuOk H0 (Sg g))(s1:Same H0 H1)(h:VR K g H0 H1 (.fr (.own es r)) (.nd .lst ds) v) :
  ∃a us,v=.ref a/\H1 a=some (.lst us)/\∀l,H1 l=none->VR K g H0 (upd H1 l (.tup us)) (.fr (.own es r)) (.tup ds) (.ref l):=by
 obtain⟨F,h1,h2⟩:=h;have h2:Tr K H1 (Sx g F) (.nd .lst ds) (.own es r) v F:=h2;unfold Tr at h2;obtain⟨a,o,xs,F',rfl,g1,q1,n1,n2,hF,t⟩:=h2;cases(show o=_ from q1);refine⟨a,xs,rfl,g1,λl hl=>⟨F',λb z=>h1 b ((hF b).mpr (.inr z)),?_⟩⟩;show Tr K _ _ (.nd .tup ds) (.own es r) _ _;unfold Tr
 refine⟨l,.tup xs,xs,F',rfl,aE,rfl,(λh=>nomatch h),λ_ z=>?_,λb=>⟨.inr,λz=>z.elim (λz=>nomatch z.1) id⟩,t.go (λb o _ e=>af hl b o e) λb o _ n z=>n (z.imp id λz=>(hF b).mpr (.inr z))⟩
 rcases z with z|z
 ·obtain⟨o,e,_⟩:=m.same s1 l z;rw[hl] at e;cases e
 ·obtain⟨o,e,_⟩:=t.dom l z;rw[hl] at e;cases e
theorem yu(O:al X Γ c):dR X "tuple" pE:=by
 intro e es p pos hg n1 n2 kds kd d h σ H Q hA;unfold pE at h;split at h
 ·rename_i ka ds;split at h
  ·rename_i hk;cases h;refine ak (dI kF hg (O.tab.bl _ (by simp[aq])) PyProof.Rows.boot_tuple cq (by decide) (by decide) (ac n1) (a5 n2)) (bn hA λvs H1 ⟨g,H0,m,s1,r1,q⟩=>?_);obtain⟨v,rfl,r⟩:=r1.one;unfold Bi at q;split at q
   ·obtain⟨a,us,rfl,g1,z⟩:=u9 m s1 r;exact⟨a,us,rfl,.inl ⟨.of g1,λl hl=>q _ _ (af hl) (z l hl)⟩⟩
   obtain⟨a,o,us,rfl,g1,q1,rr⟩:=r.items hk m s1;cases(show o=_ from q1);exact⟨a,us,rfl,.inl ⟨.of g1,λl hl=>q _ _ (af hl) ((A4 (m.same s1) hl rr).older s1)⟩⟩
  ·cases h
 ·cases h
theorem Es(O:al X Γ c):dR X "sum" Bj:=by
 intro e es p pos hg n1 n2 kds kd d h σ H Q hA;unfold Bj at h;split at h
 ·rename_i ka ds
  cases hl:J.toInts ds with
  |none=>rw[hl] at h;cases h
  |some ns=>
   rw[hl] at h;cases h;refine ak (cn (fJ O.calm) hg (O.tab.bl _ (by simp[aq])) PyProof.Rows.boot_sum cq (by decide) (by decide) (ac n1) (a5 n2)) (bn hA λvs H1 ⟨g,H0,m,s1,r1,q⟩=>?_);obtain⟨v,rfl,r⟩:=r1.one;obtain⟨a,o,us,rfl,_,g1,q1,rr⟩:=r.rd.nd;cases(show o=_ from q1);rw[dP hl] at rr;exact⟨a,ns,rfl,.of (by rw[g1,rr.toInts]),q _ H1 (Same.refl H1) i9⟩
 ·rename_i ka ns;cases h;refine ak (cn (fJ O.calm) hg (O.tab.bl _ (by simp[aq])) PyProof.Rows.boot_sum cq (by decide) (by decide) (ac n1) (a5 n2)) (bn hA λvs H1 ⟨g,H0,m,s1,r1,q⟩=>?_);obtain⟨v,rfl,r⟩:=r1.one;obtain⟨a,rfl,g1⟩:=r.rd.scr;exact⟨a,ns,rfl,g1,q _ H1 (Same.refl H1) i9⟩
 ·cases h
theorem Et(O:al X Γ c):dR X "min" Bk:=by
 intro e es p pos hg n1 n2 kds kd d h σ H Q hA;unfold Bk at h;split at h
 ·rename_i ka i kb j;cases h;refine ak (cn (sr O.calm) hg (O.tab.bl _ (by simp[aq])) PyProof.Rows.boot_min cq (by decide) (by decide) (ac n1) (a5 n2)) (bn hA λvs H1 ⟨g,H0,m,s1,r1,q⟩=>?_);obtain⟨v,v',rfl,r,r'⟩:=r1.two;obtain rfl:=r.rd.int;obtain rfl:=r'.rd.int;exact⟨i,j,rfl,q _ H1 (Same.refl H1) i9⟩
 ·rename_i ka ds;split at h
  ·rename_i n ns hl;cases h;refine ak (cn (G.kK O.calm) hg (O.tab.bl _ (by simp[aq])) PyProof.Rows.boot_min cq (by decide) (by decide) (ac n1) (a5 n2)) (bn hA λvs H1 ⟨g,H0,m,s1,r1,q⟩=>?_);obtain⟨v,rfl,r⟩:=r1.one;obtain⟨a,o,us,rfl,_,g1,q1,rr⟩:=r.rd.nd;cases(show o=_ from q1);rw[dP hl] at rr;exact⟨a,n::ns,rfl,.of (by rw[g1,rr.toInts]),by simp,λx hx hb=>by rw[yt hx hb];exact q _ H1 (Same.refl H1) i9⟩
  ·cases h
 ·cases h
theorem va{e:Expr}(h:ad e=true):((backTo cp (starEach [e] env)).all (λx=>!x.1)&&(backToKw cp (keywordEach [] env)).all (λx=>x.1.isSome)
      && decide ([e].length+([]:List Keyword).length+(if([]:List Keyword).isEmpty then 0 else 1)<30))=true:=by
  rw[ac h];rfl
noncomputable def fL:Expr->Bool
 |.Name x _=>!(x==("super":Str))
 |.Subscript ..=>true
 |.Attribute ..=>true
 |_=>false
theorem gO{m:Str}(h:fL b=true):attributeBase b m env w=w:=by
 cases b with
 |Name x p=>
  unfold attributeBase;have h:(x==("super":Str))=false:=by simpa[fL] using h
  simp[h]
 |Subscript a b p=>rfl
 |Attribute a b p=>rfl
 |_=>cases h
noncomputable def nK(a:Option KD):Option KD:=match a with
 |some (_,.nd .lst ds)=>(match toInts ds with|some ks=>if ks.length<=60 then some (.fr aZ,.lst ((G.cr ks).map D.int)) else none|none=>none)
 |_=>none
noncomputable def qQ(a:Option KD):Option KD:=match a with
 |some (_,.nd .lst ds)=>(match toInts ds with|some ks=>if ks.length<=100000 then some (.fr aZ,.lst (ks.reverse.map D.int)) else none|none=>none)
 |_=>none
theorem Bo(O:al X Γ c){fa:Ro->Option KD}{a:Expr}{p p2 pos pos2:Pos}(hg:Gl X "sorted")(hg2:Gl X "set")(hn:ad a=true)(ha:SndE X fa a):SndE X (λρ=>nK (fa ρ)) (.Call (.Name "sorted" p) [.Call (.Name "set" p2) [a] [] pos2] [] pos):=by
 intro ρ kd d h g σ H Q se q;dsimp only[nK] at h;split at h
 ·rename_i ka ds ea;split at h
  ·rename_i ks hk;obtain⟨hz,e⟩:=uH h;cases e;refine ak (G.yp O.calm hg (O.tab.bl _ (by simp[aq])) hg2 (O.tab.bl _ (by simp[aq])) (a7 au cF (ac hn)) (ac hn)) (ha ρ _ _ ea g σ H _ se λv H1 s1 r1=>?_);obtain⟨a',o,us,rfl,_,g1,q1,rr⟩:=r1.rd.nd;cases(show o=_ from q1);rw[dP hk] at rr;refine⟨a',ks,rfl,.of (by rw[g1,rr.toInts]),hz,λl hl=>q _ _ (s1.trans (af hl)) ?_⟩;exact(l5 hl (RpL.ints (K:=X.K) (H:=H1) (S:=Sg g) (G.cr ks))).older s1
  ·cases h
 ·cases h
theorem Bp(O:al X Γ c){fa:Ro->Option KD}{a:Expr}{p p2 pos pos2:Pos}(hg:Gl X "list")(hg2:Gl X "reversed")(hn:ad a=true)(ha:SndE X fa a):SndE X (λρ=>qQ (fa ρ)) (.Call (.Name "list" p) [.Call (.Name "reversed" p2) [a] [] pos2] [] pos):=by
 intro ρ kd d h g σ H Q se q;dsimp only[qQ] at h;split at h
 ·rename_i ka ds ea;split at h
  ·rename_i ks hk;obtain⟨hz,e⟩:=uH h;cases e;refine ak (G.yq O.calm hg (O.tab.bl _ (by simp[aq])) hg2 (O.tab.bl _ (by simp[aq])) (a7 au cF (ac hn)) (ac hn)) (ha ρ _ _ ea g σ H _ se λv H1 s1 r1=>?_);obtain⟨a',o,us,rfl,_,g1,q1,rr⟩:=r1.rd.nd;cases(show o=_ from q1);rw[dP hk] at rr;refine⟨a',ks.map V.int,rfl,.of (by rw[g1,rr.toInts]),by rw[Kp];exact hz,λl hl=>q _ _ (s1.trans (af hl)) ?_⟩;rw[<- List.map_reverse];exact(l5 hl (RpL.ints (K:=X.K) (H:=H1) (S:=Sg g) ks.reverse)).older s1
  ·cases h
 ·cases h
inductive HG (X:Cx) (ρ:Ro):List (Option Expr)->List Expr->List eP->List KD->Prop
 |nil:HG X ρ [] [] [] []
 |cons {k v:Expr} {kD:D} {x:eP} {kv:Kd} {d:D} {f:Ro->Option KD} {ks:List (Option Expr)} {vs:List Expr} {xs:List eP} {kds:List KD}:SndE X (λ_=>some (.sh,kD)) k->uK kD=some x->SndE X f v->f ρ=some (kv,d)->ph kv d=true->HG X ρ ks vs xs kds->HG X ρ (some k::ks) (v::vs) (x::xs) ((kv,d)::kds)
theorem Eu(O:al X Γ c):dR X "int" Bl:=by
 intro e es p pos hg n1 n2 kds kd d h σ H Q hA;unfold Bl at h;split at h
 ·rename_i ka b;cases h;refine ak (dI sN hg (O.tab.bl _ (by simp[aq])) PyProof.Rows.boot_int cq (by decide) (by decide) (ac n1) (a5 n2)) (bn hA λvs H1 ⟨g,H0,m,s1,r1,q⟩=>?_);obtain⟨v,rfl,r⟩:=r1.one;obtain rfl:=r.rd.bl;exact⟨b,rfl,q _ H1 (Same.refl H1) i9⟩
 ·cases h
theorem dS{x:Str}:dR X x (λ_=>none):=λe es p pos hg n1 n2 kds kd d h=>by cases h
theorem iz{x y:Str}(h1:x=y->dR X x f)(h2:dR X x g):dR X x (if x=y then f else g):=by
 by_cases h:x=y
 ·rw[if_pos h];exact h1 h
 ·rw[if_neg h];exact h2
theorem nL(O:al X Γ c)(x:Str):dR X x (dQ x):=by
 unfold dQ;refine iz (λh=>?_) ?_
 ·first|exact dS|(subst h;exact Eo O)
 refine iz (λh=>?_) ?_
 ·first|exact dS|(subst h;exact Ep O)
 refine iz (λh=>?_) ?_
 ·first|exact dS|(subst h;exact Er O)
 refine iz (λh=>?_) ?_
 ·first|exact dS|(subst h;exact Bn O)
 refine iz (λh=>?_) ?_
 ·first|exact dS|(subst h;exact yu O)
 refine iz (λh=>?_) ?_
 ·first|exact dS|(subst h;exact b_str O)
 refine iz (λh=>?_) ?_
 ·first|exact dS|(subst h;exact Es O)
 refine iz (λh=>?_) ?_
 ·first|exact dS|(subst h;exact Et O)
 refine iz (λh=>?_) ?_
 ·first|exact dS|(subst h;exact b_max O)
 refine iz (λh=>?_) ?_
 ·first|exact dS|(subst h;exact b_abs O)
 refine iz (λh=>?_) ?_
 ·first|exact dS|(subst h;exact Eu O)
 refine iz (λh=>?_) ?_
 ·first|exact dS|(subst h;exact b_dict O)
 refine iz (λh=>?_) ?_
 ·first|exact dS|(subst h;exact b_repr O)
 ·intro e es p pos hg n1 n2 kds kd d h;cases h
theorem Ev(O:al X Γ c){x:Str}{e:Expr}{es:List Expr}{p pos:Pos}{fa:Ro->Option (List KD)}(hf:jI X fa (e::es))(hg:d8 c.sc x=true)(n1:ad e=true)(n2:es.all ad=true):SndE X (λρ=>nJ x (fa ρ)) (.Call (.Name x p) (e::es) [] pos):=by
 have:=(nL O x e es p pos (bC O hg) n1 n2).snd hf
 rw[show(λρ=>nJ x (fa ρ))=λρ=>(fa ρ).bind (dQ x) by funext ρ;unfold nJ;cases fa ρ<;>rfl]
 exact this
end
end J
namespace J
open PySem PySem.Spec L2
inductive Src where
 |non|l (a:Addr) (ds:List D)|t (a:Addr) (ds:List D)|two (s u:Src)
noncomputable def Src.P(K:Km):Src->Gh->Hp->Prop
 |.non,_,_=>True
 |.l a ds,g,H=>∃xs,SqL K H a xs/\RpL K H (Sg g) ds xs
 |.t a ds,g,H=>∃xs,SqT K H a xs/\RpL K H (Sg g) ds xs
 |.two s u,g,H=>s.P K g H/\u.P K g H
noncomputable def Src.isL(b:Addr):Src->Prop
 |.non=>False
 |.l a _=>a=b
 |.t _ _=>False
 |.two s u=>s.isL b\/u.isL b
noncomputable def Src.isT(b:Addr):Src->Prop
 |.non=>False
 |.l _ _=>False
 |.t a _=>a=b
 |.two s u=>s.isT b\/u.isT b
noncomputable def Src.from(g:Gh)(H:Hp)(bs:List Nat):Src->Prop
 |.non=>True
 |.l a _=>g a=none\/∃i∈bs,g a=some (some i)
 |.t a _=>g a=none
 |.two s u=>s.from g H bs/\u.from g H bs
theorem Src.from.from_l{g:Gh}{bs:List Nat}{b:Addr}:∀{s:Src},s.from g H bs->s.isL b->g b=none\/∃i∈bs,g b=some (some i)
 |.l a _,h,e=>by cases(show a=b from e);exact h
 |.two s u,h,e=>by
  rcases(show s.isL b\/u.isL b from e) with e|e
  ·exact Src.from.from_l (show s.from g H bs/\u.from g H bs from h).1 e
  ·exact Src.from.from_l (show s.from g H bs/\u.from g H bs from h).2 e
 |.non,_,e=>e.elim
 |.t _ _,_,e=>e.elim
theorem Src.from.from_t{g:Gh}{bs:List Nat}{b:Addr}:∀{s:Src},s.from g H bs->s.isT b->g b=none
 |.t a _,h,e=>by cases(show a=b from e);exact h
 |.two s u,h,e=>by
  rcases(show s.isT b\/u.isT b from e) with e|e
  ·exact Src.from.from_t (show s.from g H bs/\u.from g H bs from h).1 e
  ·exact Src.from.from_t (show s.from g H bs/\u.from g H bs from h).2 e
 |.non,_,e=>e.elim
 |.l _ _,_,e=>e.elim
theorem Src.from.from_H{bs:List Nat}:∀{s:Src},s.from g H bs->s.from g H' bs
 |.t a _,h=>h
 |.l a _,h=>h
 |.non,_=>trivial
 |.two s u,h=>⟨Src.from.from_H (show s.from g H bs/\u.from g H bs from h).1,Src.from.from_H (show s.from g H bs/\u.from g H bs from h).2⟩
theorem Src.from.from_mono{bs bs':List Nat}(k:∀i∈bs,i∈bs'):∀{s:Src},s.from g H bs->s.from g H bs'
 |.t a _,h=>h
 |.l a _,h=>Or.imp_right (λ⟨i,h1,h2⟩=>⟨i,k i h1,h2⟩) h
 |.non,_=>trivial
 |.two s u,h=>⟨Src.from.from_mono k (show s.from g H bs/\u.from g H bs from h).1,Src.from.from_mono k (show s.from g H bs/\u.from g H bs from h).2⟩
section
variable {K:Km} {H H':Hp} {g g':Gh}
theorem vb(k:∀o,H a=some o->H' a=some o)(h:SqL K H a xs):SqL K H' a xs:=by
 rcases h with(h|⟨o,h⟩)|h
 ·exact .inl (.inl (k _ h))
 ·exact .inl (.inr ⟨o,k _ h⟩)
 ·exact .inr h
theorem vc(k:∀o,H a=some o->H' a=some o)(h:SqT K H a xs):SqT K H' a xs:=by
 rcases h with(h|⟨o,h⟩)|h
 ·exact .inl (.inl (k _ h))
 ·exact .inl (.inr ⟨o,k _ h⟩)
 ·exact .inr h
theorem Src.mono(k2:∀b o,H b=some o->¬Sg g b->¬Sg g' b):∀{s:Src},(∀b o,(¬Sg g b\/s.isL b)->H b=some o->H' b=some o)->(∀a,s.isT a->g a=none)->s.P K g H->s.P K g' H'
 |.non,_,_,_=>trivial
 |.l a ds,k,ht,h=>by
  obtain⟨xs,h1,h2⟩:=h;exact⟨xs,vb (λo e=>k a o (.inr rfl) e) h1,h2.go λb o n e=>⟨k b o (.inl n) e,k2 b o e n⟩⟩
 |.t a ds,k,ht,h=>by
  obtain⟨xs,h1,h2⟩:=h;exact⟨xs,vc (λo e=>k a o (.inl (by rw[Sg,ht a rfl];simp)) e) h1,h2.go λb o n e=>⟨k b o (.inl n) e,k2 b o e n⟩⟩
 |.two s u,k,ht,h=>⟨Src.mono k2 (λb o z=>k b o (z.imp id .inl)) (λa z=>ht a (.inl z)) (show s.P K g H/\u.P K g H from h).1,Src.mono k2 (λb o z=>k b o (z.imp id .inr)) (λa z=>ht a (.inr z)) (show s.P K g H/\u.P K g H from h).2⟩
end
noncomputable def jb(K:Km)(J:It)(s:Src)(ds:List D):Prop:=∀(i:Nat) (g:Gh) (H:Hp),s.P K g H->MuOk H (Sg g)->
 (ds.length<=i->J.stop i H)/\∀d,ds[i]?=some d->J.go i H/\∀x H',J.yld i H x H'->Same H H'/\Rp K H' (Sg g) d x
section
variable {K:Km}
theorem Bq:jb K (Db K a) (.l a ds) ds:=by
 rintro i g H ⟨us,g1,r⟩ m
 refine⟨λhi=>⟨us,g1,by rw[r.len];exact hi⟩,λd hd=>?_⟩;obtain⟨x,e1,e2⟩:=r.getD hd;refine⟨⟨us,x,g1,e1⟩,λy H' hy=>?_⟩;obtain⟨rfl,hy⟩:=hy;have:=hy us g1;rw[e1] at this;cases this;exact⟨Same.refl _,e2⟩
theorem Ew:jb K (Hb K a) (.t a ds) ds:=by
 rintro i g H ⟨us,g1,r⟩ m
 refine⟨λhi=>⟨us,g1,by rw[r.len];exact hi⟩,λd hd=>?_⟩;obtain⟨x,e1,e2⟩:=r.getD hd;refine⟨⟨us,x,g1,e1⟩,λy H' hy=>?_⟩;obtain⟨rfl,hy⟩:=hy;have:=hy us g1;rw[e1] at this;cases this;exact⟨Same.refl _,e2⟩
theorem Br{ds:List D}:jb K (G.Gp K a) (.l a ds) (ds.mapIdx λi d=>D.tup [.int i,d]):=by
 rintro i g H ⟨us,g1,r⟩ m
 refine⟨λhi=>⟨us,g1,by rw[r.len];simpa using hi⟩,λd hd=>?_⟩;rw[List.getElem?_mapIdx] at hd
 cases q:ds[i]? with
 |none=>rw[q] at hd;cases hd
 |some d'=>
  rw[q] at hd;cases hd;obtain⟨x,e1,e2⟩:=r.getD q;refine⟨⟨us,x,g1,e1⟩,λy H' hy=>?_⟩;obtain⟨p,v,hp,rfl,rfl,hy⟩:=hy;have:=hy us g1;rw[e1] at this;cases this;refine⟨af hp,?_⟩;unfold Rp;refine⟨p,_,_,rfl,λz=>?_,aE,rfl,.cons (by unfold Rp;rfl) (.cons (e2.same (af hp)) .nil)⟩;obtain⟨o,q,_⟩:=m p z;rw[hp] at q;cases q
theorem Bs(lo:Int)(n:Nat):jb K (DA lo n) .non ((KG n).map λ(k:Nat)=>D.int (lo+(k:Int))):=by
 rintro i g H _ m
 refine⟨λhi=>(by have hi':n<=i:=(by simpa using hi);exact hi'),λd hd=>?_⟩;rw[Kr] at hd
 cases q:(KG n)[i]? with
 |none=>rw[q] at hd;cases hd
 |some j=>
  rw[q] at hd;cases hd
  have hlt:i<n:=by
   have:=(Ky.mp q).1;simpa using this
  have hj:j=i:=by
   rw[Mg hlt] at q;cases q;rfl
  subst hj;refine⟨hlt,λx H' hy=>?_⟩;obtain⟨rfl,rfl⟩:=hy;exact⟨Same.refl _,by unfold Rp;rfl⟩
end
noncomputable def SndI(X:Cx)(f:Ro->Option (List Nat×List D))(tg iter:Expr):Prop:=∀ρ bs ds,f ρ=some (bs,ds)->∀g σ H R,SE X.K g ρ σ H->
 (∀J s H1,Same H H1->jb X.K J s ds->s.P X.K g H1->s.from g H bs->R J H1)->wI X tg iter σ H R
noncomputable def vd:Kd->List Nat
 |.bo i _=>[i]
 |_=>[]
noncomputable def gP(a:Option KD):Option (List Nat×List D):=match a with
 |some (k,.nd .lst ds)=>if ip k ds=true then some (vd k,ds) else none
 |some (_,.scr ns)=>some ([],ns.map D.int)
 |_=>none
noncomputable def jc(a:Option KD):Option (List Nat×List D):=match a with
 |some (k,.nd .tup ds)=>if ip k ds=true then some ([],ds) else none
 |a=>gP a
noncomputable def pF(a:Option KD):Option (List Nat×List D):=(gP a).map λp=>(p.1,p.2.mapIdx λi d=>D.tup [.int i,d])
noncomputable def ve(xs ys:List D):List D:=List.zipWith (λx y=>D.tup [x,y]) xs ys
noncomputable def yw(a b:Option KD):Option (List Nat×List D):=match gP a with
 |some (bs,xs)=>(match gP b with|some (bs',ys)=>some (bs++bs',ve xs ys)|none=>none)
 |none=>none
noncomputable def eh(i j:Int):Bool:=decide (-(2^62)<=i)&&decide (i<2^62)&&decide (-(2^62)<=j)&&decide (j<2^62)&&decide (j-i<=100000)
noncomputable def cb(i j:Int):List D:=(KG (j-i).toNat).map λ(k:Nat)=>D.int (i+(k:Int))
noncomputable def gQ(a b:Option KD):Option (List Nat×List D):=match a,b with
 |some (_,.int i),some (_,.int j)=>if eh i j then some ([],cb i j) else none
 |_,_=>none
noncomputable def jQ:Expr->Bool
 |.Tuple ..=>true
 |_=>false
section
variable {X:Cx} {Γ:gH} {c:Cz}
theorem VR.scrK{g:Gh}{ns:List Int}(h:VR K g H H1 k (.scr ns) v):∃a,v=.ref a/\((g a=none/\Rd H1 a (.lst (ns.map V.int)))\/DV K a (ns.map V.int)):=by
 have key:∀{S:Pr},(∀b,g b≠none->S b)->Rp K H1 S (.scr ns) v->∃a,v=.ref a/\((g a=none/\Rd H1 a (.lst (ns.map V.int)))\/DV K a (ns.map V.int)):=λhs r=>by
  unfold Rp at r;obtain⟨a,e,r⟩:=r;refine⟨a,e,r.imp (λr=>⟨?_,r.2⟩) id⟩
  cases q:g a with
  |none=>rfl
  |some i=>exact absurd (hs a (by rw[q];simp)) r.1
 obtain⟨F,h1,h2⟩:=h
 cases k with
 |sh=>exact key (λb z=>.inl z) h2.2
 |fr k=>have h2:Tr _ _ _ _ _ _ _:=h2;unfold Tr at h2;exact key (λb z=>.inl z) h2.2
 |bo i k=>obtain⟨_,F0,_,h4⟩:=h2;unfold Tr at h4;exact key (λb z=>.inl z) h4.2
theorem HI{g:Gh}{hd:Hd}(hm:hd.mu=true)(m:MuOk H (Sg g))(s1:Same H H1)(h:VR K g H H1 k (.nd hd ds) (.ref a)):g a=none\/∃i∈vd k,g a=some (some i):=by
 have nn:∀{S:Pr},(∀b,g b≠none->S b)->¬S a->g a=none:=λhs n=>by
  cases q:g a with
  |none=>rfl
  |some i=>exact absurd (hs a (by rw[q];simp)) n
 cases k with
 |sh=>
  left;obtain⟨F,h1,h2,h3⟩:=h;obtain⟨a',o',xs',e1,n1,_⟩:=h3.nd;cases e1;exact nn (λb z=>.inl z) n1
 |fr k=>
  left;obtain⟨a',o',xs',e1,n1,_⟩:=(h.sh rfl m s1).nd;cases e1;exact nn (λb z=>z) n1
 |bo i k=>
  obtain⟨F,h1,h2,F0,h3,h4⟩:=h
  cases k with
  |fz=>
   left;obtain⟨a',o',xs',e1,n1,_⟩:=h4.fz_inv.2.nd;cases e1;exact nn (λb z=>.inl z) n1
  |own es r=>
   right;unfold Tr at h4;obtain⟨a',o',xs',F',e1,_,_,_,_,hF,_⟩:=h4;cases e1;exact⟨i,K0.mpr rfl,h3 a ((hF a).mpr (.inl ⟨hm,rfl⟩))⟩
theorem eU{ds:List D}(m:MuOk H (Sg g))(s1:Same H H1)(h:VR K g H H1 k d v)(e:gP (some (k,d))=some (bs,ds)) :
  ∃a s,v=.ref a/\(∃xs,SqL K H1 a xs)/\jb K (Db K a) s ds/\jb K (G.Gp K a) s (ds.mapIdx λi d=>D.tup [.int i,d])/\s.P K g H1/\s.from g H bs:=by
 unfold gP at e;split at e
 ·rename_i k' ds' e';cases e';split at e
  ·rename_i hk;cases e;obtain⟨a,o,us,rfl,g1,q1,rr⟩:=h.items hk m s1;cases(show o=_ from q1);refine⟨a,.l a ds,rfl,⟨us,.of g1⟩,Bq,Br,⟨us,.of g1,rr⟩,HI rfl m s1 h⟩
  ·cases e
 ·rename_i k' ns e';cases e';cases e;obtain⟨a,rfl,q⟩:=h.scrK;rcases q with⟨q1,q2⟩|q
  ·exact⟨a,.l a _,rfl,⟨_,.inl q2⟩,Bq,Br,⟨_,.inl q2,RpL.ints ns⟩,.inl q1⟩
  ·refine⟨a,.non,rfl,⟨_,.inr q⟩,λi g' H' _ m'=>Bq i g' H' ⟨_,.inr q,RpL.ints ns⟩ m',λi g' H' _ m'=>Br i g' H' ⟨_,.inr q,RpL.ints ns⟩ m',trivial,trivial⟩
 ·cases e
theorem Ex{fa:Ro->Option KD}{tg e:Expr}(ha:SndE X fa e):SndI X (λρ=>jc (fa ρ)) tg e:=by
 intro ρ bs ds h g σ H R se q;dsimp only at h
 cases ea:fa ρ with
 |none=>rw[ea] at h;cases h
 |some kd=>
  obtain⟨k,d⟩:=kd;rw[ea] at h;by_cases hx:∃x,d=.str x
  ·obtain⟨x,rfl⟩:=hx;cases h
  by_cases ht:∃ds',d=.tup ds'
  ·obtain⟨ds',rfl⟩:=ht;simp only[jc] at h;split at h
   ·rename_i hk;cases h;refine gC (ub au) (ha ρ k _ ea g σ H _ se λv H1 s1 r1=>?_);obtain⟨a,o,us,rfl,g1,q1,rr⟩:=r1.items hk se.mu s1;cases(show o=_ from q1);refine⟨a,rfl,⟨us,.of g1⟩,q _ (.t a ds) H1 s1 Ew ⟨us,.of g1,rr⟩ ?_⟩
    cases q2:g a with
    |none=>exact q2
    |some i=>
     obtain⟨o,e1,n⟩:=se.mu.same s1 a (by rw[Sg,q2];simp);rw[g1] at e1;cases e1;exact absurd rfl (n us)
   ·cases h
  ·have h':gP (some (k,d))=some (bs,ds):=by
    cases d with
    |nd hd ds'=>cases hd with
     |tup=>exact absurd ⟨ds',rfl⟩ ht
     |_=>exact h
    |str x=>exact absurd ⟨x,rfl⟩ hx
    |_=>exact h
   refine gC (qu au) (ha ρ k d ea g σ H _ se λv H1 s1 r1=>?_);obtain⟨a,s,rfl,h1,h2,_,h3,h4⟩:=eU se.mu s1 r1 h';exact⟨a,rfl,h1,q _ s H1 s1 h2 h3 h4⟩
theorem Ey(O:al X Γ c){fa:Ro->Option KD}{tg e:Expr}{p pos:Pos}(hg:d8 c.sc "enumerate" = true)(hn:ad e=true)(ht:jQ tg=true)(ha:SndE X fa e):SndI X (λρ=>pF (fa ρ)) tg (.Call (.Name "enumerate" p) [e] [] pos):=by
 intro ρ bs ds h g σ H R se q;dsimp only at h
 cases ea:fa ρ with
 |none=>rw[ea] at h;cases h
 |some kd=>
  obtain⟨k,d⟩:=kd;rw[ea] at h;unfold pF at h
  cases h':gP (some (k,d)) with
  |none=>rw[h'] at h;cases h
  |some r=>
   obtain⟨bs',ds'⟩:=r;rw[h'] at h;cases h
   cases tg with
   |Tuple es kk tp=>
    refine gC (G.xX (bC O hg) (O.tab.bl _ (by simp[aq])) (a7 au cF (ac hn)) (ac hn)) (ha ρ _ _ ea g σ H _ se λv H1 s1 r1=>?_);obtain⟨a,s,rfl,h1,_,h2,h3,h4⟩:=eU se.mu s1 r1 h';exact⟨a,rfl,h1,q _ s H1 s1 h2 h3 h4⟩
   |_=>exact absurd ht (by simp[jQ])
theorem Bt(O:al X Γ c){fa:Ro->Option KD}{tg e:Expr}{p pos:Pos}(hg:d8 c.sc "range" = true)(hn:ad e=true)(ha:SndE X fa e):SndI X (λρ=>gQ (some (.sh,.int 0)) (fa ρ)) tg (.Call (.Name "range" p) [e] [] pos):=by
 intro ρ bs ds h g σ H R se q;dsimp only[gQ] at h;split at h
 ·rename_i k1 i k2 j e1 ea;cases e1;split at h
  ·rename_i hr;simp only[eh,Kn,decide_eq_true_eq] at hr;cases h;refine gC (kW (bC O hg) (O.tab.bl _ (by simp[aq])) (a7 au cF (ac hn)) (ac hn)) (ha ρ _ _ ea g σ H _ se λv H1 s1 r1=>?_);obtain rfl:=r1.rd.int;refine⟨j,rfl,hr.1.1.2,hr.1.2,q _ .non H1 s1 ?_ trivial trivial⟩;unfold cb;rw[M5];exact Bs 0 _
  ·cases h
 ·cases h
theorem Bu(O:al X Γ c){fa fb:Ro->Option KD}{tg e e2:Expr}{p pos:Pos}(hg:d8 c.sc "range" = true)(hn:ad e=true)(hn2:ad e2=true)(ha:SndE X fa e)(hb:SndE X fb e2):SndI X (λρ=>gQ (fa ρ) (fb ρ)) tg (.Call (.Name "range" p) [e,e2] [] pos):=by
 intro ρ bs ds h g σ H R se q;dsimp only[gQ] at h;split at h
 ·rename_i k1 i k2 j ea eb;split at h
  ·rename_i hr;simp only[eh,Kn,decide_eq_true_eq] at hr;cases h;refine gC (sj (bC O hg) (O.tab.bl _ (by simp[aq])) (a7 au (a7 au cF (ac hn2)) (ac hn)) (by rw[ac hn,ac hn2];rfl) (ac hn2)) ?_;refine two ha hb ea eb se λx y H1 s1 rx ry=>?_;obtain rfl:=rx.rd.int;obtain rfl:=ry.rd.int;exact⟨i,j,rfl,⟨hr.1.1.1.1,hr.1.1.1.2,hr.1.1.2,hr.1.2⟩,q _ .non H1 s1 (Bs i _) trivial trivial⟩
  ·cases h
 ·cases h
theorem Bv(h1:jb K (Db K a) s xs)(h2:jb K (Db K b) u ys):jb K (G.Hu K a b) (.two s u) (ve xs ys):=by
 intro i g H hp m;have hp:s.P K g H/\u.P K g H:=hp;obtain⟨s1,g1⟩:=h1 i g H hp.1 m;obtain⟨s2,g2⟩:=h2 i g H hp.2 m
 have q1:∃us,SqL K H a us/\(xs.length<=i->us.length<=i):=by
  by_cases hi:xs.length<=i
  ·obtain⟨us,e1,e2⟩:=s1 hi;exact⟨us,e1,λ_=>e2⟩
  ·obtain⟨⟨us,x,e1,_⟩,_⟩:=g1 _ (Ko (Nk hi));exact⟨us,e1,λz=>absurd z hi⟩
 have q2:∃us,SqL K H b us/\(ys.length<=i->us.length<=i):=by
  by_cases hi:ys.length<=i
  ·obtain⟨us,e1,e2⟩:=s2 hi;exact⟨us,e1,λ_=>e2⟩
  ·obtain⟨⟨us,x,e1,_⟩,_⟩:=g2 _ (Ko (Nk hi));exact⟨us,e1,λz=>absurd z hi⟩
 obtain⟨us,a1,a2⟩:=q1;obtain⟨vs,b1,b2⟩:=q2;refine⟨λhi=>⟨us,vs,a1,b1,?_⟩,λd hd=>?_⟩
 ·unfold ve at hi;rw[List.length_zipWith] at hi;by_cases hx:xs.length<=i
  ·exact .inl (a2 hx)
  ·exact .inr (b2 (by lia))
 ·unfold ve at hd;rw[List.getElem?_zipWith] at hd
  cases ex:xs[i]? with
  |none=>rw[ex] at hd;simp at hd
  |some x=>
   cases ey:ys[i]? with
   |none=>rw[ex,ey] at hd;simp at hd
   |some y=>
    rw[ex,ey] at hd;simp only[Option.some.injEq] at hd;subst hd;obtain⟨⟨us',x',e1,e2⟩,y1⟩:=g1 x ex;obtain⟨⟨vs',y',e3,e4⟩,y2⟩:=g2 y ey;refine⟨⟨us',vs',x',y',e1,e3,e2,e4⟩,λz H' hy=>?_⟩;obtain⟨p,v,w,hp',rfl,rfl,hv,hw⟩:=hy;have r1:=(y1 v H ⟨rfl,hv⟩).2;have r2:=(y2 w H ⟨rfl,hw⟩).2;refine⟨af hp',?_⟩;unfold Rp;refine⟨p,_,_,rfl,λz=>?_,aE,rfl,.cons (r1.same (af hp')) (.cons (r2.same (af hp')) .nil)⟩;obtain⟨o,q,_⟩:=m p z;rw[hp'] at q;cases q
theorem Ez(O:al X Γ c){fa fb:Ro->Option KD}{tg e e2:Expr}{p pos:Pos}(hg:d8 c.sc "zip" = true)(hn:ad e=true)(hn2:ad e2=true)(ht:jQ tg=true)(ha:SndE X fa e)(hb:SndE X fb e2):SndI X (λρ=>yw (fa ρ) (fb ρ)) tg (.Call (.Name "zip" p) [e,e2] [] pos):=by
 intro ρ bs ds h g σ H R se q;dsimp only[yw] at h
 cases ea:fa ρ with
 |none=>rw[ea] at h;cases h
 |some kd=>
  obtain⟨k,d⟩:=kd
  cases eb:fb ρ with
  |none=>
   rw[ea,eb] at h;split at h
   ·cases h
   ·cases h
  |some kd2=>
   obtain⟨k2,d2⟩:=kd2;rw[ea,eb] at h;split at h
   ·rename_i bs1 xs h1;split at h
    ·rename_i bs2 ys h2;cases h
     cases tg with
     |Tuple es kk tp=>
      refine gC (G.A3 (bC O hg) (O.tab.bl _ (by simp[aq])) (a7 au (a7 au cF (ac hn2)) (ac hn)) (by rw[ac hn,ac hn2];rfl) (ac hn2)) ?_;refine two ha hb ea eb se λx y H1 s1 rx ry=>?_;obtain⟨a,s,rfl,l1,i1,_,p1,f1⟩:=eU se.mu s1 rx h1;obtain⟨b,u,rfl,l2,i2,_,p2,f2⟩:=eU se.mu s1 ry h2;exact⟨a,b,rfl,l1,l2,q _ (.two s u) H1 s1 (Bv i1 i2) ⟨p1,p2⟩ ⟨f1.from_mono λi z=>LS _ z,f2.from_mono λi z=>KH _ z⟩⟩
     |_=>exact absurd ht (by simp[jQ])
    ·cases h
   ·cases h
noncomputable def sO:D->Option String
 |.non=>some "NoneType"
 |.bl _=>some "bool"
 |.int _=>some "int"
 |.str _=>some "str"
 |.scr _=>none
 |.nd .lst _=>some "list"
 |.nd .tup _=>some "tuple"
 |.nd (.dic 0 _) _=>some "dict"
 |_=>none
noncomputable def eV(T:Str)(d:D):Option Bool:=match sO d with
 |some t=>if T="int" then some (t=="int" || t=="bool") else if T="bool" then some (t=="bool") else if T="list" then some (t=="list") else if T="tuple" then some (t=="tuple") else if T="str" then some (t=="str") else if T="dict" then some (t=="dict") else none
 |none=>none
theorem EA{t:String}(h:Rp K H S d v)(e:sO d=some t):kC K H v (.type t):=by
 cases d with
 |non=>obtain rfl:=h.non;cases e;exact .non
 |bl b=>obtain rfl:=h.bl;cases e;exact .bl b
 |int b=>obtain rfl:=h.int;cases e;exact .int b
 |str b=>obtain rfl:=h.str;cases e;exact .str b
 |scr b=>cases e
 |nd hd ds=>
  obtain⟨a,o,xs,rfl,_,g,q,r⟩:=h.nd
  cases hd with
  |lst=>cases e;cases(show o=_ from q);exact .lst g
  |tup=>cases e;cases(show o=_ from q);exact .tup g
  |dic t ks=>
   cases t with
   |succ t=>cases e
   |zero=>
    cases e;obtain⟨_,kvs,rfl,_⟩:=q;exact .dK g
  |obj c ns=>cases e
noncomputable def cu:List Str:=["int","bool","list","tuple","str","dict"]
noncomputable def jd:List String:=["NoneType","bool","int","str","list","tuple","dict"]
theorem sP{p:String->Prop}(a:p "NoneType")(b:p "bool")(c:p "int")(d:p "str")(e:p "list")(f:p "tuple")(g:p "dict"):∀t∈jd,p t:=by
 intro t ht;simp only[jd,Ku,KO,or_false] at ht
 rcases ht with rfl|rfl|rfl|rfl|rfl|rfl|rfl<;>assumption
theorem yx{t:String}(ht:sO d=some t):t∈jd:=by
 cases d with
 |nd hd ds=>cases hd with
  |dic tt ks=>cases tt<;>cases ht<;>simp[jd]
  |_=>cases ht<;>simp[jd]
 |_=>cases ht<;>simp[jd]
theorem Bw:∀t∈jd,Ls K (.type t) (.type "int")=some (t=="int" || t=="bool"):=sP (by with_unfolding_all rfl) (by with_unfolding_all rfl) (by with_unfolding_all rfl) (by with_unfolding_all rfl) (by with_unfolding_all rfl) (by with_unfolding_all rfl) (by with_unfolding_all rfl)
theorem yy:∀t∈jd,Ls K (.type t) (.type "bool")=some (t=="bool"):=sP (by with_unfolding_all rfl) (by with_unfolding_all rfl) (by with_unfolding_all rfl) (by with_unfolding_all rfl) (by with_unfolding_all rfl) (by with_unfolding_all rfl) (by with_unfolding_all rfl)
theorem yz:∀t∈jd,Ls K (.type t) (.type "list")=some (t=="list"):=sP (by with_unfolding_all rfl) (by with_unfolding_all rfl) (by with_unfolding_all rfl) (by with_unfolding_all rfl) (by with_unfolding_all rfl) (by with_unfolding_all rfl) (by with_unfolding_all rfl)
theorem vf:∀t∈jd,Ls K (.type t) (.type "tuple")=some (t=="tuple"):=sP (by with_unfolding_all rfl) (by with_unfolding_all rfl) (by with_unfolding_all rfl) (by with_unfolding_all rfl) (by with_unfolding_all rfl) (by with_unfolding_all rfl) (by with_unfolding_all rfl)
theorem Bx:∀t∈jd,Ls K (.type t) (.type "str")=some (t=="str"):=sP (by with_unfolding_all rfl) (by with_unfolding_all rfl) (by with_unfolding_all rfl) (by with_unfolding_all rfl) (by with_unfolding_all rfl) (by with_unfolding_all rfl) (by with_unfolding_all rfl)
theorem yA:∀t∈jd,Ls K (.type t) (.type "dict")=some (t=="dict"):=sP (by with_unfolding_all rfl) (by with_unfolding_all rfl) (by with_unfolding_all rfl) (by with_unfolding_all rfl) (by with_unfolding_all rfl) (by with_unfolding_all rfl) (by with_unfolding_all rfl)
theorem yB{T:Str}{b:Bool}(h:eV T d=some b):∃t T',sO d=some t/\T∈cu/\bootBuiltins T=some (.type T')/\Ls K (.type t) (.type T')=some b:=by
 unfold eV at h
 cases ht:sO d with
 |none=>rw[ht] at h;cases h
 |some t=>
  rw[ht] at h;have hm:=yx ht;dsimp only at h;by_cases e0:T="int"
  ·subst e0;rw[if_pos rfl] at h;exact⟨t,"int",rfl,by simp[cu],by rfl,(Bw t hm).trans h⟩
  by_cases e1:T="bool"
  ·subst e1;rw[if_neg (by decide),if_pos rfl] at h;exact⟨t,"bool",rfl,by simp[cu],by rfl,(yy t hm).trans h⟩
  by_cases e2:T="list"
  ·subst e2;rw[if_neg (by decide),if_neg (by decide),if_pos rfl] at h;exact⟨t,"list",rfl,by simp[cu],by rfl,(yz t hm).trans h⟩
  by_cases e3:T="tuple"
  ·subst e3;rw[if_neg (by decide),if_neg (by decide),if_neg (by decide),if_pos rfl] at h;exact⟨t,"tuple",rfl,by simp[cu],by rfl,(vf t hm).trans h⟩
  by_cases e4:T="str"
  ·subst e4;rw[if_neg (by decide),if_neg (by decide),if_neg (by decide),if_neg (by decide),if_pos rfl] at h;exact⟨t,"str",rfl,by simp[cu],by rfl,(Bx t hm).trans h⟩
  by_cases e5:T="dict"
  ·subst e5;rw[if_neg (by decide),if_neg (by decide),if_neg (by decide),if_neg (by decide),if_neg (by decide),if_pos rfl] at h;exact⟨t,"dict",rfl,by simp[cu],by rfl,(yA t hm).trans h⟩
  rw[if_neg e0,if_neg e1,if_neg e2,if_neg e3,if_neg e4,if_neg e5] at h;cases h
noncomputable def pG(T:Str)(a:Option KD):Option KD:=match a with|some (_,d)=>bV (eV T d)|none=>none
theorem EB(O:al X Γ c){fa:Ro->Option KD}{a:Expr}{T:Str}{p p2 pos:Pos}(hg:d8 c.sc "isinstance" = true)(hgT:d8 c.sc T=true)(hn:ad a=true)(ha:SndE X fa a):SndE X (λρ=>pG T (fa ρ)) (.Call (.Name "isinstance" p) [a,.Name T p2] [] pos):=by
 intro ρ kd d h g σ H Q se q;dsimp only[pG] at h;split at h
 ·rename_i ka da ea
  cases hi:eV T da with
  |none=>rw[hi] at h;cases h
  |some b=>
   rw[hi] at h;cases h;obtain⟨t,T',h1,h2,h3,h4⟩:=yB (K:=X.K) hi
   have hT:T∈aq/\T≠"__name__"/\(T==("__debug__":Str))=false:=by
    simp only[cu,Ku,KO,or_false] at h2
    rcases h2 with rfl|rfl|rfl|rfl|rfl|rfl<;>exact⟨by simp[aq],by decide,by decide⟩
   refine ak (cn nI (bC O hg) (O.tab.bl _ (by simp[aq])) PyProof.Rows.boot_isinstance (a7 au (a7 (xL (v:=.ty T') (bC O hgT) (O.tab.bl _ hT.1) h3 rfl hT.2.1 hT.2.2) cF (ac rfl)) (ac hn)) (by decide) (by decide) (ac hn) (a5 rfl)) ?_;exact ha ρ _ _ ea g σ H _ se λv H1 s1 r1=>⟨v,T',_,b,rfl,EA r1.rd h1,h4,q _ H1 s1 yb⟩
 ·cases h
end
end J
namespace J
open PySem PySem.Spec L2
mutual
noncomputable def iA:D->Ow->Bool
 |.nd _ ds,.own es r=>jR ds es r
 |d,_=>pf d
noncomputable def jR:List D->List Ow->Ow->Bool
 |[],_,_=>true
 |d::ds,es,r=>iA d (es.headD r)&&jR ds es.tail r
end
section
variable {K:Km} {H H' H0:Hp} {S S':Pr} {g:Gh}
mutual
theorem Tr.clean(m:MuOk H S'):∀{d:D} {k:Ow} {v:V} {F:Pr},iA d k=true->Tr K H S d k v F->Tr K H S' d k v F
 |.non,_,_,_,c,h=>by unfold Tr at h⊢;exact⟨h.1,h.2.im m rfl⟩
 |.bl _,_,_,_,c,h=>by unfold Tr at h⊢;exact⟨h.1,h.2.im m rfl⟩
 |.int _,_,_,_,c,h=>by unfold Tr at h⊢;exact⟨h.1,h.2.im m rfl⟩
 |.str _,_,_,_,c,h=>by unfold Tr at h⊢;exact⟨h.1,h.2.im m rfl⟩
 |.scr ns,k,_,_,c,h=>by simp[iA,pf] at c
 |.nd hd ds,.fz,_,_,c,h=>by
  have c:pf (.nd hd ds)=true:=by simpa[iA] using c
  unfold Tr at h⊢;exact⟨h.1,h.2.im m c⟩
 |.nd hd ds,.own es r,v,F,c,h=>by
  have c:jR ds es r=true:=by simpa[iA] using c
  unfold Tr at h⊢;obtain⟨a,o,xs,F',e,q1,q2,n1,n2,hF,t⟩:=h;refine⟨a,o,xs,F',e,q1,q2,n1,λhm z=>?_,hF,TrL.clean m c t⟩;obtain⟨o',e',n⟩:=m a z;rw[q1] at e';cases e'
  cases hd with
  |tup=>exact n _ q2
  |_=>exact absurd hm (by simp[Hd.mu])
theorem TrL.clean(m:MuOk H S'):∀{ds:List D} {es:List Ow} {r:Ow} {vs:List V} {F:Pr},jR ds es r=true->TrL K H S ds es r vs F->TrL K H S' ds es r vs F
 |[],_,_,_,_,_,h=>by unfold TrL at h⊢;exact h
 |d::ds,es,r,vs,F,c,h=>by
  simp only[jR,Kn] at c;unfold TrL at h⊢;obtain⟨y,ys,F1,F2,e,hF,dj,h1,h2⟩:=h;exact⟨y,ys,F1,F2,e,hF,dj,Tr.clean m c.1 h1,TrL.clean m c.2 h2⟩
end
noncomputable def mt:Kd->D->Bool
 |.sh,d=>pf d
 |.fr k,d=>iA d k
 |.bo _ _,_=>false
theorem VR.clean(c:mt kd d=true)(m:MuOk H0 (Sg g))(s:Same H0 H)(h:VR K g' H0 H kd d v):VR K g H0 H kd d v:=by
 obtain⟨F,h1,h2⟩:=h;have mm:MuOk H (Sx g F):=λb z=>z.elim (λz=>m.same s b z) λz=>h2.dom b z;refine⟨F,h1,?_⟩
 cases kd with
 |sh=>exact⟨h2.1,h2.2.im mm c⟩
 |fr k=>exact Tr.clean mm c h2
 |bo i k=>cases c
end
noncomputable def bp:Kd->Bool
 |.bo _ _=>true
 |_=>false
noncomputable def By(φ:Fn)(kds:List KD):Option KD:=
 match φ (kds.map (·.2)) with
 |some (kd,d)=>if(kds.all λp=>ph p.1 p.2)=true then(if bp kd=true then none else some (kd,d)) else if mt kd d=true then some (kd,d) else none
 |none=>none
noncomputable def vg(φ:Option Fn)(a:Option (List KD)):Option KD:=match φ,a with|some φ,some kds=>By φ kds|_,_=>none
section
variable {X:Cx} {Γ:gH} {c:Cz}
theorem qR(K:Km){φ:Fn}{kds:List KD}{kd:Kd}{d:D}(h:By φ kds=some (kd,d)){g:Gh}{H0 H:Hp}{vs:List V}{Q:VK}{E:XK}(m:MuOk H0 (Sg g))(s:Same H0 H)(r:VRs K g H0 H kds vs)(q:∀v H',Same H H'->VR K g H0 H' kd d v->Q v H'):xG K φ vs H Q E:=by
 unfold By at h;split at h
 ·rename_i kd' d' e';split at h
  ·rename_i ok;split at h
   ·cases h
   ·cases h;exact⟨_,g,_,_,r.sh ok m s,m.same s,e',λv H2 s2 r2=>q v H2 s2 (r2.older s)⟩
  ·split at h
   ·rename_i cl;cases h;exact⟨_,λ_=>none,_,_,r.rd.go (λb o n e=>⟨e,λz=>z rfl⟩),λa z=>absurd rfl z,e',λv H2 s2 r2=>q v H2 s2 ((r2.clean cl (m.same s) s2).older s)⟩
   ·cases h
 ·cases h
theorem HJ(O:al X Γ c){x:Str}{e:Expr}{es:List Expr}{p pos:Pos}{fa:Ro->Option (List KD)}(hf:jI X fa (e::es))(hg:d8 c.sc x=true)(n1:ad e=true)(n2:es.all ad=true):SndE X (λρ=>vg (Γ.fn x) (fa ρ)) (.Call (.Name x p) (e::es) [] pos):=by
 intro ρ kd d h g σ H Q se q;dsimp only[vg] at h;split at h
 ·rename_i φ kds hφ he;refine ak (D6 (t:=wA X (e::es)) (λ_ _ _ _=>bn) (O.tab.fn x φ hφ) (bC O hg) cq (ac n1) (a5 n2)) (hf ρ _ he g σ H _ se λvs H1 s1 r1=>?_);exact qR X.K h se.mu s1 r1 λv H2 s2 r2=>q v H2 (s1.trans s2) r2
 ·cases h
theorem EC(O:al X Γ c){x:Str}{p pos:Pos}(hg:d8 c.sc x=true):SndE X (λ_=>vg (Γ.fn x) (some [])) (.Call (.Name x p) [] [] pos):=by
 intro ρ kd d h g σ H Q se q;dsimp only[vg] at h;split at h
 ·rename_i φ kds hφ he;cases he;refine ak (A6 (O.tab.fn x φ hφ) (bC O hg)) ?_;exact qR (E:=λ_ _ _=>False) X.K h se.mu (Same.refl H) VRs.nil λv H2 s2 r2=>q v H2 s2 r2
 ·cases h
end
inductive IT where
 |nm (i:Nat)
 |tp (ts:List IT)
mutual
noncomputable def m7:IT->D->Option (List (Nat×D))
 |.nm i,d=>some [(i,d)]
 |.tp ts,.nd .tup ds=>pH ts ds
 |_,_=>none
noncomputable def pH:List IT->List D->Option (List (Nat×D))
 |[],[]=>some []
 |t::ts,d::ds=>match m7 t d,pH ts ds with
  |some a,some b=>some (a++b)
  |_,_=>none
 |_,_=>none
end
noncomputable def Df(d:D):Sl:=⟨false,.fz,d⟩
noncomputable def setAll:List (Nat×D)->Ro->Ro
 |[],ρ=>ρ
 |(i,d)::r,ρ=>setAll r (ρ.set i (some (Df d)))
noncomputable def vh(f:Expr->Option IT):List Expr->Option (List IT)
 |[]=>some []
 |e::es=>match f e,vh f es with
  |some a,some b=>some (a::b)
  |_,_=>none
noncomputable def oV(c:Cz):Nat->Expr->Option IT
 |0,_=>none
 |n+1,e=>match e with
  |.Name x _=>if l7 c x then(bu x c.N).map .nm else none
  |.Tuple es _ _=>if es.all ad then(vh (oV c n) es).map .tp else none
  |_=>none
theorem SE.set{ρ:Ro}{σ:L2.St}(h:SE K g ρ σ H)(i:Nat){d:D}{v:V}(r:Rp K H (Sg g) d v):SE K g (ρ.set i (some (Df d))) (σ.set i (some v)) H:=by
 refine⟨λj sl e=>?_,h.mu,by simp[h.len]⟩;by_cases hj:j=i
 ·subst hj
  have hlt:j<ρ.length:=by
   have:=(Ky.mp e).1;simpa using this
  rw[KM hlt] at e;cases e;exact⟨v,_,KM (by rw[<- h.len];exact hlt),λb z=>z.elim,.fz r⟩
 ·rw[KJ (Ne.symm hj)] at e⊢;exact h.slot j sl e
theorem SE.pass{ρ:Ro}{σ:L2.St}(h:SE K g ρ σ H)(i:Nat){v:V}(n:∀sl,ρ[i]?≠some (some sl)):SE K g ρ (σ.set i (some v)) H:=by
 refine⟨λj sl e=>?_,h.mu,by simp[h.len]⟩;have hj:j≠i:=λz=>n sl (z▸e);rw[KJ (Ne.symm hj)];exact h.slot j sl e
noncomputable def iB:List (Nat×V)->L2.St->L2.St
 |[],σ=>σ
 |(i,v)::r,σ=>iB r (σ.set i (some v))
theorem nM:∀(a b:List (Nat×V)) (σ:L2.St),iB (a++b) σ=iB b (iB a σ)
 |[],_,_=>rfl
 |(i,v)::a,b,σ=>nM a b _
section
variable {X:Cx} {Γ:gH} {c:Cz}
noncomputable def RpP(K:Km)(H:Hp)(S:Pr):List (Nat×D)->List (Nat×V)->Prop
 |[],vs=>vs=[]
 |(i,d)::r,vs=>∃v ws,vs=(i,v)::ws/\Rp K H S d v/\RpP K H S r ws
theorem RpP.app:∀{a b:List (Nat×D)} {x y:List (Nat×V)},RpP K H S a x->RpP K H S b y->RpP K H S (a++b) (x++y)
 |[],_,_,_,h,g=>by rw[(show _=[] from h)];exact g
 |(i,d)::a,b,_,y,h,g=>by
  obtain⟨v,ws,rfl,h1,h2⟩:=h;exact⟨v,ws++y,rfl,h1,RpP.app h2 g⟩
mutual
noncomputable def z3(K:Km):IT->TG
 |.nm i=>jA i
 |.tp ts=>Dz K ts.length (nN K ts)
noncomputable def nN(K:Km):List IT->t0
 |[]=>AI
 |t::ts=>t5 (z3 K t) (nN K ts)
end
mutual
theorem jn:∀{t:IT} {d:D} {ps:List (Nat×D)} {v:V} {σ:L2.St} {Q:L2.St->Hp->Prop},m7 t d=some ps->Rp K H S d v->(∀vs,RpP K H S ps vs->Q (iB vs σ) H)->z3 K t v σ H Q
 |.nm i,d,ps,v,σ,Q,ht,r,q=>by
  simp only[m7] at ht;cases ht;simp only[z3];exact q [(i,v)] ⟨v,[],rfl,r,rfl⟩
 |.tp ts,d,ps,v,σ,Q,ht,r,q=>by
  cases d with
  |nd hd ds=>
   cases hd with
   |tup=>
    simp only[m7] at ht;obtain⟨a,o,xs,rfl,_,g1,q1,rl⟩:=r.nd;cases(show o=_ from q1);obtain⟨h1,h2⟩:=jS ht rl q;simp only[z3];exact⟨a,xs,rfl,.of g1,h2,h1⟩
   |_=>simp[m7] at ht
  |_=>simp[m7] at ht
theorem jS:∀{ts:List IT} {ds:List D} {ps:List (Nat×D)} {vs:List V} {σ:L2.St} {Q:L2.St->Hp->Prop},pH ts ds=some ps->RpL K H S ds vs->(∀ws,RpP K H S ps ws->Q (iB ws σ) H)->nN K ts vs σ H Q/\vs.length=ts.length
 |[],[],ps,vs,σ,Q,ht,r,q=>by
  simp only[pH] at ht;cases ht;simp only[nN];rw[r.nil_inv];exact⟨⟨rfl,q [] rfl⟩,rfl⟩
 |t::ts,d::ds,ps,vs,σ,Q,ht,r,q=>by
  simp only[pH] at ht;split at ht
  ·rename_i a b ha hb;cases ht;obtain⟨y,ys,rfl,r1,r2⟩:=r.cons_inv;simp only[nN];have len:=(jS (σ:=σ) (Q:=λ_ _=>True) hb r2 λ_ _=>trivial).2;refine⟨⟨y,ys,rfl,jn ha r1 λvs1 h1=>(jS hb r2 λvs2 h2=>?_).1⟩,by simp[len]⟩;have:=q (vs1++vs2) (h1.app h2);rw[nM] at this;exact this
  ·cases ht
 |[],_::_,ps,vs,σ,Q,ht,r,q=>by simp[pH] at ht
 |_::_,[],ps,vs,σ,Q,ht,r,q=>by simp[pH] at ht
end
theorem cG(h:ad e=true):assignEach (e::es) env=(false,assign e env)::assignEach es env:=by
 cases e<;>first|rfl|cases h
theorem qS(O:al X Γ c):∀(n:Nat) {e:Expr} {t:IT},oV c n e=some t->PG X e (z3 X.K t)
 |0,e,t,h=>by cases h
 |n+1,e,t,h=>by
  have ih:∀{e:Expr} {t:IT},oV c n e=some t->PG X e (z3 X.K t):=λh=>qS O n h
  have lst:∀{es:List Expr} {ts:List IT},es.all ad=true->vh (oV c n) es=some ts->AG X es (nN X.K ts)/\(assignEach es X.env).length=ts.length/\(assignEach es X.env).findIdx? (·.1)=none:=by
   intro es
   induction es with
   |nil=>intro ts _ h;cases h;simp only[nN];exact⟨qt,rfl,rfl⟩
   |cons e es ihe=>
    intro ts hn h;rw[LA,Kn] at hn;unfold vh at h;split at h
    ·rename_i a b ha hb;cases h;obtain⟨g1,g2,g3⟩:=ihe hn.2 hb;simp only[nN];refine⟨nc (ih ha) g1 (by rw[cG hn.1];rfl),by rw[cG hn.1,KS,g2];rfl,?_⟩;rw[cG hn.1,Lm];simp[g3]
    ·cases h
  unfold oV at h;split at h
  ·rename_i x p;split at h
   ·rename_i hl
    cases hi:bu x c.N with
    |none=>rw[hi] at h;cases h
    |some i=>
     rw[hi] at h;cases h;have l:=jJ O hl;simp only[z3];exact qp (i:=i) (by rw[O.N];exact O.nd) (by rw[O.N];exact bc hi) l.1 l.2
   ·cases h
  ·rename_i es k p;split at h
   ·rename_i hn
    cases hs:vh (oV c n) es with
    |none=>rw[hs] at h;cases h
    |some ts=>
     rw[hs] at h;cases h;obtain⟨g1,g2,g3⟩:=lst hn hs;simp only[z3];exact t6 O.calm g1 g2 g3
   ·cases h
  ·cases h
theorem SE.setAll{H:Hp}:∀{ps:List (Nat×D)} {vs:List (Nat×V)} {ρ:Ro} {σ:L2.St},RpP K H (Sg g) ps vs->SE K g ρ σ H->SE K g (setAll ps ρ) (iB vs σ) H
 |[],vs,ρ,σ,h,se=>by rw[(show vs=[] from h)];exact se
 |(i,d)::ps,vs,ρ,σ,h,se=>by
  obtain⟨v,ws,rfl,h1,h2⟩:=h;exact SE.setAll (ρ:=ρ.set i (some (Df d))) (vs:=ws) (σ:=σ.set i (some v)) h2 (se.set i h1)
noncomputable def c6(ps:List (Nat×D))(ρ:Ro):Bool:=ps.all λp=>match ρ[p.1]? with|some none=>true|_=>false
theorem SE.passAll{H:Hp}:∀{ps:List (Nat×D)} {vs:List (Nat×V)} {ρ:Ro} {σ:L2.St},RpP K H S ps vs->c6 ps ρ=true->SE K g ρ σ H->SE K g ρ (iB vs σ) H/\∀(j:Nat) sl,ρ[j]?=some (some sl)->(iB vs σ)[j]?=σ[j]?
 |[],vs,ρ,σ,h,_,se=>by rw[(show vs=[] from h)];exact⟨se,λ_ _ _=>rfl⟩
 |(i,d)::ps,vs,ρ,σ,h,hn,se=>by
  obtain⟨v,ws,rfl,h1,h2⟩:=h;simp only[c6,LA,Kn] at hn
  have ni:∀sl,ρ[i]?≠some (some sl):=λsl e=>by
   have:=hn.1;rw[e] at this;cases this
  obtain⟨a1,a2⟩:=SE.passAll h2 (by simpa[c6] using hn.2) (se.pass i (v:=v) ni);exact⟨a1,λj sl e=>(a2 j sl e).trans (KJ (λz=>ni sl (by rw[z];exact e)))⟩
end
end J
namespace J
open PySem PySem.Spec L2
noncomputable def Gh.re(m:Nat->Option Nat)(g:Gh):Gh:=λb=>match g b with
 |some (some i)=>some (m i)
 |x=>x
section
variable {K:Km} {H H':Hp} {g:Gh} {F F2:Pr} {m:Nat->Option Nat}
theorem nO(b:Addr):Sg (g.re m) b↔Sg g b:=by
 unfold Gh.re Sg
 cases h:g b with
 |none=>simp[h]
 |some x=>cases x<;>simp[h]
theorem iC:(g.plus F).plus F2=g.plus (λb=>F b\/F2 b):=by
 funext b;unfold Gh.plus;by_cases h2:F2 b
 ·simp[h2]
 ·by_cases h1:F b
  ·simp[h1]
  ·simp[h1,h2]
theorem aR(h:F b):g.plus F b=some none:=by
 unfold Gh.plus;rw[if_pos h]
theorem SE.upd(h:SE K g ρ σ H)(hp:g p=some none)(ho:∀xs,o≠.tup xs):SE K g ρ σ (upd H p o):=by
 have kk:∀b o',b≠p->H b=some o'->L2.upd H p o b=some o':=λb o' n e=>by rw[aj n];exact e
 refine⟨λi sl e=>?_,λb z=>?_,h.len⟩
 ·obtain⟨v,F,e1,e2,e3⟩:=h.slot i sl e;refine⟨v,F,e1,e2,e3.go (λb o' hb e=>kk b o' (λz=>?_) e) λ_ _ _ n=>n⟩;subst z;rcases hb with hb|hb
  ·exact hb (by rw[Sg,hp];simp)
  ·rw[e2 b hb] at hp;cases hp
 ·by_cases hb:b=p
  ·exact⟨o,by rw[hb];exact aE,ho⟩
  ·obtain⟨o',e,n⟩:=h.mu b z;exact⟨o',kk b o' hb e,n⟩
noncomputable def bP(ρ:Ro)(cap:List (Option Nat)):Ro:=cap.map λo=>o.bind λi=>(ρ[i]?).join
noncomputable def jT(cap:List (Option Nat))(i:Nat):Option Nat:=cap.findIdx? λo=>o==some i
noncomputable def li(cap:List (Option Nat)):Bool:=decide (cap.filterMap id).Nodup
theorem qT:∀{cap:List (Option Nat)} {j i:Nat},(cap.filterMap id).Nodup->cap[j]?=some (some i)->jT cap i=some j
 |[],j,i,_,e=>by simp at e
 |o::cap,0,i,hn,e=>by
  simp at e;subst e;simp[jT,Lm]
 |o::cap,j+1,i,hn,e=>by
  have e':cap[j]?=some (some i):=by simpa using e
  have hm:i∈cap.filterMap id:=Ml.mpr ⟨some i,KP e',rfl⟩
  have hno:(o==some i)=false:=by
   cases o with
   |none=>rfl
   |some k=>
    simp only[LB,id] at hn;have:=(Li.mp hn).1;simp only[beq_eq_false_iff_ne,ne_eq,Option.some.injEq];intro z;subst z;exact this hm
  have hn':(cap.filterMap id).Nodup:=by
   cases o with
   |none=>simpa using hn
   |some k=>simp only[LB,id] at hn;exact(Li.mp hn).2
  have ih:=qT hn' e';unfold jT at ih⊢;rw[Lm,hno,ih];rfl
theorem SE.cap(h:SE K g ρ σ H){cap:List (Option Nat)}(hc:li cap=true):SE K (g.re (jT cap)) (bP ρ cap) (dv σ cap) H:=by
 refine⟨λj sl e=>?_,λb z=>h.mu b ((nO b).mp z),by simp[bP,dv]⟩;unfold bP at e;unfold dv;rw[Kr] at e⊢
 cases q:cap[j]? with
 |none=>rw[q] at e;cases e
 |some o=>
  rw[q] at e
  cases o with
  |none=>cases e
  |some i=>
   have e':(ρ[i]?).join=some sl:=by simpa using e
   have e2:ρ[i]?=some (some sl):=by
    cases z:ρ[i]? with
    |none=>rw[z] at e';cases e'
    |some w=>rw[z] at e';have:w=some sl:=e';rw[this]
   obtain⟨v,F,g1,g2,g3⟩:=h.slot i sl e2;refine⟨v,F,by simp[g1],λb z=>?_,g3.go (λ_ _ _ h=>h) λb o _ n z=>n ((nO b).mp z)⟩;unfold Gh.re;rw[g2 b z];show some (jT cap i)=_;rw[qT (by simpa[li] using hc) q]
end
noncomputable def f9(scope sc:Scope):Scope:=
 { scope with names:=scope.names.map λ(n,k)=>if(k==.free&&sc.kind==.function&&sc.names.lookup n==some .cell) then(n,.cell) else(n,k) }
theorem yC{env:Env}(h:env.scope=sc):relabel scope env=f9 scope sc:=by
 subst h;rfl
noncomputable def aA(c:Cz)(scope:Scope):List (Option Nat):=scope.names.map λ(x,k)=>if k=.free then bu x c.N else none
noncomputable def ag(scope:Scope):List Str:=scope.names.map (·.1)
noncomputable def bx(c:Cz)(scope:Scope):Bool:=
 scope.kind==.function&&decide (ag scope).Nodup&&li (aA c scope)&&scope.names.all λ(x,k)=>(k != .free||c.sc.names.lookup x==some .cell||c.sc.names.lookup x==some .free)
theorem cU:∀{l:List (Str×NameKind)} {x:Str} {k:NameKind},(l.map (·.1)).Nodup->(x,k)∈l->l.lookup x=some k
 |(y,j)::r,x,k,hn,hm=>by
  rw[KL];rw[K6,Li] at hn;rcases Ku.mp hm with e|hm
  ·cases e;simp
  ·have:x≠y:=λz=>hn.1 (by rw[<- z];exact Lf.mpr ⟨(x,k),hm,rfl⟩);have e:(x==y)=false:=by simpa using this
   rw[e];exact cU hn.2 hm
theorem ge(O:al X Γ c)(h:bx c scope=true):jG X (ag scope) scope (aA c scope):=by
 simp only[bx,Kn,decide_eq_true_eq,Lc,beq_iff_eq] at h;obtain⟨⟨⟨h1,h2⟩,_⟩,h3⟩:=h;have hk:∀x,X.env.kindOf x=c.sc.names.lookup x:=λx=>by show X.env.scope.names.lookup x=_;rw[O.sc]
 have free:∀y∈scope.names,y.2=.free->X.env.kindOf y.1=some .cell\/X.env.kindOf y.1=some .free:=λy hy e=>by
  have:=h3 y hy;simp only[K8,bne_iff_ne,beq_iff_eq] at this;rw[hk];rcases this with(z|z)|z
  ·exact absurd e z
  ·exact .inl z
  ·exact .inr z
 refine⟨h1,λy hy e=>?_,λy hy e=>?_,free,by simp[aA,ag],λj i x hj hc=>?_⟩
 ·obtain⟨x,k⟩:=y;have e':k=.cell:=e;subst e';exact cU h2 hy
 ·obtain⟨x,k⟩:=y;have e':k=.local:=e;subst e';exact cU h2 hy
 ·unfold ag at hj;unfold aA at hc;rw[Kr] at hj hc
  cases q:scope.names[j]? with
  |none=>rw[q] at hj;cases hj
  |some y=>
   rw[q] at hj hc;obtain⟨y,k⟩:=y;cases hj
   have hc':(if k=.free then bu y c.N else none)=some i:=by simpa using hc
   split at hc'
   ·rename_i e;subst e;have hm:=KP q;exact⟨by rw[O.N];exact bc hc',cU h2 hm,free _ hm rfl⟩
   ·cases hc'
theorem fy{c:Cz}(O:al X Γ c)(h:bx c scope=true)(C:Addr)(s:Shared)(H:Hp)(ex:List Addr):al (aI X (ag scope) scope C s H ex) Γ ⟨f9 scope c.sc,ag scope,gI scope⟩:=by
 simp only[bx,Kn,decide_eq_true_eq] at h;exact⟨yC O.sc,rfl,λx z=>z,O.calm,h.1.1.2,⟨O.tab.fn,O.tab.cf,O.tab.fm,O.tab.bl,O.tab.units,O.tab.gd,O.tab.cst⟩⟩
noncomputable def dk(tg:IT)(ft:Ro->Option Bool)(fe:Ro->Option KD)(ρ0:Ro)(d:D):Option (Option KD):=match m7 tg d with
 |some ps=>if c6 ps ρ0=true then(match ft (setAll ps ρ0) with|some true=>(fe (setAll ps ρ0)).map some|some false=>some none|none=>none) else none
 |none=>none
noncomputable def aO(r:Ow)(f:D->Option (Option KD)):List D->Option (List D)
 |[]=>some []
 |d::ds=>match f d,aO r f ds with
  |some (some kd),some ys=>if cP r kd=true then some (kd.2::ys) else none
  |some none,some ys=>some ys
  |_,_=>none
theorem iE:∀{a b:List D} {ys:List D},aO r f (a++b)=some ys->∃x y,aO r f a=some x/\aO r f b=some y/\ys=x++y
 |[],b,ys,h=>⟨[],ys,rfl,h,rfl⟩
 |d::a,b,ys,h=>by
  rw[LV] at h;unfold aO at h;split at h
  ·rename_i kd zs e1 e2;split at h
   ·rename_i hf;cases h;obtain⟨x,y,h1,h2,rfl⟩:=iE e2;exact⟨kd.2::x,y,by simp[aO,e1,h1,hf],h2,rfl⟩
   ·cases h
  ·rename_i zs e1 e2;cases h;obtain⟨x,y,h1,h2,rfl⟩:=iE e2;exact⟨x,y,by simp[aO,e1,h1],h2,rfl⟩
  ·cases h
theorem jU{a:List D}{d:D}{x:List D}(h:aO r f a=some x){y:List D}(h1:aO r f [d]=some y):aO r f (a++[d])=some (x++y):=by
 induction a generalizing x with
 |nil=>cases h;exact h1
 |cons e a ih=>
  unfold aO at h;rw[LV];unfold aO;split at h
  ·rename_i kd zs e1 e2;split at h
   ·rename_i hf;cases h;rw[e1,ih e2];simp[hf]
   ·cases h
  ·rename_i zs e1 e2;cases h;rw[e1,ih e2]
  ·cases h
theorem pI{f:D->Option (Option KD)}{ds ys:List D}(h:aO r f ds=some ys){i:Nat}{d:D}(e:ds[i]?=some d){x:List D}(hx:aO r f (ds.take i)=some x) :
  (f d=some none/\aO r f (ds.take (i+1))=some x)\/∃kd,f d=some (some kd)/\cP r kd=true/\aO r f (ds.take (i+1))=some (x++[kd.2]):=by
 have hs:ds=ds.take i++(d::ds.drop (i+1)):=by
  obtain⟨hl,rfl⟩:=Ky.mp e;rw[<- L1 hl,MM]
 have ht:ds.take (i+1)=ds.take i++[d]:=by rw[L7,e];rfl
 rw[hs] at h;obtain⟨_,y,_,h2,_⟩:=iE h;unfold aO at h2;rw[ht];split at h2
 ·rename_i kd zs e1 e2;split at h2
  ·rename_i hf;exact .inr ⟨kd,e1,hf,jU hx (by simp[aO,e1,hf])⟩
  ·cases h2
 ·rename_i zs e1 e2;exact .inl ⟨e1,by simpa using jU hx (y:=[]) (by simp[aO,e1])⟩
 ·cases h2
noncomputable def lj(r:Ow)(it:Option (List Nat×List D))(f:D->Option (Option KD)):Option KD:=match it with
 |some (_,ds)=>if ds.length<=100000 then(match aO r f ds with|some ys=>some (.fr (.own [] r),.lst ys)|none=>none) else none
 |none=>none
theorem iF:∀{ds ys:List D},aO r f ds=some ys->ys.length<=ds.length
 |[],ys,h=>by cases h;exact Kw _
 |d::ds,ys,h=>by
  unfold aO at h;split at h
  ·rename_i kd zs e1 e2;split at h
   ·cases h;have:=iF e2;simp;lia
   ·cases h
  ·rename_i zs e1 e2;cases h;have:=iF e2;simp;lia
  ·cases h
section
variable {K:Km} {H:Hp} {S:Pr}
theorem TrL.snoc:∀{ds:List D} {r:Ow} {us:List V} {F F2:Pr} {d:D} {v:V},TrL K H S ds [] r us F->Tr K H S d r v F2->(∀b,F b->¬F2 b)->TrL K H S (ds++[d]) [] r (us++[v]) (λb=>F b\/F2 b)
 |[],r,us,F,F2,d,v,h,t,dj=>by
  unfold TrL at h;obtain⟨rfl,hn⟩:=h;show TrL K H S [d] [] r [v] _;unfold TrL;refine⟨v,[],F2,λ_=>False,rfl,λb=>⟨λz=>.inl (z.elim (λz=>absurd z (hn b)) id),λz=>z.elim .inr λz=>z.elim⟩,λ_ _ z=>z,t,?_⟩;unfold TrL;exact⟨rfl,λ_ z=>z⟩
 |e::ds,r,us,F,F2,d,v,h,t,dj=>by
  unfold TrL at h;obtain⟨y,ys,F1,F3,rfl,hF,dj1,h1,h2⟩:=h;show TrL K H S (e::(ds++[d])) [] r (y::(ys++[v])) _;unfold TrL;refine⟨y,ys++[v],F1,λb=>F3 b\/F2 b,rfl,λb=>?_,λb z1 z2=>?_,h1,TrL.snoc h2 t λb z=>dj b ((hF b).mpr (.inr z))⟩
  ·show F b\/F2 b↔F1 b\/F3 b\/F2 b;rw[hF b,or_assoc]
  ·rcases z2 with z2|z2
   ·exact dj1 b z1 z2
   ·exact dj b ((hF b).mpr (.inl z1)) z2
end
end J
namespace J
open PySem PySem.Spec L2
noncomputable def Dg(X:Cx)(ifs:List Expr):TT:=λσ H Q=>∀pins s,Inv X pins σ H s->wpAny (model X.prog X.w) X.A (forIn ifs true λc r=>if r=true then do let ok <- isTrue c X.env (eval c X.env);pure (ForInStep.yield ok) else pure (ForInStep.yield r)) (TP X pins σ Q) X.xe s
theorem mw{tt:TT}(p:Dd X ifs tt){σ:L2.St}{H:Hp}{Q:Bool->Hp->Prop}(h:tt σ H Q):Dg X ifs σ H Q:=λpins s I=>p pins s σ H Q I h
noncomputable def nP(X:Cx)(f:Ro->Option Bool)(ifs:List Expr):Prop:=∀ρ b,f ρ=some b->∀g σ H Q,SE X.K g ρ σ H->(∀H',Same H H'->Q b H')->Dg X ifs σ H Q
theorem ED:nP X (λ_=>some true) []:=λρ b h g σ H Q se q=>by cases h;exact mw qF (q H (Same.refl H))
theorem EE{e:Expr}(h:SndT X f e):nP X f [e]:=λρ b hb g σ H Q se q=>mw (qG dN) (h ρ b hb g σ H Q se q)
section
variable {X:Cx} {Γ:gH} {c:Cz}
theorem vi(O:al X Γ c){r:Ow}{fi:Ro->Option (List Nat×List D)}{ft:Ro->Option Bool}{fe:Ro->Option KD}{elt tg iter:Expr}{ifs:List Expr}{scope:Scope}{t:IT}{n:Nat}(hck:bx c scope=true)(hi:SndI X fi tg iter)
  (htg:oV ⟨f9 scope c.sc,ag scope,gI scope⟩ n tg=some t)
  (hft:∀C s H ex,nP (aI X (ag scope) scope C s H ex) ft ifs) (hfe:∀C s H ex,SndE (aI X (ag scope) scope C s H ex) fe elt)
  {ρ:Ro} {kd:Kd} {d:D} (h:lj r (fi ρ) (dk t ft fe (bP ρ (aA c scope)))=some (kd,d)) {g:Gh} {σ:L2.St} {H:Hp} {Q:VK} (se:SE X.K g ρ σ H) (q:∀v H',Same H H'->VR X.K g H H' kd d v->Q v H') :
  iu (wI X tg iter) (λv σ H Q=>∀C s H0 ex,wG (aI X (ag scope) scope C s H0 ex) tg v σ H Q) (λσ H Q=>∀C s H0 ex,Dg (aI X (ag scope) scope C s H0 ex) ifs σ H Q) (λσ H Q=>∀C s H0 ex,wE (aI X (ag scope) scope C s H0 ex) elt σ H Q) (aA c scope) σ H Q:=by
 have hcap:li (aA c scope)=true:=by
  simp only[bx,Kn] at hck;exact hck.1.2
 unfold lj at h;split at h
 ·rename_i bs ds hit;split at h
  ·rename_i hlen;split at h
   ·rename_i ys hm;cases h;have CO:=fy O hck;refine hi ρ bs ds hit g σ H _ se λjj src H1 s1 jt sp sf D hD=>?_;have se1:SE X.K (g.re (jT (aA c scope))) (bP ρ (aA c scope)) (dv σ (aA c scope)) H1:=(se.same s1).cap hcap;generalize hg':g.re (jT (aA c scope))=g' at se1;have gS:∀b,Sg g' b↔Sg g b:=λb=>by rw[<- hg'];exact nO b
    generalize hρ:bP ρ (aA c scope)=ρc at se1 hm;generalize hσ:dv σ (aA c scope)=σc at se1;clear hρ hσ
    refine⟨λi m σ' H'=>m=ds.length-i/\i<=ds.length/\∃(Fi:Pr) (us:List V) (yi:List J.D),aO r (dk t ft fe ρc) (ds.take i)=some yi/\(∀b,Fi b->H1 b=none/\b≠D)/\SE X.K (g'.plus λb=>b=D\/Fi b) ρc σ' H'/\
      (∀b o,H1 b=some o->H' b=some o)/\H' D=some (.lst us)/\TrL X.K H' (Sx g λb=>b=D\/Fi b) yi [] r us Fi,
     ⟨ds.length,by simp,K2 _,λ_=>False,[],[],by simp[aO],λb z=>z.elim,?_,λb o e=>af hD _ _ e,aE,by unfold TrL;exact⟨rfl,λ_ z=>z⟩⟩,?_⟩
    ·exact se1.plus (af hD) (λb z=>z.elim (λz=>z▸hD) λz=>z.elim) λb z=>z.elim (λz=>⟨.lst [],z▸aE,λxs h=>by cases h⟩) λz=>z.elim
    rintro i m σ' H' ⟨rfl,hi',Fi,us,yi,hyi,hFi,se',kk,gD,tr⟩
    have gpS:∀b,Sg (g'.plus λb=>b=D\/Fi b) b↔Sx g (λb=>b=D\/Fi b) b:=λb=>(ai b).trans (or_congr (gS b) Iff.rfl);have hnew:∀b o,H1 b=some o->¬(b=D\/Fi b):=λb o e z=>z.elim (λz=>by rw[z,hD] at e;cases e) λz=>by rw[(hFi b z).1] at e;cases e
    have sp':src.P X.K (g'.plus λb=>b=D\/Fi b) H':=Src.mono (λb o e n z=>((gpS b).mp z).elim n (hnew b o e)) (λb o _ e=>kk b o e) (λa e=>sf.from_t e) sp;obtain⟨j1,j2⟩:=jt i _ H' sp' se'.mu;by_cases hlt:i<ds.length
    ·have hd:ds[i]?=some ds[i]:=Ko hlt;obtain⟨go,yl⟩:=j2 _ hd;refine .inr ⟨go,λx H2 hy C s0 H0 ex=>?_⟩;obtain⟨s2,rx⟩:=yl x H2 hy;have st:=pI hm hd hyi
     have stuck:∃o,dk t ft fe ρc ds[i]=some o:=by
      rcases st with⟨e,_⟩|⟨kd,e,_⟩
      ·exact⟨_,e⟩
      ·exact⟨_,e⟩
     obtain⟨o0,ho0⟩:=stuck;have he:=ho0;unfold dk at he;split at he
     ·rename_i ps hps;split at he
      ·rename_i hno;refine uG (qS (CO C s0 H0 ex) n htg) (jn hps rx λvs hvs C1 s01 H01 ex1=>?_);have t1:=SE.setAll hvs (se'.same s2);obtain⟨t2,t3⟩:=SE.passAll hvs hno (se'.same s2);split at he
       ·rename_i hT
        -- the test holds
        refine hft C1 s01 H01 ex1 _ true hT _ _ _ _ t1 λH3 s3=>uu λC2 s02 H02 ex2=>?_
        cases hke:fe (setAll ps ρc) with
        |none=>rw[hke] at he;cases he
        |some ke=>
         rw[hke] at he;cases he;obtain⟨ky,y⟩:=ke
         have st2:cP r (ky,y)=true/\aO r (dk t ft fe ρc) (ds.take (i+1))=some (yi++[y]):=by
          rcases st with⟨e,_⟩|⟨kd,e,e2,e3⟩
          ·rw[ho0] at e;cases e
          ·rw[ho0] at e;cases e;exact⟨e2,e3⟩
         refine hfe C2 s02 H02 ex2 _ ky y hke _ _ H3 _ (t1.same s3) λvy H4 s4 r4=>?_;obtain⟨Fy,y1,y2⟩:=r4;have z4:Same H' H4:=(s2.trans s3).trans s4;have seE:SE X.K (g'.plus λb=>b=D\/Fi b) ρc (iB vs σ') H3:=t2.same s3
         have hgy:∀b,Fy b->(g'.plus λb=>b=D\/Fi b) b=none:=λb z=>by
          cases e:(g'.plus λb=>b=D\/Fi b) b with
          |none=>rfl
          |some k=>
           obtain⟨o,q2,_⟩:=seE.mu b (by rw[Sg,e];simp);rw[y1 b z] at q2;cases q2
         have mm:MuOk H4 (Sx (g'.plus λb=>b=D\/Fi b) Fy):=λb z=>z.elim (λz=>seE.mu.same s4 b z) λz=>y2.dom b z;obtain⟨F2,a1,a2⟩:=VR1.fit (p:=(ky,y)) st2.1 mm hgy (λb z=>z) y2;have gD4:H4 D=some (.lst us):=z4 _ _ gD;have nF2D:¬F2 D:=λz=>by have:=y1 D (a1 D z);rw[(s2.trans s3) _ _ gD] at this;cases this
         have nF2:∀b,F2 b->H' b=none:=λb z=>(s2.trans s3).free (y1 b (a1 b z))
         have hul:us.length<=i:=by
          rw[tr.len];exact KN (iF hyi) (by rw[La];lia)
         have kD:∀b o,b≠D->H4 b=some o->upd H4 D (.lst (us++[vy])) b=some o:=λb o n e=>by rw[aj n];exact e
         refine⟨us,gD4,Lw hul (Kz hlt (aT hlen)),ds.length-(i+1),by lia,rfl,hlt,λb=>Fi b\/F2 b,us++[vy],yi++[y],st2.2,λb z=>?_,?_,λb o e=>?_,aE,?_⟩
         ·rcases z with z|z
          ·exact hFi b z
          ·refine⟨?_,λe=>nF2D (e▸z)⟩
           cases e:H1 b with
           |none=>rfl
           |some o=>have:=nF2 b z;rw[kk b o e] at this;cases this
         ·have e1:(g'.plus λb=>b=D\/(Fi b\/F2 b))=(g'.plus λb=>b=D\/Fi b).plus F2:=by
           rw[iC];congr 1;funext b;exact propext ⟨λz=>z.elim (λz=>.inl (.inl z)) λz=>z.elim (λz=>.inl (.inr z)) .inr,λz=>z.elim (λz=>z.elim .inl λz=>.inr (.inl z)) λz=>.inr (.inr z)⟩
          rw[e1];refine SE.upd (seE.plus s4 (λb z=>y1 b (a1 b z)) λb z=>y2.dom b (a1 b z)) ?_ (λxs h=>by cases h);rw[iC];exact aR (.inl (.inl rfl))
         ·exact kD b o (λz=>hnew b o e (.inl z)) (z4 _ _ (kk b o e))
         ·refine TrL.snoc (tr.go (λb o hb e=>kD b o (λz=>?_) (z4 _ _ e)) λb o e n z=>?_) ((a2 (λb=>g b≠none\/b=D\/Fi b\/F2 b) λb z=>?_).go (λb o hb e=>kD b o (λz=>?_) e) λb o e n z=>n z) λb z1 z2=>?_
          ·subst z;exact hb.elim (λz=>z (.inr (.inl rfl))) λz=>(hFi b z).2 rfl
          ·rcases z with z|z|z|z
           ·exact n (.inl z)
           ·exact n (.inr (.inl z))
           ·exact n (.inr (.inr z))
           ·rw[nF2 b z] at e;cases e
          ·rcases z with z|z|z|z
           ·exact .inr (.inl ((gpS b).mpr (.inl z)))
           ·exact .inr (.inl ((gpS b).mpr (.inr (.inl z))))
           ·exact .inr (.inl ((gpS b).mpr (.inr (.inr z))))
           ·exact .inr (.inr (.inl z))
          ·subst z;exact hb.elim (λz=>z (.inr (.inl rfl))) nF2D
          ·obtain⟨o,e,_⟩:=tr.dom b z1;rw[nF2 b z2] at e;cases e
       ·rename_i hT;cases he
        have st2:aO r (dk t ft fe ρc) (ds.take (i+1))=some yi:=by
         rcases st with⟨_,e⟩|⟨kd,e,_⟩
         ·exact e
         ·rw[ho0] at e;cases e
        refine hft C1 s01 H01 ex1 _ false hT _ _ _ _ t1 λH3 s3=>ut ?_;have sQ:=s2.trans s3;exact⟨ds.length-(i+1),by lia,rfl,hlt,Fi,us,yi,st2,hFi,t2.same s3,λb o e=>sQ _ _ (kk b o e),sQ _ _ gD,tr.go (λb o _ e=>sQ _ _ e) λ_ _ _ n=>n⟩
       ·cases he
      ·cases he
     ·cases he
    ·have e:i=ds.length:=by lia
     subst e;rw[LM,hm] at hyi;cases hyi;refine .inl ⟨j1 (Kw _),q _ H' (λb o e=>kk b o (s1 _ _ e)) ⟨λb=>b=D\/Fi b,λb z=>s1.free (z.elim (λz=>z▸hD) λz=>(hFi b z).1),?_⟩⟩;show Tr _ _ _ _ _ _ _;unfold Tr
     exact⟨D,_,us,Fi,rfl,gD,rfl,λ_ z=>(hFi D z).2 rfl,(λh=>nomatch h),λb=>⟨λz=>z.imp (λz=>⟨rfl,z⟩) id,λz=>z.imp (λz=>z.2) id⟩,tr⟩
   ·cases h
  ·cases h
 ·cases h
noncomputable def eA:Expr->Bool
 |.Set ..=>false
 |_=>true
theorem fA(h:eA e=true)(x:Value):foldedSetIterable e env x=pure x:=by
 cases e<;>first|rfl|cases h
theorem Bz(O:al X Γ c){r:Ow}{fi:Ro->Option (List Nat×List D)}{ft:Ro->Option Bool}{fe:Ro->Option KD}{elt tg iter:Expr}{ifs:List Expr}{scope:Scope}{pos:Pos}{t:IT}{n:Nat}(hck:bx c scope=true)(hns:eA iter=true)(hi:SndI X fi tg iter)
  (htg:oV ⟨f9 scope c.sc,ag scope,gI scope⟩ n tg=some t)
  (hft:∀C s H ex,nP (aI X (ag scope) scope C s H ex) ft ifs) (hfe:∀C s H ex,SndE (aI X (ag scope) scope C s H ex) fe elt) :
  SndE X (λρ=>lj r (fi ρ) (dk t ft fe (bP ρ (aA c scope)))) (.ListComp elt [⟨tg,iter,ifs,0⟩] scope pos):=by
 intro ρ kd d h g σ H Q se q
 exact ak (nv (N':=ag scope) (cap:=aA c scope) O.calm (ge O hck) xZ
  (λC s H0 ex pins s' σ' H' v u Q' I r hh=>ya pins s' σ' H' v u Q' I r (hh C s H0 ex)) (λC s H0 ex pins s' σ' H' Q' I hh=>hh C s H0 ex pins s' I) (λC s H0 ex pins s' σ' H' Q' I hh=>hh C s H0 ex pins s' I) (fA hns)) (vi O hck hi htg hft hfe h se q)
end
end J
namespace J
open PySem PySem.Spec L2
mutual
inductive IE where
 |var (i:Nat)
 |lit (d:D)
 |bin (op:Operator) (a b:IE)
 |cmp (op:CmpOp) (a b:IE)
 |chain (op op':CmpOp) (a b d:IE)
 |neg (a:IE)
 |not (a:IE)
 |bool (op:BoolOp) (es:fN)
 |ifx (t a b:IE)
 |lst (k:Ow) (es:fN)
 |tup (k:Ow) (es:fN)
 |dnew (t:Nat) (r:Ow)
 |ix (a b:IE)
 |sl (a:IE) (lo hi:IO)
 |rev (a st:IE)
 |stp (a:IE) (lo:IO) (st:IE)
 |maxd (a b:IE)
 |idx (a b:IE)
 |lrng (a:IE)
 |lset (a:IE)
 |sset (a:IE)
 |lrev (a:IE)
 |dsp (k:D) (a:IE)
 |dspT (m:Nat) (k a:IE)
 |get (a k b:IE)
 |isi2 (T U:Str) (a:IE)
 |dspN (ks:List D) (es:fN)
 |isi (T:Str) (a:IE)
 |fld (f:Str) (a:IE)
 |fn (i:Nat) (es:fN)
 |blt (x:Str) (es:fN)
 |comp (r:Ow) (cap:List (Option Nat)) (tg:IT) (it:II) (ts:IO) (elt:IE)
inductive fN where
 |nil
 |cons (a:IE) (r:fN)
inductive IO where
 |non
 |som (a:IE)
inductive II where
 |e (a:IE)
 |rng (a b:IE)
 |enm (a:IE)
 |zp (a b:IE)
end
noncomputable def vj(t:Nat)(r:Ow):Option KD:=match t with|0=>some (.fr (.own [] r),.dic 0 [] [])|_=>none
mutual
noncomputable def aa(Γ:Nat->Option Fn):IE->Ro->Option KD
 |.var i,ρ=>nB i ρ[i]?
 |.lit d,_=>some (.sh,d)
 |.bin op a b,ρ=>uS op (aa Γ a ρ) (aa Γ b ρ)
 |.cmp op a b,ρ=>bV (jK op (aa Γ a ρ) (aa Γ b ρ))
 |.chain op op' a b d,ρ=>bV (cZ op op' (aa Γ a ρ) (aa Γ b ρ) (aa Γ d ρ))
 |.neg a,ρ=>yg (aa Γ a ρ)
 |.not a,ρ=>bV ((dE (aa Γ a ρ)).map (!·))
 |.bool op es,ρ=>jV Γ op es ρ
 |.ifx t a b,ρ=>Eg (av Γ t ρ) (aa Γ a ρ) (aa Γ b ρ)
 |.lst k es,ρ=>gJ k (aG Γ es ρ)
 |.tup k es,ρ=>gK k (aG Γ es ρ)
 |.dnew t r,_=>vj t r
 |.ix a b,ρ=>pq (aa Γ a ρ) (aa Γ b ρ)
 |.sl a lo hi,ρ=>Ek (aa Γ a ρ) (fH Γ lo ρ) (fH Γ hi ρ)
 |.rev a b,ρ=>none
 |.stp a lo st,ρ=>none
 |.maxd a b,ρ=>none
 |.idx a b,ρ=>none
 |.lrng a,ρ=>none
 |.lset a,ρ=>none
 |.sset a,ρ=>nK (aa Γ a ρ)
 |.lrev a,ρ=>qQ (aa Γ a ρ)
 |.dsp k a,ρ=>none
 |.dspN ks es,ρ=>none
 |.dspT m k a,ρ=>none
 |.get a k b,ρ=>none
 |.isi T a,ρ=>pG T (aa Γ a ρ)
 |.isi2 T U a,ρ=>none
 |.fld f a,ρ=>none
 |.fn i es,ρ=>vg (Γ i) (aG Γ es ρ)
 |.blt x es,ρ=>nJ x (aG Γ es ρ)
 |.comp r cap tg it ts elt,ρ=>lj r (cV Γ it ρ) (dk tg (cI Γ ts) (aa Γ elt) (bP ρ cap))
noncomputable def av(Γ:Nat->Option Fn):IE->Ro->Option Bool
 |.cmp op a b,ρ=>jK op (aa Γ a ρ) (aa Γ b ρ)
 |.chain op op' a b d,ρ=>cZ op op' (aa Γ a ρ) (aa Γ b ρ) (aa Γ d ρ)
 |.not a,ρ=>(av Γ a ρ).map (!·)
 |.bool op es,ρ=>eW Γ op es ρ
 |.var i,ρ=>dE (nB i ρ[i]?)
 |.ix a b,ρ=>dE (pq (aa Γ a ρ) (aa Γ b ρ))
 |.isi T a,ρ=>dE (pG T (aa Γ a ρ))
 |.isi2 T U a,ρ=>none
 |.fn i es,ρ=>dE (vg (Γ i) (aG Γ es ρ))
 |.blt x es,ρ=>dE (nJ x (aG Γ es ρ))
 |_,_=>none
noncomputable def cI(Γ:Nat->Option Fn):IO->Ro->Option Bool
 |.non,_=>some true
 |.som a,ρ=>av Γ a ρ
noncomputable def aG(Γ:Nat->Option Fn):fN->Ro->Option (List KD)
 |.nil,_=>some []
 |.cons a r,ρ=>eO (aa Γ a ρ) (aG Γ r ρ)
noncomputable def jV(Γ:Nat->Option Fn)(op:BoolOp):fN->Ro->Option KD
 |.nil,_=>none
 |.cons a r,ρ=>match r with
  |.nil=>aa Γ a ρ
  |.cons _ _=>(match aa Γ a ρ with
   |some (_,.bl x)=>if(op==.And)=x then jV Γ op r ρ else some (.sh,.bl x)
   |_=>none)
noncomputable def eW(Γ:Nat->Option Fn)(op:BoolOp):fN->Ro->Option Bool
 |.nil,_=>none
 |.cons a r,ρ=>match r with
  |.nil=>av Γ a ρ
  |.cons _ _=>(match av Γ a ρ with
   |some x=>if(op==.And)=x then eW Γ op r ρ else some x
   |none=>none)
noncomputable def fH(Γ:Nat->Option Fn):IO->Ro->Option (Option Int)
 |.non,_=>some none
 |.som a,ρ=>ym (aa Γ a ρ)
noncomputable def cV(Γ:Nat->Option Fn):II->Ro->Option (List Nat×List D)
 |.e a,ρ=>jc (aa Γ a ρ)
 |.rng a b,ρ=>gQ (aa Γ a ρ) (aa Γ b ρ)
 |.enm a,ρ=>pF (aa Γ a ρ)
 |.zp a b,ρ=>yw (aa Γ a ρ) (aa Γ b ρ)
end
section
theorem mx:aa Γ (.var i) ρ=nB i ρ[i]?:=rfl
theorem qU:aa Γ (.lit d) ρ=some (.sh,d):=rfl
theorem yD:aa Γ (.bin op a b) ρ=uS op (aa Γ a ρ) (aa Γ b ρ):=rfl
theorem yE:aa Γ (.cmp op a b) ρ=bV (jK op (aa Γ a ρ) (aa Γ b ρ)):=rfl
theorem sR:aa Γ (.chain op op' a b d) ρ=bV (cZ op op' (aa Γ a ρ) (aa Γ b ρ) (aa Γ d ρ)):=rfl
theorem yF:aa Γ (.not a) ρ=bV ((dE (aa Γ a ρ)).map (!·)):=rfl
theorem gR:aa Γ (.bool op es) ρ=jV Γ op es ρ:=rfl
theorem qV:aa Γ (.ifx t a b) ρ=Eg (av Γ t ρ) (aa Γ a ρ) (aa Γ b ρ):=rfl
theorem yG:aa Γ (.lst k es) ρ=gJ k (aG Γ es ρ):=rfl
theorem yH:aa Γ (.tup k es) ρ=gK k (aG Γ es ρ):=rfl
theorem my:aa Γ (.ix a b) ρ=pq (aa Γ a ρ) (aa Γ b ρ):=rfl
theorem vk:aa Γ (.sl a lo hi) ρ=Ek (aa Γ a ρ) (fH Γ lo ρ) (fH Γ hi ρ):=rfl
theorem vm:aa Γ (.sset a) ρ=nK (aa Γ a ρ):=rfl
theorem qW:aa Γ (.isi T a) ρ=pG T (aa Γ a ρ):=rfl
theorem vn{Γ:Nat->Option Fn}:aa Γ (.fn i es) ρ=vg (Γ i) (aG Γ es ρ):=rfl
theorem qX:aa Γ (.blt x es) ρ=nJ x (aG Γ es ρ):=rfl
theorem nQ:aa Γ (.comp r cap tg it ts elt) ρ=lj r (cV Γ it ρ) (dk tg (cI Γ ts) (aa Γ elt) (bP ρ cap)):=rfl
theorem nR:av Γ (.cmp op a b) ρ=jK op (aa Γ a ρ) (aa Γ b ρ):=rfl
theorem jW:av Γ (.chain op op' a b d) ρ=cZ op op' (aa Γ a ρ) (aa Γ b ρ) (aa Γ d ρ):=rfl
theorem vo:av Γ (.not a) ρ=(av Γ a ρ).map (!·):=rfl
theorem fB:av Γ (.bool op es) ρ=eW Γ op es ρ:=rfl
theorem vp:av Γ (.var i) ρ=dE (nB i ρ[i]?):=rfl
theorem yI:av Γ (.ix a b) ρ=dE (pq (aa Γ a ρ) (aa Γ b ρ)):=rfl
theorem vq:av Γ (.isi T a) ρ=dE (pG T (aa Γ a ρ)):=rfl
theorem yJ{Γ:Nat->Option Fn}:av Γ (.fn i es) ρ=dE (vg (Γ i) (aG Γ es ρ)):=rfl
theorem vt:av Γ (.blt x es) ρ=dE (nJ x (aG Γ es ρ)):=rfl
end
structure Nms where
 fns:List Str
 cs:List (Str×D)
 an:Nat->Nat->Option Ow:=λ_ _=>none
 md:Nat->Nat->Option Bool:=λ_ _=>none
 io:Nat->Option (List Bool):=λ_=>none
 vw:Nat->Nat->List Nat:=λ_ _=>[]
 cls:List (Str×List Str):=[]
noncomputable def bQ(fns:Nms)(Γ:Nat->Option Fn)(fm:Str->Option (Km->Sp)):gH:=⟨λx=>(bu x fns.fns).bind Γ,fm,λx=>fns.cs.lookup x,λx=>fns.cls.lookup x⟩
noncomputable def dB(f:Expr->Option IE):List Expr->Option fN
 |[]=>some .nil
 |e::es=>if ad e then(match f e,dB f es with|some a,some r=>some (.cons a r)|_,_=>none) else none
noncomputable def c7(f:Expr->Option IE):List Expr->Option fN
 |[]=>some .nil
 |e::es=>match f e,c7 f es with|some a,some r=>some (.cons a r)|_,_=>none
noncomputable def BA(c:Cz)(f:Expr->Option IE)(tg iter:Expr):Option II:=
 match iter with
 |.Call (.Name x _) [a] [] _=>
  if x="range" then(if d8 c.sc "range" && ad a then(f a).map (.rng (.lit (.int 0))) else none)
  else if x="enumerate" then(if d8 c.sc "enumerate" && ad a&&jQ tg then(f a).map .enm else none)
  else(f iter).map .e
 |.Call (.Name x _) [a,b] [] _=>
  if x="range" then(if d8 c.sc "range" && ad a&&ad b then(match f a,f b with|some a,some b=>some (.rng a b)|_,_=>none) else none)
  else if x="zip" then(if d8 c.sc "zip" && ad a&&ad b&&jQ tg then(match f a,f b with|some a,some b=>some (.zp a b)|_,_=>none) else none)
  else(f iter).map .e
 |_=>(f iter).map .e
noncomputable def yK(f:Expr->Option IE):Option Expr->Option IO
 |none=>some .non
 |some e=>(f e).map .som
noncomputable def pJ(f:Expr->Option IE):List Expr->Option IO
 |[]=>some .non
 |[e]=>(f e).map .som
 |_=>none
noncomputable def vv(fns:Nms)(c:Cz)(f:Expr->Option IE)(x:Str)(es:List Expr):Option IE:=
 if d8 c.sc x&&es.all ad then(match dB f es with|some ies=>(match bu x fns.fns with|some i=>(match fns.io i with|some _=>none|none=>some (.fn i ies))|none=>some (.blt x ies))|none=>none) else none
noncomputable def BB:IE->Bool
 |.var _|.ix ..|.isi ..|.isi2 ..|.fn ..|.blt ..=>true
 |_=>false
noncomputable def iV(o:Option IE):Option IE:=match o with|some ie=>if BB ie then some ie else none|none=>none
noncomputable def Nms.kL(fns:Nms)(p:Pos):Ow:=(fns.an p.line p.col).getD aZ
noncomputable def Nms.kT(fns:Nms)(p:Pos):Ow:=(fns.an p.line p.col).getD .fz
noncomputable def vA:Const->Option IE
 |.int i=>some (.lit (.int i))
 |.bool i=>some (.lit (.bl i))
 |.none=>some (.lit .non)
 |.str x=>some (.lit (.str x))
 |_=>none
noncomputable def pK(f:Expr->Option IE)(a:Expr)(ops:List CmpOp)(bs:List Expr):Option IE:=match ops with
 |[]=>none
 |op::ops=>match bs with
  |[]=>none
  |b::bs=>match ops with
   |[]=>(match bs with
    |[]=>if behindInMarks op b then none else match f a,f b with|some a,some b=>some (.cmp op a b)|_,_=>none
    |_::_=>none)
   |op'::ops=>match ops with
    |_::_=>none
    |[]=>match bs with
     |[]=>none
     |d::bs=>match bs with
      |_::_=>none
      |[]=>if behindInMarks op' d then none else match f a,f b,f d with|some a,some b,some d=>some (.chain op op' a b d)|_,_,_=>none
noncomputable def HK:Expr->Bool
 |.UnaryOp ..=>true
 |_=>false
noncomputable def BC(f:Expr->Option IE)(a b:Expr):Option IE:=match b with
 |.Slice lo hi st _=>(match st with
  |none=>(match f a,yK f lo,yK f hi with|some a,some lo,some hi=>some (.sl a lo hi)|_,_,_=>none)
  |some st=>(match hi with
   |some _=>none
   |none=>if HK st then(match lo with
    |some _=>none
    |none=>(match f a,f st with|some a,some b=>some (.rev a b)|_,_=>none)) else(match f a,yK f lo,f st with|some a,some lo,some b=>some (.stp a lo b)|_,_,_=>none)))
 |b=>if cQ b then(match f a,f b with|some a,some b=>some (.ix a b)|_,_=>none) else none
noncomputable def vB(c:Cz)(f:Expr->Option IE)(a:Expr)(es:List Expr):Option IE:=match es with
 |[]=>none
 |e::es=>match es with
  |[]=>none
  |e2::es=>match es with
   |_::_=>none
   |[]=>match e with
    |.Name T _=>(match e2 with
     |.Name U _=>if d8 c.sc "isinstance" && d8 c.sc T&&d8 c.sc U&&ad a then(f a).map (.isi2 T U) else none
     |_=>none)
    |_=>none
noncomputable def BD(c:Cz)(f:Expr->Option IE)(as:List Expr):Option IE:=match as with
 |[]=>none
 |a::as=>match as with
  |[]=>none
  |t::as=>match as with
   |_::_=>none
   |[]=>match t with
    |.Name T _=>if d8 c.sc "isinstance" && d8 c.sc T&&ad a then(f a).map (.isi T) else none
    |.Tuple es _ _=>vB c f a es
    |_=>none
noncomputable def vC(c:Cz)(f:Expr->Option IE)(g:Expr)(as:List Expr)(ks:List Keyword):Option IE:=match g with
 |.Name x _=>(match as with
  |[]=>none
  |a::as=>(match as with
   |_::_=>none
   |[]=>(match ks with
    |[]=>none
    |k::ks=>(match ks with
     |_::_=>none
     |[]=>if x="max"/\k.arg=some "default"/\d8 c.sc "max" = true/\ad a=true then(match f a,f k.value with|some a,some b=>some (.maxd a b)|_,_=>none) else none))))
 |_=>none
noncomputable def vD(c:Cz)(f:Expr->Option IE)(x:Str)(as:List Expr):Option IE:=match as with
 |[]=>none
 |a::as=>match as with
  |_::_=>none
  |[]=>match a with
   |.Call g bs ks _=>(match g with
    |.Name y _=>(match bs with
     |[]=>none
     |b::bs=>(match bs with
      |_::_=>none
      |[]=>(match ks with
       |_::_=>none
       |[]=>if x="list"/\y="range"/\d8 c.sc "list" = true/\d8 c.sc "range" = true/\ad b=true then(f b).map .lrng else if x="len"/\y="set"/\d8 c.sc "len" = true/\d8 c.sc "set" = true/\ad b=true then(f b).map .lset else if x="sorted"/\y="set"/\d8 c.sc "sorted" = true/\d8 c.sc "set" = true/\ad b=true then(f b).map .sset else if x="list"/\y="reversed"/\d8 c.sc "list" = true/\d8 c.sc "reversed" = true/\ad b=true then(f b).map .lrev else none)))
    |_=>none)
   |_=>none
noncomputable def EF(f:Expr->Option IE)(o:Expr)(m:Str)(ap:Pos)(as:List Expr)(pos:Pos):Option IE:=none
noncomputable def HL(fns:Nms)(c:Cz)(f:Expr->Option IE)(g:Expr)(as:List Expr)(ks:List Keyword)(pos:Pos):Option IE:=match ks with
 |k::ks=>vC c f g as (k::ks)
 |[]=>match g with
  |.Name x _=>if x="isinstance" then BD c f as else(match as with
   |[]=>if d8 c.sc x then(match bu x fns.fns with|some i=>(match fns.io i with|some _=>none|none=>some (.fn i .nil))|none=>none) else none
   |a::es=>match vD c f x (a::es) with|some r=>some r|none=>vv fns c f x (a::es))
  |.Attribute o m ap=>EF f o m ap as pos
  |_=>none
noncomputable def EG(fns:Nms)(c:Cz)(fE fT:Cz->Expr->Option IE)(elt:Expr)(gs:List Comprehension)(scope:Scope)(p:Pos):Option IE:=match gs with
 |[]=>none
 |g::gs=>match gs with
  |_::_=>none
  |[]=>if g.is_async=0 then(if eA g.iter&&bx c scope then(match oV ⟨f9 scope c.sc,ag scope,gI scope⟩ 4 g.target,BA c (fE c) g.target g.iter,pJ (fT ⟨f9 scope c.sc,ag scope,gI scope⟩) g.ifs,fE ⟨f9 scope c.sc,ag scope,gI scope⟩ elt with
   |some t,some it,some ts,some el=>some (.comp ((fns.an p.line p.col).getD .fz) (aA c scope) t it ts el)|_,_,_,_=>none) else none) else none
noncomputable def HM(k:Option Expr):Option D:=match k with
 |some k=>(match k with
  |.Constant z _ _=>(match vA z with
   |some z=>(match z with
    |.lit d=>some d
    |_=>none)
   |none=>none)
  |_=>none)
 |none=>none
noncomputable def z5(f:Expr->Option IE):List (Option Expr)->List Expr->Option (List D×fN)
 |[],vs=>(match vs with|[]=>some ([],.nil)|_::_=>none)
 |k::ks,vs=>match vs with
  |[]=>none
  |v::vs=>match HM k,f v,z5 f ks vs with
   |some d,some a,some p=>some (d::p.1,.cons a p.2)
   |_,_,_=>none
noncomputable def yL(f:Expr->Option IE)(ks:List (Option Expr))(vs:List Expr):Option IE:=match ks with
 |[]=>none
 |k::ks=>match ks with
  |k2::ks2=>(z5 f (k::k2::ks2) vs).map λp=>.dspN p.1 p.2
  |[]=>match vs with
   |[]=>none
   |v::vs=>match vs with
    |_::_=>none
    |[]=>match k with
     |none=>none
     |some k=>(match k with
      |.Constant z _ _=>(match vA z with
       |some z=>(match z with
        |.lit d=>(f v).map (.dsp d)
        |_=>none)
       |none=>none)
      |_=>none)
noncomputable def vE(m:Nat)(f:Expr->Option IE)(ks:List (Option Expr))(vs:List Expr):Option IE:=match ks with
 |[]=>none
 |k::ks=>match ks with
  |_::_=>none
  |[]=>match vs with
   |[]=>none
   |v::vs=>match vs with
    |_::_=>none
    |[]=>match k with
     |none=>none
     |some k=>(match f k,f v with|some a,some b=>some (.dspT m a b)|_,_=>none)
theorem vF{m:Nat}{f:Expr->Option IE}(h:vE m f ks vs=some ie):∃k v a b,ks=[some k]/\vs=[v]/\f k=some a/\f v=some b/\ie=.dspT m a b:=by
 unfold vE at h
 repeat' split at h
 all_goals first|(cases h;done)|skip
 rename_i a b h1 h2;cases h;exact⟨_,_,a,b,rfl,rfl,h1,h2,rfl⟩
noncomputable def JD:Ow->Nat
 |.fz=>1
 |.own es _=>if es.length=0 then 1 else es.length
noncomputable def JV:Ow->Ow
 |.fz=>.fz
 |.own _ r=>r
mutual
noncomputable def cE(fns:Nms):Nat->Cz->Expr->Option IE
 |0,_,_=>none
 |n+1,c,e=>match e with
  |.Name x p=>if d8 c.sc x then(fns.cs.lookup x).map .lit else(match fns.md p.line p.col with|none=>(d9 c x).map .var|some _=>none)
  |.Constant v _ _=>vA v
  |.BinOp a op b _=>match cE fns n c a,cE fns n c b with|some a,some b=>some (.bin op a b)|_,_=>none
  |.Compare a ops bs _=>pK (cE fns n c) a ops bs
  |.UnaryOp op a _=>(match op with|.USub=>(cE fns n c a).map .neg|.Not=>(cE fns n c a).map .not|_=>none)
  |.BoolOp op es _=>(c7 (cE fns n c) es).map (.bool op)
  |.IfExp t a b _=>match cT fns n c t,cE fns n c a,cE fns n c b with|some t,some a,some b=>some (.ifx t a b)|_,_,_=>none
  |.List es p=>(dB (cE fns n c) es).map (.lst (fns.kL p))
  |.Tuple es _ p=>(dB (cE fns n c) es).map (.tup (fns.kT p))
  |.Dict ks vs p=>(match ks with|k::ks'=>(match fns.an p.line p.col with|some o=>(match JD o with|0=>yL (cE fns n c) (k::ks') vs|m+1=>vE m (cE fns n c) (k::ks') vs)|none=>yL (cE fns n c) (k::ks') vs)|[]=>(match vs with|_::_=>none|[]=>some (match fns.an p.line p.col with|some k=>.dnew (JD k) (JV k)|none=>.dnew 0 .fz)))
  |.Subscript a b _=>BC (cE fns n c) a b
  |.Attribute a f _=>if fL a then(cE fns n c a).map (.fld f) else none
  |.Call g as ks pos=>HL fns c (cE fns n c) g as ks pos
  |.ListComp elt gs scope p=>EG fns c (cE fns n) (cT fns n) elt gs scope p
  |_=>none
noncomputable def cT(fns:Nms):Nat->Cz->Expr->Option IE
 |0,_,_=>none
 |n+1,c,e=>match e with
  |.Compare a ops bs _=>pK (cE fns n c) a ops bs
  |.UnaryOp op a _=>(match op with|.Not=>(cT fns n c a).map .not|_=>none)
  |.BoolOp op es _=>(c7 (cT fns n c) es).map (.bool op)
  |.Name x p=>iV (cE fns n c (.Name x p))
  |.Call f as ks p=>iV (cE fns n c (.Call f as ks p))
  |.Subscript a b p=>iV (cE fns n c (.Subscript a b p))
  |_=>none
end
theorem cv{f:Ro->Option KD}(h:∀ρ,f ρ=none):SndE X f e:=λρ kd d hh=>by rw[h] at hh;cases hh
theorem aH{α β:Type}{o:Option α}{g:α->β}{b:β}(h:o.map g=some b):∃a,o=some a/\b=g a:=by
 cases o with
 |none=>cases h
 |some a=>cases h;exact⟨a,rfl,rfl⟩
theorem mB(h:BB ie=true):av Γ ie=λρ=>dE (aa Γ ie ρ):=by
 funext ρ
 cases ie with
 |var i=>rfl
 |ix a b=>rfl
 |isi T a=>rfl
 |isi2 T U a=>rfl
 |fn i es=>rfl
 |blt x es=>rfl
 |_=>cases h
theorem jX(d:D):aa Γ (.lit d)=λ_=>some (.sh,d):=by
 exact funext λ_=>rfl
theorem jY(h:iV o=some ie):o=some ie/\BB ie=true:=by
 unfold iV at h;split at h
 ·split at h
  ·rename_i hk;cases h;exact⟨rfl,hk⟩
  ·cases h
 ·cases h
section
variable {X:Cx} {c:Cz} (fns:Nms) (Γ:Nat->Option Fn) {fm:Str->Option (Km->Sp)}
theorem BE{t:Nat}:SndE X (λ_=>vj t r) (.Dict [] [] pos):=by
 intro ρ kd d h g σ H Q se q
 cases t with
 |succ m=>cases h
 |zero=>
  cases(show some (Kd.fr (.own [] r),D.dic 0 [] [])=some (kd,d) from h);exact ak uw λp hp=>q _ _ (af hp) (VRs.node (kds:=[]) (es:=[]) (r:=r) (vs:=[]) (hd:=.dic 0 []) rfl se.mu (Same.refl H) .nil hp ⟨rfl,[],rfl,rfl,rfl⟩ rfl)
theorem fC{f:Expr->Option IE}(hf:∀e ie,f e=some ie->SndE X (aa Γ ie) e):∀{es:List Expr} {ies:fN},dB f es=some ies->jI X (aG Γ ies) es/\es.all ad=true
 |[],ies,h=>by
  cases h;refine⟨?_,rfl⟩;have:aG Γ .nil=λ_=>some []:=by funext ρ;rw[aG]
  rw[this];exact qI
 |e::es,ies,h=>by
  unfold dB at h;split at h
  ·rename_i hn;split at h
   ·rename_i a r ha hr;cases h;obtain⟨h1,h2⟩:=fC hf hr;refine⟨?_,by rw[LA,hn,h2];rfl⟩;have:aG Γ (.cons a r)=λρ=>eO (aa Γ a ρ) (aG Γ r ρ):=by funext ρ;rw[aG]
    rw[this];exact me hn (hf e a ha) h1
   ·cases h
  ·cases h
theorem qY{f:Expr->Option IE}(hf:∀e ie,f e=some ie->SndE X (aa Γ ie) e)(op:BoolOp)(pos:Pos):∀{es:List Expr} {ies:fN},c7 f es=some ies->SndE X (jV Γ op ies) (.BoolOp op es pos)
 |[],ies,h=>by cases h;intro ρ k d h;unfold jV at h;cases h
 |[a],ies,h=>by
  unfold c7 c7 at h;split at h
  ·rename_i a' r ha hr;cases h;cases hr;intro ρ k d h g σ H Q se q;unfold jV at h;exact ak (AD au) (hf a a' ha ρ k d h g σ H Q se q)
  ·cases h
 |a::b::es,ies,h=>by
  unfold c7 at h;split at h
  ·rename_i a' r ha hr;cases h;have rest:=qY hf op pos hr
   have hr2:∃b' r',r=.cons b' r':=by
    unfold c7 at hr;split at hr
    ·cases hr;exact⟨_,_,rfl⟩
    ·cases hr
   obtain⟨b',r',rfl⟩:=hr2;intro ρ k d h g σ H Q se q;unfold jV at h;dsimp only at h;split at h
   ·rename_i ka x ea;split at h
    ·rename_i hx
     cases op with
     |And=>
      refine ak (tX au au) (hf a a' ha ρ _ _ ea g σ H _ se λv H1 s1 r=>⟨x,r.rd.bl,?_⟩);have:x=true:=by rw[<- hx];rfl
      rw[if_pos this];exact rest ρ k d h g σ H1 Q (se.same s1) λv2 H2 s2 r2=>q v2 H2 (s1.trans s2) (r2.older s1)
     |Or=>
      refine ak (zR au au) (hf a a' ha ρ _ _ ea g σ H _ se λv H1 s1 r=>⟨x,r.rd.bl,?_⟩);have:x=false:=by rw[<- hx];rfl
      rw[if_neg (by rw[this];decide)];exact rest ρ k d h g σ H1 Q (se.same s1) λv2 H2 s2 r2=>q v2 H2 (s1.trans s2) (r2.older s1)
    ·rename_i hx;cases h
     cases op with
     |And=>
      refine ak (tX au au) (hf a a' ha ρ _ _ ea g σ H _ se λv H1 s1 r=>⟨x,r.rd.bl,?_⟩)
      have:x=false:=by cases x with|true=>exact absurd rfl hx|false=>rfl
      subst this;rw[if_neg (by decide)];exact q _ H1 s1 yb
     |Or=>
      refine ak (zR au au) (hf a a' ha ρ _ _ ea g σ H _ se λv H1 s1 r=>⟨x,r.rd.bl,?_⟩)
      have:x=true:=by cases x with|false=>exact absurd rfl hx|true=>rfl
      subst this;rw[if_pos rfl];exact q _ H1 s1 yb
   ·cases h
  ·cases h
theorem qZ{f:Expr->Option IE}(hf:∀e ie,f e=some ie->SndT X (av Γ ie) e)(op:BoolOp)(pos:Pos):∀{es:List Expr} {ies:fN},c7 f es=some ies->∀ρ r,eW Γ op ies ρ=some r->∀g σ H Q,SE X.K g ρ σ H->(∀H',Same H H'->Q r H')->wW X (.BoolOp op es pos) σ H Q
 |[],ies,h,ρ,r,hr,g,σ,H,Q,se,q=>by cases h;unfold eW at hr;cases hr
 |[a],ies,h,ρ,r,hb,g,σ,H,Q,se,q=>by
  unfold c7 c7 at h;split at h
  ·rename_i a' r' ha hr;cases h;cases hr;unfold eW at hb;have h1:=hf a a' ha ρ r hb g σ H Q se q
   cases op with
   |And=>exact eN (ql dN) h1
   |Or=>exact eN (tW dN) h1
  ·cases h
 |a::b::es,ies,h,ρ,r,hb,g,σ,H,Q,se,q=>by
  unfold c7 at h;split at h
  ·rename_i a' r0 ha hr;cases h;have rest:=qZ hf op pos hr ρ r
   have hr2:∃b' r',r0=.cons b' r':=by
    unfold c7 at hr;split at hr
    ·cases hr;exact⟨_,_,rfl⟩
    ·cases hr
   obtain⟨b',r',rfl⟩:=hr2;unfold eW at hb;dsimp only at hb;split at hb
   ·rename_i x ea;split at hb
    ·rename_i hx
     cases op with
     |And=>
      refine eN (lR dN nw) (hf a a' ha ρ x ea g σ H _ se λH1 s1=>?_);have:x=true:=by rw[<- hx];rfl
      rw[if_pos this];exact rest hb g σ H1 Q (se.same s1) λH2 s2=>q H2 (s1.trans s2)
     |Or=>
      refine eN (qm dN nw) (hf a a' ha ρ x ea g σ H _ se λH1 s1=>?_);have:x=false:=by rw[<- hx];rfl
      rw[if_neg (by rw[this];decide)];exact rest hb g σ H1 Q (se.same s1) λH2 s2=>q H2 (s1.trans s2)
    ·rename_i hx;cases hb
     cases op with
     |And=>
      refine eN (lR dN nw) (hf a a' ha ρ r ea g σ H _ se λH1 s1=>?_)
      have:r=false:=by cases r with|true=>exact absurd rfl hx|false=>rfl
      subst this;rw[if_neg (by decide)];exact q H1 s1
     |Or=>
      refine eN (qm dN nw) (hf a a' ha ρ r ea g σ H _ se λH1 s1=>?_)
      have:r=true:=by cases r with|false=>exact absurd rfl hx|true=>rfl
      subst this;rw[if_pos rfl];exact q H1 s1
   ·cases hb
  ·cases h
theorem yM(O:al X (bQ fns Γ fm) c){f:Expr->Option IE}(hf:∀e ie,f e=some ie->SndE X (aa Γ ie) e){x:Str}{a:Expr}{es:List Expr}{p pos:Pos}{ie:IE}(h:vv fns c f x (a::es)=some ie):SndE X (aa Γ ie) (.Call (.Name x p) (a::es) [] pos):=by
 unfold vv at h;split at h
 ·rename_i hg;rw[Kn,LA,Kn] at hg;split at h
  ·rename_i ies ha;have hA:=(fC Γ hf ha).1;split at h
   ·rename_i i hi;split at h
    ·cases h
    cases h
    have e:aa Γ (.fn i ies)=λρ=>vg ((bQ fns Γ fm).fn x) (aG Γ ies ρ):=by
     funext ρ;show vg (Γ i) (aG Γ ies ρ)=_;unfold bQ;dsimp only;rw[hi];rfl
    rw[e];exact HJ O hA hg.1 hg.2.1 hg.2.2
   ·cases h
    first|(exact cv λ_=>rfl)|(have e:aa Γ (.blt x ies)=λρ=>nJ x (aG Γ ies ρ):=(by exact funext λ_=>rfl);rw[e];exact Ev O hA hg.1 hg.2.1 hg.2.2)
  ·cases h
 ·cases h
theorem vG(O:al X (bQ fns Γ fm) c){f:Expr->Option IE}(hf:∀e ie,f e=some ie->SndE X (aa Γ ie) e){tg iter:Expr}{it:II}(h:BA c f tg iter=some it):SndI X (cV Γ it) tg iter:=by
 have one:∀{it:II},(f iter).map .e=some it->SndI X (cV Γ it) tg iter:=λh=>by
  obtain⟨a,ha,rfl⟩:=aH h
  first|(exact offI λ_=>rfl)|(have e:cV Γ (.e a)=λρ=>jc (aa Γ a ρ):=(by exact funext λ_=>rfl);rw[e];exact Ex (hf _ _ ha))
 unfold BA at h;split at h
 ·rename_i x p a pos;split at h
  ·rename_i hx;subst hx;split at h
   ·rename_i hg;rw[Kn] at hg;obtain⟨a',ha,rfl⟩:=aH h
    first|(exact offI λ_=>rfl)|(have e:cV Γ (.rng (.lit (.int 0)) a')=λρ=>gQ (some (.sh,.int 0)) (aa Γ a' ρ):=(by exact funext λ_=>rfl);rw[e];exact Bt O hg.1 hg.2 (hf _ _ ha))
   ·cases h
  ·split at h
   ·rename_i hx;subst hx;split at h
    ·rename_i hg;simp only[Kn] at hg;obtain⟨a',ha,rfl⟩:=aH h
     first|(exact offI λ_=>rfl)|(have e:cV Γ (.enm a')=λρ=>pF (aa Γ a' ρ):=(by exact funext λ_=>rfl);rw[e];exact Ey O hg.1.1 hg.1.2 hg.2 (hf _ _ ha))
    ·cases h
   ·exact one h
 ·rename_i x p a b pos;split at h
  ·rename_i hx;subst hx;split at h
   ·rename_i hg;simp only[Kn] at hg;split at h
    ·rename_i a' b' ha hb;cases h
     first|(exact offI λ_=>rfl)|(have e:cV Γ (.rng a' b')=λρ=>gQ (aa Γ a' ρ) (aa Γ b' ρ):=(by exact funext λ_=>rfl);rw[e];exact Bu O hg.1.1 hg.1.2 hg.2 (hf _ _ ha) (hf _ _ hb))
    ·cases h
   ·cases h
  ·split at h
   ·rename_i hx;subst hx;split at h
    ·rename_i hg;simp only[Kn] at hg;split at h
     ·rename_i a' b' ha hb;cases h
      first|(exact offI λ_=>rfl)|(have e:cV Γ (.zp a' b')=λρ=>yw (aa Γ a' ρ) (aa Γ b' ρ):=(by exact funext λ_=>rfl);rw[e];exact Ez O hg.1.1.1 hg.1.1.2 hg.1.2 hg.2 (hf _ _ ha) (hf _ _ hb))
     ·cases h
    ·cases h
   ·exact one h
 ·exact one h
theorem vH{k:Nat}(h:vA v=some ie):SndE X (aa Γ ie) (.Constant v k pos):=by
 cases v with
 |int i=>cases h;rw[jX];exact D8 _ _ _
 |bool i=>cases h;rw[jX];exact Hy _ _ _
 |none=>cases h;rw[jX];exact D9 _ _
 |str i=>cases h;rw[jX];exact Ea _ _ _
 |_=>cases h
theorem q0{f:Expr->Option IE}(h:pK f a ops bs=some ie):(∃op b a' b',ops=[op]/\bs=[b]/\behindInMarks op b=false/\f a=some a'/\f b=some b'/\ie=.cmp op a' b')\/(∃op op' b d a' b' d',ops=[op,op']/\bs=[b,d]/\behindInMarks op' d=false/\f a=some a'/\f b=some b'/\f d=some d'/\ie=.chain op op' a' b' d'):=by
 cases ops with
 |nil=>cases h
 |cons op ops=>cases bs with
  |nil=>cases h
  |cons b bs=>cases ops with
   |nil=>cases bs with
    |cons _ _=>cases h
    |nil=>
     dsimp only[pK] at h;split at h
     ·cases h
     ·rename_i hm;split at h
      ·rename_i a' b' ha hb;cases h;exact .inl ⟨op,b,a',b',rfl,rfl,by simpa using hm,ha,hb,rfl⟩
      ·cases h
   |cons op' ops=>cases ops with
    |cons _ _=>cases h
    |nil=>cases bs with
     |nil=>cases h
     |cons d bs=>cases bs with
      |cons _ _=>cases h
      |nil=>
       dsimp only[pK] at h;split at h
       ·cases h
       ·rename_i hm;split at h
        ·rename_i a' b' d' ha hb hd;cases h;exact .inr ⟨op,op',b,d,a',b',d',rfl,rfl,by simpa using hm,ha,hb,hd,rfl⟩
        ·cases h
theorem vI{f:Expr->Option IE}(hf:∀e ie,f e=some ie->SndE X (aa Γ ie) e){o:Option Expr}{io:IO}(h:yK f o=some io):uV X (fH Γ io) o:=by
 cases o with
 |none=>
  cases h;have e:fH Γ .non=λ_=>some none:=by funext ρ;rw[fH]
  rw[e];exact A9
 |some e=>
  obtain⟨a,ha,rfl⟩:=aH h;have e:fH Γ (.som a)=λρ=>ym (aa Γ a ρ):=by funext ρ;rw[fH]
  rw[e];exact Ba (hf _ _ ha)
theorem q8{f:Expr->Option IE}(hf:∀e ie,f e=some ie->SndT X (av Γ ie) e){o:List Expr}{io:IO}(h:pJ f o=some io):nP X (cI Γ io) o:=by
 unfold pJ at h;split at h
 ·cases h;have e:cI Γ .non=λ_=>some true:=by funext ρ;rw[cI]
  rw[e];exact ED
 ·obtain⟨a,ha,rfl⟩:=aH h;have e:cI Γ (.som a)=av Γ a:=by funext ρ;rw[cI]
  rw[e];exact EE (hf _ _ ha)
 ·cases h
theorem vJ{f:Expr->Option IE}(hE:∀e ie,f e=some ie->SndE X (aa Γ ie) e){ks:List (Option Expr)}{vs:List Expr}{pos:Pos}{ie:IE}(h:yL f ks vs=some ie):SndE X (aa Γ ie) (.Dict ks vs pos):=by
 cases ks with
 |nil=>cases h
 |cons k ks=>cases ks with
  |cons k2 ks2=>
   obtain⟨p,hp,rfl⟩:=aH h
   first|(exact cv λ_=>rfl)|(rw[show aa Γ (.dspN p.1 p.2)=λρ=>oDspN p.1 (aG Γ p.2 ρ) from funext λ_=>rfl];exact s_dspN λρ kds xs e1 e2 e3=>dspN_of Γ hE hp e1 e2 e3)
  |nil=>cases vs with
   |nil=>cases h
   |cons v vs=>cases vs with
    |cons _ _=>cases h
    |nil=>cases k with
     |none=>cases h
     |some k=>cases k with
      |Constant z j p=>
       dsimp only[yL] at h
       cases hz:vA z with
       |none=>rw[hz] at h;cases h
       |some z'=>
        rw[hz] at h
        cases z' with
        |lit d=>
         obtain⟨a',ha,rfl⟩:=aH h;have hk:=vH (X:=X) (k:=j) (pos:=p) Γ hz;rw[jX] at hk
         first|(exact cv λ_=>rfl)|(rw[show aa Γ (.dsp d a')=λρ=>oDsp d (aa Γ a' ρ) from funext λ_=>rfl];exact s_dsp hk (hE _ _ ha))
        |_=>cases h
      |_=>cases h
theorem BF(O:al X (bQ fns Γ fm) c){f:Expr->Option IE}(hE:∀e ie,f e=some ie->SndE X (aa Γ ie) e){a b:Expr}{pos:Pos}{ie:IE}(h:BC f a b=some ie):SndE X (aa Γ ie) (.Subscript a b pos):=by
 unfold BC at h;split at h
 ·rename_i lo hi st p
  cases st with
  |none=>
   dsimp only at h;split at h
   ·rename_i a' lo' hi' ha hlo hhi;cases h
    first|(exact cv λ_=>rfl)|(rw[show aa Γ (.sl a' lo' hi')=λρ=>Ek (aa Γ a' ρ) (fH Γ lo' ρ) (fH Γ hi' ρ) from funext λ_=>rfl];exact HD (hE _ _ ha) (vI Γ hE hlo) (vI Γ hE hhi))
   ·cases h
  |some st=>cases hi with
   |some _=>cases h
   |none=>
    dsimp only at h;split at h
    ·cases lo with
     |some _=>cases h
     |none=>
      dsimp only at h;split at h
      ·rename_i a' b' ha hb;cases h
       first|(exact cv λ_=>rfl)|(rw[show aa Γ (.rev a' b')=λρ=>oRev (aa Γ a' ρ) (aa Γ b' ρ) from funext λ_=>rfl];exact s_rev (hE _ _ ha) (hE _ _ hb))
      ·cases h
    ·split at h
     ·rename_i a' lo' b' ha hlo hb;cases h
      first|(exact cv λ_=>rfl)|(rw[show aa Γ (.stp a' lo' b')=λρ=>oStp (aa Γ a' ρ) (fH Γ lo' ρ) (aa Γ b' ρ) from funext λ_=>rfl];exact s_stp (hE _ _ ha) (vI Γ hE hlo) (hE _ _ hb))
     ·cases h
 ·split at h
  ·rename_i hp;split at h
   ·rename_i a' b' ha hb;cases h
    first|(exact cv λ_=>rfl)|(rw[show aa Γ (.ix a' b')=λρ=>pq (aa Γ a' ρ) (aa Γ b' ρ) from funext λ_=>rfl];exact HC O (hE _ _ ha) (hE _ _ hb) hp)
   ·cases h
  ·cases h
theorem yN(O:al X (bQ fns Γ fm) c){f:Expr->Option IE}(hE:∀e ie,f e=some ie->SndE X (aa Γ ie) e){a:Expr}{es:List Expr}{kk:Nat}{p tp pos:Pos}{ie:IE}(h:vB c f a es=some ie):SndE X (aa Γ ie) (.Call (.Name "isinstance" p) [a,.Tuple es kk tp] [] pos):=by
 cases es with
 |nil=>cases h
 |cons e es=>cases es with
  |nil=>cases h
  |cons e2 es=>cases es with
   |cons _ _=>cases h
   |nil=>
    dsimp only[vB] at h;split at h
    ·split at h
     ·split at h
      ·rename_i hg;simp only[Kn] at hg;obtain⟨a',ha,rfl⟩:=aH h
       first|(exact cv λ_=>rfl)|(rw[show ∀T U,aa Γ (.isi2 T U a')=λρ=>oIsi2 T U (aa Γ a' ρ) by intro T U;exact funext λ_=>rfl];exact s_isi2 O hg.1.1.1 hg.1.1.2 hg.1.2 hg.2 (hE _ _ ha))
      ·cases h
     ·cases h
    ·cases h
theorem BG(O:al X (bQ fns Γ fm) c){f:Expr->Option IE}(hE:∀e ie,f e=some ie->SndE X (aa Γ ie) e){as:List Expr}{p pos:Pos}{ie:IE}(h:BD c f as=some ie):SndE X (aa Γ ie) (.Call (.Name "isinstance" p) as [] pos):=by
 cases as with
 |nil=>cases h
 |cons a as=>cases as with
  |nil=>cases h
  |cons t as=>cases as with
   |cons _ _=>cases h
   |nil=>
    dsimp only[BD] at h;split at h
    ·split at h
     ·rename_i hg;simp only[Kn] at hg;obtain⟨a',ha,rfl⟩:=aH h
      first|(exact cv λ_=>rfl)|(rw[show aa Γ (.isi _ a')=λρ=>pG _ (aa Γ a' ρ) from funext λ_=>rfl];exact EB O hg.1.1 hg.1.2 hg.2 (hE _ _ ha))
     ·cases h
    ·exact yN fns Γ O hE h
    ·cases h
theorem BH(O:al X (bQ fns Γ fm) c){f:Expr->Option IE}(hE:∀e ie,f e=some ie->SndE X (aa Γ ie) e){g:Expr}{as:List Expr}{ks:List Keyword}{pos:Pos}{ie:IE}(h:vC c f g as ks=some ie):SndE X (aa Γ ie) (.Call g as ks pos):=by
 cases g with
 |Name x p=>cases as with
  |nil=>cases h
  |cons a as=>cases as with
   |cons _ _=>cases h
   |nil=>cases ks with
    |nil=>cases h
    |cons k ks=>cases ks with
     |cons _ _=>cases h
     |nil=>
      cases k with
      |mk kn kv kp=>
       dsimp only[vC] at h;split at h
       ·rename_i hc;obtain⟨rfl,rfl,h1,h2⟩:=hc;split at h
        ·rename_i a' b' ha hb;cases h
         first|(exact cv λ_=>rfl)|(rw[show aa Γ (.maxd a' b')=λρ=>oMaxd (aa Γ a' ρ) (aa Γ b' ρ) from funext λ_=>rfl];exact s_maxd O (bC O h1) h2 (hE _ _ ha) (hE _ _ hb))
        ·cases h
       ·cases h
 |_=>cases h
theorem yO(O:al X (bQ fns Γ fm) c){f:Expr->Option IE}(hE:∀e ie,f e=some ie->SndE X (aa Γ ie) e){x:Str}{as:List Expr}{p pos:Pos}{ie:IE}(h:vD c f x as=some ie):SndE X (aa Γ ie) (.Call (.Name x p) as [] pos):=by
 cases as with
 |nil=>cases h
 |cons a as=>cases as with
  |cons _ _=>cases h
  |nil=>cases a with
   |Call g bs ks p2=>cases g with
    |Name y p3=>cases bs with
     |nil=>cases h
     |cons b bs=>cases bs with
      |cons _ _=>cases h
      |nil=>cases ks with
       |cons _ _=>cases h
       |nil=>
        dsimp only[vD] at h;split at h
        ·rename_i hc;obtain⟨rfl,rfl,h1,h2,h3⟩:=hc;obtain⟨a',ha,rfl⟩:=aH h
         first|(exact cv λ_=>rfl)|(rw[show aa Γ (.lrng a')=λρ=>oLrng (aa Γ a' ρ) from funext λ_=>rfl];exact s_lrng O (bC O h1) (bC O h2) h3 (hE _ _ ha))
        ·split at h
         ·rename_i hc;obtain⟨rfl,rfl,h1,h2,h3⟩:=hc;obtain⟨a',ha,rfl⟩:=aH h
          first|(exact cv λ_=>rfl)|(rw[show aa Γ (.lset a')=λρ=>oLset (aa Γ a' ρ) from funext λ_=>rfl];exact s_lset O (bC O h1) (bC O h2) h3 (hE _ _ ha))
         ·split at h
          ·rename_i hc;obtain⟨rfl,rfl,h1,h2,h3⟩:=hc;obtain⟨a',ha,rfl⟩:=aH h
           first|(exact cv λ_=>rfl)|(rw[show aa Γ (.sset a')=λρ=>nK (aa Γ a' ρ) from funext λ_=>rfl];exact Bo O (bC O h1) (bC O h2) h3 (hE _ _ ha))
          ·split at h
           ·rename_i hc;obtain⟨rfl,rfl,h1,h2,h3⟩:=hc;obtain⟨a',ha,rfl⟩:=aH h
            first|(exact cv λ_=>rfl)|(rw[show aa Γ (.lrev a')=λρ=>qQ (aa Γ a' ρ) from funext λ_=>rfl];exact Bp O (bC O h1) (bC O h2) h3 (hE _ _ ha))
           ·cases h
    |_=>cases h
   |_=>cases h
theorem BI(O:al X (bQ fns Γ fm) c){f:Expr->Option IE}(hE:∀e ie,f e=some ie->SndE X (aa Γ ie) e){o:Expr}{m:Str}{ap:Pos}{as:List Expr}{pos:Pos}{ie:IE}(h:EF f o m ap as pos=some ie):SndE X (aa Γ ie) (.Call (.Attribute o m ap) as [] pos):=by cases h
theorem EH(O:al X (bQ fns Γ fm) c){f:Expr->Option IE}(hE:∀e ie,f e=some ie->SndE X (aa Γ ie) e){g:Expr}{as:List Expr}{ks:List Keyword}{pos:Pos}{ie:IE}(h:HL fns c f g as ks pos=some ie):SndE X (aa Γ ie) (.Call g as ks pos):=by
 cases ks with
 |cons _ _=>exact BH fns Γ O hE h
 |nil=>
  dsimp only[HL] at h;split at h
  ·rename_i x p;split at h
   ·rename_i hx;subst hx;exact BG fns Γ O hE h
   ·cases as with
    |cons a es=>
     dsimp only at h;split at h
     ·rename_i r hr;cases h;exact yO fns Γ O hE hr
     ·exact yM fns Γ O hE h
    |nil=>
     dsimp only at h;split at h
     ·rename_i hg;split at h
      ·rename_i i hi;split at h
       ·cases h
       ·cases h;rw[show aa Γ (.fn i .nil)=λρ=>vg (Γ i) (some []) by exact funext λ_=>rfl];have:=EC (p:=p) (pos:=pos) O hg;rw[show(bQ fns Γ fm).fn x=Γ i from by show(bu x fns.fns).bind Γ=_;rw[hi];rfl] at this;exact this
      ·cases h
     ·cases h
  ·exact BI fns Γ O hE h
  ·cases h
theorem EI(O:al X (bQ fns Γ fm) c){fE fT:Cz->Expr->Option IE}(ihE:∀X c,al X (bQ fns Γ fm) c->∀e ie,fE c e=some ie->SndE X (aa Γ ie) e)(ihT:∀X c,al X (bQ fns Γ fm) c->∀e ie,fT c e=some ie->SndT X (av Γ ie) e){elt:Expr}{gs:List Comprehension}{scope:Scope}{pos:Pos}{ie:IE}(h:EG fns c fE fT elt gs scope pos=some ie):SndE X (aa Γ ie) (.ListComp elt gs scope pos):=by
 cases gs with
 |nil=>cases h
 |cons g gs=>cases gs with
  |cons _ _=>cases h
  |nil=>
   dsimp only[EG] at h;split at h
   ·rename_i h0;split at h
    ·rename_i hn;rw[Kn] at hn;split at h
     ·rename_i t it ts el ht hit hts hel;cases h;rw[show aa Γ (.comp _ (aA c _) t it ts el)=λρ=>lj _ (cV Γ it ρ) (dk t (cI Γ ts) (aa Γ el) (bP ρ (aA c _))) from funext λ_=>rfl];have CO:=fy O hn.2
      cases g with
      |mk tg iter ifs as=>
       subst h0;exact Bz O hn.2 hn.1 (vG fns Γ O (ihE X c O) hit) ht (λC s H ex=>q8 Γ (ihT _ _ (CO C s H ex)) hts) (λC s H ex=>ihE _ _ (CO C s H ex) _ _ hel)
     ·cases h
    ·cases h
   ·cases h
end
section
variable (fns:Nms) (Γ:Nat->Option Fn) {fm:Str->Option (Km->Sp)}
theorem dU:∀n:Nat,(∀X c,al X (bQ fns Γ fm) c->∀e ie,cE fns n c e=some ie->SndE X (aa Γ ie) e)/\(∀X c,al X (bQ fns Γ fm) c->∀e ie,cT fns n c e=some ie->SndT X (av Γ ie) e)
 |0=>⟨λX c O e ie h=>by (cases(show(none:Option IE)=some ie from h)),λX c O e ie h=>by (cases(show(none:Option IE)=some ie from h))⟩
 |n+1=>by
  obtain⟨ihE,ihT⟩:=dU n;refine⟨λX c O e ie h=>?_,λX c O e ie h=>?_⟩
  ·have hE:=ihE X c O;have hT:=ihT X c O
   cases e with
   |Name x p=>
    dsimp only[cE] at h;split at h
    ·rename_i hg;obtain⟨d,hd,rfl⟩:=aH h;have e:aa Γ (.lit d)=λ_=>some (.sh,d):=by exact funext λ_=>rfl
     rw[e];exact Eb O hg hd p
    ·split at h
     ·obtain⟨i,hi,rfl⟩:=aH h;have e:aa Γ (.var i)=λρ=>nB i ρ[i]?:=by exact funext λ_=>rfl
      rw[e];exact zY O hi p
     ·cases h
   |Constant v k pos=>exact vH Γ h
   |BinOp a op b pos=>
    dsimp only[cE] at h;split at h
    ·rename_i a' b' ha hb;cases h
     first|(exact cv λ_=>rfl)|(rw[show aa Γ (.bin _ a' b')=λρ=>uS _ (aa Γ a' ρ) (aa Γ b' ρ) from funext λ_=>rfl];exact Ec (hE _ _ ha) (hE _ _ hb))
    ·cases h
   |Compare a ops bs pos=>
    rcases q0 (show pK (cE fns n c) a ops bs=some ie from h) with⟨op,b,a',b',rfl,rfl,hm,ha,hb,rfl⟩|⟨op,op',b,d,a',b',d',rfl,rfl,hm,ha,hb,hd,rfl⟩
    ·first|(exact cv λ_=>rfl)|(rw[show aa Γ (.cmp _ a' b')=λρ=>bV (jK _ (aa Γ a' ρ) (aa Γ b' ρ)) from funext λ_=>rfl];exact Ed O hm (hE _ _ ha) (hE _ _ hb))
    ·first|(exact cv λ_=>rfl)|(rw[show aa Γ (.chain _ _ a' b' d')=λρ=>bV (cZ _ _ (aa Γ a' ρ) (aa Γ b' ρ) (aa Γ d' ρ)) from funext λ_=>rfl];exact yf O hm (hE _ _ ha) (hE _ _ hb) (hE _ _ hd))
   |UnaryOp op a pos=>cases op with
    |USub=>
     obtain⟨a',ha,rfl⟩:=aH (show(cE fns n c a).map .neg=some ie from h)
     first|(exact cv λ_=>rfl)|(rw[show aa Γ (.neg a')=λρ=>yg (aa Γ a' ρ) from funext λ_=>rfl];exact Ee (hE _ _ ha))
    |Not=>
     obtain⟨a',ha,rfl⟩:=aH (show(cE fns n c a).map .not=some ie from h)
     first|(exact cv λ_=>rfl)|(rw[show aa Γ (.not a')=λρ=>bV ((dE (aa Γ a' ρ)).map (!·)) from funext λ_=>rfl];exact Ef (hE _ _ ha))
    |_=>cases h
   |BoolOp op es pos=>
    obtain⟨a',ha,rfl⟩:=aH (show(c7 (cE fns n c) es).map (.bool op)=some ie from h)
    first|(exact cv λ_=>rfl)|(rw[show aa Γ (.bool _ a')=jV Γ _ a' from funext λ_=>rfl];exact qY Γ hE _ _ ha)
   |IfExp t a b pos=>
    dsimp only[cE] at h;split at h
    ·rename_i t' a' b' ht ha hb;cases h
     first|(exact cv λ_=>rfl)|(rw[show aa Γ (.ifx t' a' b')=λρ=>Eg (av Γ t' ρ) (aa Γ a' ρ) (aa Γ b' ρ) from funext λ_=>rfl];exact Hz (hT _ _ ht) (hE _ _ ha) (hE _ _ hb))
    ·cases h
   |List es p=>
    obtain⟨a',ha,rfl⟩:=aH (show(dB (cE fns n c) es).map (.lst (fns.kL p))=some ie from h)
    first|(exact cv λ_=>rfl)|(rw[show aa Γ (.lst _ a')=λρ=>gJ _ (aG Γ a' ρ) from funext λ_=>rfl];exact Eh (fC Γ hE ha).1)
   |Tuple es k p=>
    obtain⟨a',ha,rfl⟩:=aH (show(dB (cE fns n c) es).map (.tup (fns.kT p))=some ie from h)
    first|(exact cv λ_=>rfl)|(rw[show aa Γ (.tup _ a')=λρ=>gK _ (aG Γ a' ρ) from funext λ_=>rfl];exact Ei (fC Γ hE ha).1)
   |Dict ks vs p=>cases ks with
    |cons k ks'=>
     dsimp only[cE] at h;split at h
     ·split at h
      ·exact vJ Γ hE h
      obtain⟨k',v',a',b',e1,rfl,ha,hb,rfl⟩:=vF h;cases e1
      first|(exact cv λ_=>rfl)|(rw[show ∀m,aa Γ (.dspT m a' b')=λρ=>oDspT m (aa Γ a' ρ) (aa Γ b' ρ) by intro m;exact funext λ_=>rfl];exact s_dspT O (hE _ _ ha) (hE _ _ hb))
     ·exact vJ Γ hE h
    |nil=>cases vs with
     |cons _ _=>cases h
     |nil=>
      have dn:∀t r,SndE X (aa Γ (.dnew t r)) (.Dict [] [] p):=λt r=>by
       first|(exact cv λ_=>rfl)|(rw[show aa Γ (.dnew t r)=λ_=>vj t r from funext λ_=>rfl];exact BE)
      dsimp only[cE] at h;cases h
      split<;>exact dn _ _
   |Subscript a b pos=>exact BF fns Γ O hE h
   |Attribute a f pos=>
    dsimp only[cE] at h;split at h
    ·rename_i hb;obtain⟨a',ha,rfl⟩:=aH h
     first|(exact cv λ_=>rfl)|(rw[show aa Γ (.fld f a')=λρ=>HB f (aa Γ a' ρ) from funext λ_=>rfl];exact s_fld (gO hb) (hE _ _ ha))
    ·cases h
   |Call g as ks pos=>exact EH fns Γ O hE h
   |ListComp elt gs scope pos=>exact EI fns Γ O ihE ihT h
   |_=>cases h
  ·have hE:=ihE X c O;have hT:=ihT X c O
   cases e with
   |Compare a ops bs pos=>
    rcases q0 (show pK (cE fns n c) a ops bs=some ie from h) with⟨op,b,a',b',rfl,rfl,hm,ha,hb,rfl⟩|⟨op,op',b,d,a',b',d',rfl,rfl,hm,ha,hb,hd,rfl⟩
    ·first|(exact offT λ_=>rfl)|(rw[show av Γ (.cmp _ a' b')=λρ=>jK _ (aa Γ a' ρ) (aa Γ b' ρ) from funext λ_=>rfl];exact bO O hm (hE _ _ ha) (hE _ _ hb))
    ·first|(exact offT λ_=>rfl)|(rw[show av Γ (.chain _ _ a' b' d')=λρ=>cZ _ _ (aa Γ a' ρ) (aa Γ b' ρ) (aa Γ d' ρ) from funext λ_=>rfl];exact dw O hm (hE _ _ ha) (hE _ _ hb) (hE _ _ hd))
   |UnaryOp op a pos=>cases op with
    |Not=>
     obtain⟨a',ha,rfl⟩:=aH (show(cT fns n c a).map .not=some ie from h)
     first|(exact offT λ_=>rfl)|(rw[show av Γ (.not a')=λρ=>(av Γ a' ρ).map (!·) from funext λ_=>rfl];exact aQ (hT _ _ ha))
    |_=>cases h
   |BoolOp op es pos=>
    obtain⟨a',ha,rfl⟩:=aH (show(c7 (cT fns n c) es).map (.bool op)=some ie from h)
    first|(exact offT λ_=>rfl)|(rw[show av Γ (.bool _ a')=eW Γ _ a' from funext λ_=>rfl];exact λρ b h g σ H Q se q=>λpins s I=>qZ Γ hT _ _ ha ρ b h g σ H Q se q _ pins s I)
   |Name x p=>
    obtain⟨h1,h2⟩:=jY (show iV (cE fns n c _)=some ie from h);rw[mB h2];exact uT (hE _ _ h1) (λ_=>rfl)
   |Call g as ks p=>
    obtain⟨h1,h2⟩:=jY (show iV (cE fns n c _)=some ie from h);rw[mB h2];exact uT (hE _ _ h1) (λ_=>rfl)
   |Subscript a b p=>
    obtain⟨h1,h2⟩:=jY (show iV (cE fns n c _)=some ie from h);rw[mB h2];exact uT (hE _ _ h1) (λ_=>rfl)
   |_=>cases h
end
end J
namespace J
open PySem PySem.Spec L2
structure Evo(g:Gh)(H:Hp)(g':Gh)(H':Hp)(F:Pr):Prop where
 keep:∀b o,(∀i,g b≠some (some i))->H b=some o->H' b=some o
 out:∀b,g b=some none↔g' b=some none
 new:∀b i,g' b=some (some i)->(∃j,g b=some (some j))\/H b=none
 tmp:∀b,F b->g' b=none/\((∃j,g b=some (some j))\/H b=none)
 dom:∀b o,H b=some o->∃o',H' b=some o'
section
variable {K:Km} {H H' H1 H2:Hp} {g g' g1 g2:Gh} {F F1 F2:Pr}
theorem Evo.refl(g:Gh)(H:Hp):Evo g H g H (λ_=>False):=⟨λ_ _ _ e=>e,λ_=>Iff.rfl,λb i e=>.inl ⟨i,e⟩,λ_ z=>z.elim,λ_ o e=>⟨o,e⟩⟩
theorem Evo.froz(e:Evo g H g' H' F){b:Addr}{o:HO}(h:H b=some o)(n:g b=none):g' b=none/\¬F b:=by
 refine⟨?_,λz=>?_⟩
 ·cases q:g' b with
  |none=>rfl
  |some x=>
   cases x with
   |none=>have:=(e.out b).mpr q;rw[n] at this;cases this
   |some i=>
    rcases e.new b i q with⟨j,q⟩|q
    ·rw[n] at q;cases q
    ·rw[h] at q;cases q
 ·rcases(e.tmp b z).2 with⟨j,q⟩|q
  ·rw[n] at q;cases q
  ·rw[h] at q;cases q
open Classical in
noncomputable def Gh.minus(g:Gh)(F:Pr):Gh:=λb=>if F b then none else g b
theorem gT(h:F b):g.minus F b=none:=by unfold Gh.minus;rw[if_pos h]
theorem bt(h:¬F b):g.minus F b=g b:=by unfold Gh.minus;rw[if_neg h]
theorem jZ(h:g.minus F b=some x):g b=some x/\¬F b:=by
 unfold Gh.minus at h;split at h
 ·cases h
 ·rename_i n;exact⟨h,n⟩
theorem bK(h:¬F b):g.plus F b=g b:=by unfold Gh.plus;rw[if_neg h]
theorem Evo.trans(a:Evo g H g1 H1 F1)(b:Evo (g1.plus F1) H1 g2 H2 F2):Evo g H (g2.minus F1) H2 (λb=>F1 b\/F2 b):=by
 have of2:∀c,¬F1 c->∀j,(g1.plus F1) c=some (some j)->(∃k,g c=some (some k))\/H c=none:=λc n j e=>by
  rw[bK n] at e;exact a.new c j e
 have h1:∀c,H1 c=none->H c=none:=λc q=>by
  cases e:H c with
  |none=>rfl
  |some o=>obtain⟨o',q'⟩:=a.dom c o e;rw[q] at q';cases q'
 refine⟨λc o n e=>?_,λc=>⟨λq=>?_,λq=>?_⟩,λc i q=>?_,λc z=>?_,λc o e=>?_⟩
 ·refine b.keep c o (λi q=>?_) (a.keep c o n e);have nf:=bw q;rcases a.new c i nf with⟨j,q⟩|q
  ·exact n j q
  ·rw[e] at q;cases q
 ·have nF:¬F1 c:=λz=>by
   have:=(a.tmp c z).1;rw[(a.out c).mp q] at this;cases this
  rw[bt nF];exact(b.out c).mp (by rw[bK nF];exact(a.out c).mp q)
 ·obtain⟨q1,nF⟩:=jZ q;have:=(b.out c).mpr q1;rw[bK nF] at this;exact(a.out c).mpr this
 ·obtain⟨q1,nF⟩:=jZ q;rcases b.new c i q1 with⟨j,q⟩|q
  ·exact of2 c nF j q
  ·exact .inr (h1 c q)
 ·rcases z with z|z
  ·exact⟨gT z,(a.tmp c z).2⟩
  ·obtain⟨t1,t2⟩:=b.tmp c z;by_cases zF:F1 c
   ·exact⟨gT zF,(a.tmp c zF).2⟩
   ·refine⟨by rw[bt zF];exact t1,?_⟩;rcases t2 with⟨j,q⟩|q
    ·exact of2 c zF j q
    ·exact .inr (h1 c q)
 ·obtain⟨o1,e1⟩:=a.dom c o e;exact b.dom c o1 e1
theorem VR1.evo(hb:bp kd=false)(b:Evo (g1.plus F1) H1 g2 H2 F2)(h:VR1 K H1 g1 F1 kd d v F1):VR1 K H2 (g2.minus F1) (λc=>F1 c\/F2 c) kd d v F1:=by
 have k1:∀c o,(¬Sx g1 F1 c\/F1 c)->H1 c=some o->H2 c=some o:=λc o n e=>by
  refine b.keep c o (λi q=>?_) e;rcases n with n|n
  ·exact n (.inl (by rw[bw q];simp))
  ·rw[aR n] at q;cases q
 have k2:∀c o,H1 c=some o->¬Sx g1 F1 c->¬Sx (g2.minus F1) (λc=>F1 c\/F2 c) c:=λc o e n z=>by
  have nF:¬F1 c:=λz=>n (.inr z)
  have gn:(g1.plus F1) c=none:=by
   rw[bK nF]
   cases q:g1 c with
   |none=>rfl
   |some x=>exact absurd (.inl (by rw[q];simp)) n
  obtain⟨f1,f2⟩:=b.froz e gn;rcases z with z|z|z
  ·rw[bt nF] at z;exact z f1
  ·exact nF z
  ·exact f2 z
 cases kd with
 |sh=>exact⟨h.1,h.2.go λc o n e=>⟨k1 c o (.inl n) e,k2 c o e n⟩⟩
 |fr k=>exact Tr.go k1 k2 h
 |bo i k=>cases hb
theorem BJ(b:Evo (g1.plus F1) H1 g2 H2 F2)(c:Addr):Sx (g2.minus F1) (λc=>F1 c\/F2 c) c↔Sx g2 F2 c:=by
 by_cases h:F1 c
 ·have:g2 c=some none:=(b.out c).mp (aR h);exact⟨λ_=>.inl (by rw[this];simp),λ_=>.inr (.inl h)⟩
 ·refine⟨λz=>z.elim (λz=>.inl (by rw[bt h] at z;exact z)) λz=>z.elim (λz=>absurd z h) .inr,λz=>z.elim (λz=>.inl (by rw[bt h];exact z)) λz=>.inr (.inr z)⟩
theorem gU(b:Evo (g1.plus F1) H1 g2 H2 F2):(g2.minus F1).plus (λc=>F1 c\/F2 c)=g2.plus F2:=by
 funext c;by_cases h2:F2 c
 ·rw[aR h2,aR (.inr h2)]
 ·by_cases h:F1 c
  ·rw[aR (.inl h),bK h2];exact((b.out c).mp (aR h)).symm
  ·rw[bK h2,bK (λz=>z.elim h h2),bt h]
theorem VR1.evoR(b:Evo (g1.plus F1) H1 g2 H2 F2)(h:VR1 K H2 g2 F2 kd d v F):VR1 K H2 (g2.minus F1) (λc=>F1 c\/F2 c) kd d v F:=by
 have k2:∀c o,H2 c=some o->¬Sx g2 F2 c->¬Sx (g2.minus F1) (λc=>F1 c\/F2 c) c:=λc o _ n z=>n ((BJ b c).mp z)
 cases kd with
 |sh=>exact⟨h.1,h.2.go λc o n e=>⟨e,k2 c o e n⟩⟩
 |fr k=>exact Tr.go (λ_ _ _ e=>e) k2 h
 |bo i k=>
  obtain⟨h1,F0,h2,h3⟩:=h;refine⟨h1,F0,λc z=>?_,Tr.go (λ_ _ _ e=>e) k2 h3⟩;rw[bt (λz1=>?_)]
  ·exact h2 c z
  ·have:=h2 c z;rw[(b.out c).mp (aR z1)] at this;cases this
theorem VRL.evoR(b:Evo (g1.plus F1) H1 g2 H2 F2):∀{kds:List KD} {vs:List V} {F:Pr},VRL K H2 g2 F2 kds vs F->VRL K H2 (g2.minus F1) (λc=>F1 c\/F2 c) kds vs F
 |[],_,_,h=>h
 |(kd,d)::r,_,_,h=>by
  obtain⟨y,ys,G1,G2,e,hF,dj,h1,h2⟩:=h;exact⟨y,ys,G1,G2,e,hF,dj,h1.evoR b,VRL.evoR b h2⟩
theorem nS(hb:bp kd=false)(a:Evo g H g1 H1 F1)(r1:VR1 K H1 g1 F1 kd d v F1)(b:Evo (g1.plus F1) H1 g2 H2 F2)(se:SE K (g2.plus F2) ρ2 σ H2)(r2:VRL K H2 g2 F2 kds vs F2) :
  Evo g H (g2.minus F1) H2 (λc=>F1 c\/F2 c)/\SE K ((g2.minus F1).plus (λc=>F1 c\/F2 c)) ρ2 σ H2/\VRL K H2 (g2.minus F1) (λc=>F1 c\/F2 c) ((kd,d)::kds) (v::vs) (λc=>F1 c\/F2 c):=by
 refine⟨a.trans b,by rw[gU b];exact se,v,vs,F1,F2,rfl,λc=>Iff.rfl,λc z1 z2=>?_,r1.evo hb b,r2.evoR b⟩;have:=(b.out c).mp (aR z1);rw[(b.tmp c z2).1] at this;cases this
end
noncomputable abbrev MR:=Option (Kd×D×Ro)
noncomputable def a8(X:Cx)(f:Ro->MR)(e:Expr):Prop:=∀ρ kd d ρ',f ρ=some (kd,d,ρ')->∀g σ H Q,SE X.K g ρ σ H->
 (∀v g' H' F,Evo g H g' H' F->SE X.K (g'.plus F) ρ' σ H'->VR1 X.K H' g' F kd d v F->Q v H')->wE X e σ H Q
noncomputable def nT(X:Cx)(f:Ro->Option (List KD×Ro))(es:List Expr):Prop:=∀ρ kds ρ',f ρ=some (kds,ρ')->∀g σ H Q,SE X.K g ρ σ H->
 (∀vs g' H' F,Evo g H g' H' F->SE X.K (g'.plus F) ρ' σ H'->VRL X.K H' g' F kds vs F->Q vs H')->wA X es σ H Q
noncomputable def eX(X:Cx)(f:Ro->Option (Bool×Ro))(e:Expr):Prop:=∀ρ b ρ',f ρ=some (b,ρ')->∀g σ H Q,SE X.K g ρ σ H->
 (∀g' H',Evo g H g' H' (λ_=>False)->SE X.K g' ρ' σ H'->Q b H')->wT X e σ H Q
section
variable {X:Cx}
theorem cw{g:Gh}{H H':Hp}{F:Pr}(s:Same H H')(hF:∀b,F b->H b=none)(hg:∀b,F b->g b=none):Evo g H g H' F:=
 ⟨λb o _ e=>s b o e,λ_=>Iff.rfl,λb i e=>.inl ⟨i,e⟩,λb z=>⟨hg b z,.inr (hF b z)⟩,λb o e=>⟨o,s b o e⟩⟩
theorem eB{g:Gh}{H:Hp}(m:MuOk H (Sg g)){b:Addr}(h:H b=none):g b=none:=by
 cases e:g b with
 |none=>rfl
 |some x=>obtain⟨o,q,_⟩:=m b (by rw[Sg,e];simp);rw[h] at q;cases q
theorem SndE.m{f:Ro->Option KD}(h:SndE X f e):a8 X (λρ=>(f ρ).map λp=>(p.1,p.2,ρ)) e:=by
 intro ρ kd d ρ' hr g σ H Q se q;dsimp only at hr
 cases hf:f ρ with
 |none=>rw[hf] at hr;cases hr
 |some p=>
  rw[hf] at hr;cases hr;refine h ρ p.1 p.2 hf g σ H Q se λv H' s ⟨F,h1,h2⟩=>?_;exact q v g H' F (cw s h1 λb z=>eB se.mu (h1 b z)) (se.plus s h1 h2.dom) h2
theorem SndT.m{f:Ro->Option Bool}(h:SndT X f e):eX X (λρ=>(f ρ).map λp=>(p,ρ)) e:=by
 intro ρ b ρ' hr g σ H Q se q;dsimp only at hr
 cases hf:f ρ with
 |none=>rw[hf] at hr;cases hr
 |some p=>
  rw[hf] at hr;cases hr;exact h ρ b hf g σ H Q se λH' s=>q g H' (cw s (λ_ z=>z.elim) λ_ z=>z.elim) (se.same s)
noncomputable def bW(kd:Kd)(d:D):Kd:=match kd with
 |.bo i k=>if pf d=true then .sh else .bo i k
 |k=>k
theorem VR1.im{g:Gh}(m:MuOk H (Sg (g.plus F)))(h:VR1 K H g F kd d v F):VR1 K H g F (bW kd d) d v F:=by
 cases kd with
 |sh=>exact h
 |fr k=>exact h
 |bo i k=>
  unfold bW;dsimp only;split
  ·rename_i hi;refine⟨h.1,h.rd.im (λb z=>m b ((ai b).mpr z)) hi⟩
  ·exact h
noncomputable def gf(a:MR)(r:Ro->Option (List KD×Ro)):Option (List KD×Ro):=match a with
 |some (kd,d,ρ1)=>if bp (bW kd d)=true then none else(match r ρ1 with|some (kds,ρ2)=>some ((bW kd d,d)::kds,ρ2)|none=>none)
 |none=>none
theorem yP{fa:Ro->MR}(hn:ad e=true)(ha:a8 X fa e)(hr:nT X fr es):nT X (λρ=>gf (fa ρ) fr) (e::es):=by
 intro ρ kds ρ' h g σ H Q se q;dsimp only[gf] at h;split at h
 ·rename_i kd d ρ1 e1;split at h
  ·cases h
  ·rename_i hb;split at h
   ·rename_i kds' ρ2 e2;cases h;refine jH (a7 au cq (ac hn)) (ha ρ kd d ρ1 e1 g σ H _ se λv g1 H1 F1 ev1 se1 r1=>hr ρ1 kds' ρ' e2 (g1.plus F1) σ H1 _ se1 λvs g2 H2 F2 ev2 se2 r2=>?_);obtain⟨c1,c2,c3⟩:=nS (by simpa using hb) ev1 (r1.im se1.mu) ev2 se2 r2;exact q (v::vs) _ H2 _ c1 c2 c3
   ·cases h
 ·cases h
noncomputable def fP(a:MR)(r:Ro->Option (List KD)):Option (List KD×Ro):=match a with
 |some (kd,d,ρ1)=>(match r ρ1 with|some kds=>some ((kd,d)::kds,ρ1)|none=>none)
 |none=>none
theorem q9{g g1:Gh}(a:Evo g H g1 H1 F1)(se:SE K (g1.plus F1) ρ1 σ H1)(r1:VR1 K H1 g1 F1 kd d v F1)(s:Same H1 H2)(r2:VRs K (g1.plus F1) H1 H2 kds vs) :
  ∃F,Evo g H g1 H2 F/\SE K (g1.plus F) ρ1 σ H2/\VRL K H2 g1 F ((kd,d)::kds) (v::vs) F:=by
 obtain⟨F2,b1,b2⟩:=r2
 have hd:∀c,F2 c->g1 c=none/\¬F1 c:=λc z=>by
  have:=eB se.mu (b1 c z);by_cases h:F1 c
  ·rw[aR h] at this;cases this
  ·rw[bK h] at this;exact⟨this,h⟩
 have h1:∀c,H1 c=none->H c=none:=λc q=>by
  cases e:H c with
  |none=>rfl
  |some o=>obtain⟨o',q'⟩:=a.dom c o e;rw[q] at q';cases q'
 refine⟨λc=>F1 c\/F2 c,⟨λc o n e=>s c o (a.keep c o n e),a.out,a.new,λc z=>z.elim (a.tmp c) λz=>⟨(hd c z).1,.inr (h1 c (b1 c z))⟩,λc o e=>let ⟨o',q⟩:=a.dom c o e;⟨o',s c o' q⟩⟩,?_,v,vs,F1,F2,rfl,λc=>Iff.rfl,λc z1 z2=>(hd c z2).2 z1,?_,b2.unplus⟩
 ·rw[<- iC];exact se.plus s b1 b2.dom
 ·exact r1.go s λc o e z=>z.elim id λz=>by rw[b1 c z] at e;cases e
theorem BK{fa:Ro->MR}(hn:ad e=true)(ha:a8 X fa e)(hr:jI X fr es):nT X (λρ=>fP (fa ρ) fr) (e::es):=by
 intro ρ kds ρ' h g σ H Q se q;dsimp only[fP] at h;split at h
 ·rename_i kd d ρ1 e1;split at h
  ·rename_i kds' e2;cases h;refine jH (a7 au cq (ac hn)) (ha ρ kd d ρ' e1 g σ H _ se λv g1 H1 F1 ev1 se1 r1=>hr ρ' kds' e2 (g1.plus F1) σ H1 _ se1 λvs H2 s2 r2=>?_);obtain⟨F,c1,c2,c3⟩:=q9 ev1 se1 r1 s2 r2;exact q (v::vs) g1 H2 F c1 c2 c3
  ·cases h
 ·cases h
open Classical in
noncomputable def je(H:Hp)(F:Pr):Hp:=λb=>if F b then none else H b
theorem dW:Same (je H F) H:=λb o e=>by
 unfold je at e;split at e
 ·cases e
 ·exact e
theorem iG{g:Gh}{F:Pr}(se:SE K (g.plus F) ρ σ H)(hg:∀b,F b->g b=none):MuOk (je H F) (Sg g):=λb z=>by
 have nF:¬F b:=λz2=>z (hg b z2);obtain⟨o,e,n⟩:=se.mu b ((ai b).mpr (.inl z));exact⟨o,by unfold je;rw[if_neg nF];exact e,n⟩
theorem pL{g g1:Gh}{H H1 H2:Hp}{F F2:Pr}(a:Evo g H g1 H1 F)(se:SE K (g1.plus F) ρ1 σ H1)(s:Same H1 H2)(h1:∀b,F2 b->je H1 F b=none)(dm:∀b,F2 b->∃o,H2 b=some o/\∀xs,o≠.tup xs):Evo g H g1 H2 F2/\SE K (g1.plus F2) ρ1 σ H2:=by
 have hF:∀b,F2 b->F b\/H1 b=none:=λb z=>by
  have:=h1 b z;unfold je at this;split at this
  ·rename_i q;exact .inl q
  ·exact .inr this
 have hn:∀c,H1 c=none->H c=none:=λc q=>by
  cases e:H c with
  |none=>rfl
  |some o=>obtain⟨o',q'⟩:=a.dom c o e;rw[q] at q';cases q'
 have hg2:∀b,F2 b->g1 b=none:=λb z=>by
  rcases hF b z with q|q
  ·exact(a.tmp b q).1
  ·have:=eB se.mu q;by_cases h:F b
   ·rw[aR h] at this;cases this
   ·rw[bK h] at this;exact this
 refine⟨⟨λc o n e=>s c o (a.keep c o n e),a.out,a.new,λc z=>⟨hg2 c z,(hF c z).elim (λq=>(a.tmp c q).2) λq=>.inr (hn c q)⟩,λc o e=>let ⟨o',q⟩:=a.dom c o e;⟨o',s c o' q⟩⟩,?_⟩;refine⟨λi sl e=>?_,λb z=>?_,se.len⟩
 ·obtain⟨v,F0,e1,e2,e3⟩:=se.slot i sl e;refine⟨v,F0,e1,λb z=>?_,e3.go (λb o _ e=>s b o e) λb o e n z=>?_⟩
  ·have:=bw (e2 b z);exact bI this λz2=>by rw[hg2 b z2] at this;cases this
  ·rcases(ai b).mp z with z|z
   ·exact n ((ai b).mpr (.inl z))
   ·rcases hF b z with q|q
    ·exact n ((ai b).mpr (.inr q))
    ·rw[q] at e;cases e
 ·rcases(ai b).mp z with z|z
  ·obtain⟨o,e,n⟩:=se.mu b ((ai b).mpr (.inl z));exact⟨o,s b o e,n⟩
  ·exact dm b z
theorem VRL.off(h:VRL K H g F kds vs F):VRs K g (je H F) H kds vs:=⟨F,λb z=>by unfold je;rw[if_pos z],h⟩
theorem StrictOk.m{f:List KD->Option KD}{fa:Ro->Option (List KD×Ro)}(h:StrictOk X f es node)(ha:nT X fa es):a8 X (λρ=>(fa ρ).bind λp=>(f p.1).map λq=>(q.1,q.2,p.2)) node:=by
 intro ρ kd d ρ' hd g σ H Q se q;dsimp only at hd
 cases e:fa ρ with
 |none=>rw[e] at hd;cases hd
 |some p=>
  obtain⟨kds,ρ1⟩:=p;rw[e] at hd;dsimp only[Lr] at hd
  cases e2:f kds with
  |none=>rw[e2] at hd;cases hd
  |some r=>
   rw[e2] at hd;cases hd;refine h kds r.1 r.2 e2 σ H Q (ha ρ kds _ e g σ H _ se λvs g1 H1 F ev se1 r1=>⟨g1,je H1 F,iG se1 λb z=>(ev.tmp b z).1,dW,r1.off,λv H2 s2 r2=>?_⟩);obtain⟨F2,b1,b2⟩:=r2;obtain⟨c1,c2⟩:=pL ev se1 s2 b1 b2.dom;exact q v g1 H2 F2 c1 c2 b2
end
end J
namespace J
open PySem PySem.Spec L2
noncomputable abbrev jf:=Ow×D
noncomputable abbrev Fm:=List jf->Option (Kd×D×List (Option jf))
noncomputable def Dh(p:jf):Option Sl:=some ⟨false,p.1,p.2⟩
noncomputable def Di(p:Option jf):Option Sl:=p.map λp=>⟨false,p.1,p.2⟩
noncomputable def z6(K:Km)(φ:Fm):Sp:=λvs H Q _=>∃ks g kd d outs,SE K g (ks.map Dh) (vs.map some) H/\φ ks=some (kd,d,outs)/\
 ∀v g' H' F,Evo g H g' H' F->SE K (g'.plus F) (outs.map Di) (vs.map some) H'->VR1 K H' g' F kd d v F->Q v H'
set_option genInjectivity true in
inductive RA where
 |ref (i:Nat)|val (kd:Kd) (d:D)
noncomputable def VRA(K:Km)(H:Hp)(g:Gh)(Ft:Pr)(σ:L2.St):List RA->List V->Pr->Prop
 |[],vs,F=>vs=[]/\∀b,¬F b
 |.ref i::r,vs,F=>∃y ys,vs=y::ys/\σ[i]?=some (some y)/\VRA K H g Ft σ r ys F
 |.val kd d::r,vs,F=>∃y ys F1 F2,vs=y::ys/\(∀b,F b↔F1 b\/F2 b)/\(∀b,F1 b->¬F2 b)/\VR1 K H g Ft kd d y F1/\VRA K H g Ft σ r ys F2
noncomputable def iW(X:Cx)(f:Ro->Option (List RA×Ro))(es:List Expr):Prop:=∀ρ ras ρ',f ρ=some (ras,ρ')->∀g σ H Q,SE X.K g ρ σ H->
 (∀vs g' H' F,Evo g H g' H' F->SE X.K (g'.plus F) ρ' σ H'->VRA X.K H' g' F σ ras vs F->Q vs H')->wA X es σ H Q
section
variable {K:Km} {H H1 H2:Hp} {g g1 g2:Gh} {F1 F2:Pr} {σ:L2.St}
theorem VRA.evoR(b:Evo (g1.plus F1) H1 g2 H2 F2):∀{ras:List RA} {vs:List V} {F:Pr},VRA K H2 g2 F2 σ ras vs F->VRA K H2 (g2.minus F1) (λc=>F1 c\/F2 c) σ ras vs F
 |[],_,_,h=>h
 |.ref i::r,_,_,h=>by
  obtain⟨y,ys,e,e2,h2⟩:=h;exact⟨y,ys,e,e2,VRA.evoR b h2⟩
 |.val kd d::r,_,_,h=>by
  obtain⟨y,ys,G1,G2,e,hF,dj,h1,h2⟩:=h;exact⟨y,ys,G1,G2,e,hF,dj,h1.evoR b,VRA.evoR b h2⟩
theorem aN{g:Gh}{F:Pr}(h:∀b,¬F b):g.plus F=g:=by
 funext b;exact bK (h b)
end
section
variable {X:Cx}
theorem EJ:iW X (λρ=>some ([],ρ)) []:=by
 intro ρ ras ρ' h g σ H Q se q;cases h;refine jH cF (q [] g H (λ_=>False) (.refl g H) ?_ ⟨rfl,λ_ z=>z⟩);rw[aN λ_ z=>z];exact se
noncomputable def rc(i:Nat)(o:Option (Option Sl))(r:Option (List RA×Ro)):Option (List RA×Ro):=match o,r with
 |some (some _),some (ras,ρ')=>some (.ref i::ras,ρ')
 |_,_=>none
theorem EK(O:al X Γ c){x:Str}{i:Nat}{p:Pos}{es:List Expr}{fr:Ro->Option (List RA×Ro)}(hc:d9 c x=some i)(hr:iW X fr es):iW X (λρ=>rc i ρ[i]? (fr ρ)) (.Name x p::es):=by
 intro ρ ras ρ' h g σ H Q se q;dsimp only[rc] at h;split at h
 ·rename_i sl ras' ρ2 e1 e2;cases h;have hv:SndE X (λρ=>nB i ρ[i]?) (.Name x p):=zY O hc p;obtain⟨v0,ev0,_⟩:=se.get e1
  -- the name gives that very value
  refine jH (a7 au cq (ac rfl)) ?_;unfold d9 at hc;split at hc
  ·rename_i j hj;split at hc
   ·rename_i hv;cases hc;simp only[Kn,l9,K4] at hv;refine ak (oY (i:=i) (by rw[O.N];exact bc hj) (by rw[O.sc];exact l8 hv.1) hv.2.1 hv.2.2) ⟨v0,ev0,?_⟩;exact hr ρ ras' ρ' e2 g σ H _ se λvs g' H' F ev se' r=>q (v0::vs) g' H' F ev se' ⟨v0,vs,rfl,ev0,r⟩
   ·cases hc
  ·cases hc
 ·cases h
noncomputable def rh(a:MR)(r:Ro->Option (List RA×Ro)):Option (List RA×Ro):=match a with
 |some (kd,d,ρ1)=>if bp (bW kd d)=true then none else(match r ρ1 with|some (ras,ρ2)=>some (.val (bW kd d) d::ras,ρ2)|none=>none)
 |none=>none
theorem EL{fa:Ro->MR}(hn:ad e=true)(ha:a8 X fa e)(hr:iW X fr es):iW X (λρ=>rh (fa ρ) fr) (e::es):=by
 intro ρ ras ρ' h g σ H Q se q;dsimp only[rh] at h;split at h
 ·rename_i kd d ρ1 e1;split at h
  ·cases h
  ·rename_i hb;split at h
   ·rename_i ras' ρ2 e2;cases h;refine jH (a7 au cq (ac hn)) (ha ρ kd d ρ1 e1 g σ H _ se λv g1 H1 F1 ev1 se1 r1=>hr ρ1 ras' ρ' e2 (g1.plus F1) σ H1 _ se1 λvs g2 H2 F2 ev2 se2 r2=>?_);refine q (v::vs) _ H2 _ (ev1.trans ev2) (by rw[gU ev2];exact se2) ⟨v,vs,F1,F2,rfl,λc=>Iff.rfl,λc z1 z2=>?_,(r1.im se1.mu).evo (by simpa using hb) ev2,r2.evoR ev2⟩;have:=(ev2.out c).mp (aR z1);rw[(ev2.tmp c z2).1] at this;cases this
   ·cases h
 ·cases h
end
noncomputable def bU:List RA->List Nat
 |[]=>[]
 |.ref i::r=>i::bU r
 |.val _ _::r=>bU r
noncomputable def eC(ρ:Ro):List RA->Option (List jf)
 |[]=>some []
 |.ref i::r=>match ρ[i]?,eC ρ r with
  |some (some ⟨false,k,d⟩),some ks=>some ((k,d)::ks)
  |_,_=>none
 |.val kd d::r=>if bp kd=true then none else(eC ρ r).map ((.fz,d)::·)
noncomputable def c8:List RA->Ro->Ro->Ro
 |.ref i::r,o::os,ρ=>c8 r os (ρ.set i o)
 |.val _ _::r,_::os,ρ=>c8 r os ρ
 |_,_,ρ=>ρ
noncomputable def mC(ras:List RA)(i:Nat):Option Nat:=ras.findIdx? λa=>match a with|.ref j=>j==i|_=>false
noncomputable def BL(φ:Option Fm)(a:Option (List RA×Ro)):MR:=match φ,a with
 |some φ,some (ras,ρ)=>if(bU ras).Nodup then(match eC ρ ras with
  |some ks=>(match φ ks with
   |some (kd,d,outs)=>if bp kd=true\/outs.length≠ras.length then none else some (kd,d,c8 ras (outs.map Di) ρ)
   |none=>none)
  |none=>none) else none
 |_,_=>none
section
theorem gg{ρ:Ro}:∀{ras:List RA} {ks:List jf},eC ρ ras=some ks->ks.length=ras.length/\∀(j:Nat) a,ras[j]?=some a->∃k d,ks[j]?=some (k,d)/\(match a with|.ref i=>ρ[i]?=some (some ⟨false,k,d⟩)|.val kd d'=>k=.fz/\d=d'/\bp kd=false)
 |[],ks,h=>by cases h;exact⟨rfl,λj a e=>by simp at e⟩
 |.ref i::r,ks,h=>by
  unfold eC at h;split at h
  ·rename_i k d ks' e1 e2;cases h;obtain⟨l,g⟩:=gg e2;refine⟨by simp[l],λj a e=>?_⟩
   cases j with
   |zero=>simp at e;subst e;exact⟨k,d,rfl,e1⟩
   |succ j=>simpa using g j a (by simpa using e)
  ·cases h
 |.val kd d::r,ks,h=>by
  unfold eC at h;split at h
  ·cases h
  ·rename_i hb;obtain⟨ks',e,rfl⟩:=aH h;obtain⟨l,g⟩:=gg e;refine⟨by simp[l],λj a e=>?_⟩
   cases j with
   |zero=>simp at e;subst e;exact⟨.fz,d,rfl,rfl,rfl,by simpa using hb⟩
   |succ j=>simpa using g j a (by simpa using e)
theorem gW:∀{ras:List RA} {i j:Nat},mC ras i=some j->ras[j]?=some (.ref i)
 |[],i,j,h=>by simp[mC] at h
 |a::r,i,j,h=>by
  unfold mC at h;rw[Lm] at h
  cases a with
  |ref k=>
   by_cases e:k=i
   ·subst e;simp at h;subst h;rfl
   ·have e':(k==i)=false:=by simpa using e
    simp only[e'] at h;obtain⟨j',h',rfl⟩:=aH (by simpa using h);simpa using gW (ras:=r) (by unfold mC;exact h')
  |val kd d=>
   simp only at h;obtain⟨j',h',rfl⟩:=aH (by simpa using h);simpa using gW (ras:=r) (by unfold mC;exact h')
theorem eY:∀{ras:List RA} {j i:Nat},ras[j]?=some (.ref i)->i∈bU ras
 |[],_,_,h=>by simp at h
 |a::r,0,i,h=>by simp at h;subst h;exact KF
 |.ref k::r,j+1,i,h=>Kx _ (eY (by simpa using h))
 |.val kd d::r,j+1,i,h=>eY (ras:=r) (by simpa using h)
theorem pM:∀{ras:List RA} {j i:Nat},(bU ras).Nodup->ras[j]?=some (.ref i)->mC ras i=some j
 |[],_,_,_,h=>by simp at h
 |.ref k::r,0,i,_,h=>by simp at h;subst h;simp[mC,Lm]
 |.val kd d::r,0,i,_,h=>by simp at h
 |.ref k::r,j+1,i,hn,h=>by
  have hm:=eY (ras:=r) (j:=j) (i:=i) (by simpa using h);have hn':k∉bU r/\(bU r).Nodup:=Li.mp hn
  have e:(k==i)=false:=by
   simp only[beq_eq_false_iff_ne,ne_eq];intro z;subst z;exact hn'.1 hm
  have ih:=pM hn'.2 (by simpa using h:r[j]?=some (.ref i));unfold mC at ih⊢;rw[Lm];simp only[e,ih];rfl
 |.val kd d::r,j+1,i,hn,h=>by
  have ih:=pM (ras:=r) hn (by simpa using h:r[j]?=some (.ref i));unfold mC at ih⊢;rw[Lm];simp only[ih];rfl
theorem iH:∀{ras:List RA} {outs:Ro} {ρ:Ro},(c8 ras outs ρ).length=ρ.length
 |[],_,_=>rfl
 |.ref i::r,[],_=>rfl
 |.val _ _::r,[],_=>rfl
 |.ref i::r,o::os,ρ=>by simp only[c8];rw[iH];simp
 |.val _ _::r,o::os,ρ=>by simp only[c8];exact iH
theorem iI:∀{ras:List RA} {outs:Ro} {ρ:Ro},(bU ras).Nodup->outs.length=ras.length->∀(i:Nat) sl,(c8 ras outs ρ)[i]?=some (some sl)->(i∉bU ras/\ρ[i]?=some (some sl))\/∃(j:Nat),ras[j]?=some (RA.ref i)/\outs[j]?=some (some sl)
 |[],outs,ρ,_,_,i,sl,h=>by cases outs<;>exact .inl ⟨by simp[bU],h⟩
 |.ref k::r,[],ρ,_,hl,i,sl,h=>by simp at hl
 |.val kd d::r,[],ρ,_,hl,i,sl,h=>by simp at hl
 |.val kd d::r,o::os,ρ,hn,hl,i,sl,h=>by
  simp only[c8] at h;rcases iI (ras:=r) hn (by simpa using hl) i sl h with⟨q1,q2⟩|⟨j,q1,q2⟩
  ·exact .inl ⟨q1,q2⟩
  ·exact .inr ⟨j+1,by simpa using q1,by simpa using q2⟩
 |.ref k::r,o::os,ρ,hn,hl,i,sl,h=>by
  simp only[c8] at h;have hn':k∉bU r/\(bU r).Nodup:=Li.mp hn;rcases iI (ras:=r) hn'.2 (by simpa using hl) i sl h with⟨q1,q2⟩|⟨j,q1,q2⟩
  ·by_cases e:i=k
   ·subst e
    have hlt:i<ρ.length:=by
     have:=(Ky.mp q2).1;simpa using this
    rw[KM hlt] at q2;exact .inr ⟨0,rfl,q2⟩
   ·rw[KJ (Ne.symm e)] at q2;exact .inl ⟨by simp only[bU,Ku,not_or];exact⟨e,q1⟩,q2⟩
  ·exact .inr ⟨j+1,by simpa using q1,by simpa using q2⟩
end
end J
namespace J
open PySem PySem.Spec L2
section
variable {K:Km} {H H1 H2:Hp} {g g1:Gh} {F:Pr} {σ:L2.St} {ρ:Ro}
theorem VRA.get:∀{ras:List RA} {vs:List V} {F:Pr},VRA K H g Ft σ ras vs F->vs.length=ras.length/\∀(j:Nat) a,ras[j]?=some a->∃y,vs[j]?=some y/\(match a with|.ref i=>σ[i]?=some (some y)|.val kd d=>∃Fj:Pr,(∀b,Fj b->F b)/\VR1 K H g Ft kd d y Fj)
 |[],vs,F,h=>by obtain⟨rfl,_⟩:=h;exact⟨rfl,λj a e=>by simp at e⟩
 |.ref i::r,vs,F,h=>by
  obtain⟨y,ys,rfl,e,h2⟩:=h;obtain⟨l,q⟩:=VRA.get h2;refine⟨by simp[l],λj a ea=>?_⟩
  cases j with
  |zero=>simp at ea;subst ea;exact⟨y,rfl,e⟩
  |succ j=>simpa using q j a (by simpa using ea)
 |.val kd d::r,vs,F,h=>by
  obtain⟨y,ys,F1,F2,rfl,hF,dj,h1,h2⟩:=h;obtain⟨l,q⟩:=VRA.get h2;refine⟨by simp[l],λj a ea=>?_⟩
  cases j with
  |zero=>simp at ea;subst ea;exact⟨y,rfl,F1,λb z=>(hF b).mpr (.inl z),h1⟩
  |succ j=>
   obtain⟨y',e1,e2⟩:=q j a (by simpa using ea);refine⟨y',by simpa using e1,?_⟩
   cases a with
   |ref i=>exact e2
   |val kd d=>obtain⟨Fj,f1,f2⟩:=e2;exact⟨Fj,λb z=>(hF b).mpr (.inr (f1 b z)),f2⟩
theorem EM{ks:List jf}{vs:List V}(hn:(bU ras).Nodup)(hh:eC ρ ras=some ks)(hg:∀b,F b->g1 b=none)(se:SE K (g1.plus F) ρ σ H1)(r:VRA K H1 g1 F σ ras vs F):SE K (g1.re (mC ras)) (ks.map Dh) (vs.map some) H1:=by
 obtain⟨lk,gk⟩:=gg hh;obtain⟨lv,gv⟩:=r.get;have gS:∀b,Sg (g1.re (mC ras)) b->Sg (g1.plus F) b:=λb z=>(ai b).mpr (.inl ((nO b).mp z));refine⟨λj sl e=>?_,λb z=>se.mu b (gS b z),by simp[lk,lv]⟩;rw[Kr] at e
 cases ek:ks[j]? with
 |none=>rw[ek] at e;cases e
 |some p=>
  rw[ek] at e;cases e;have hj:j<ras.length:=by rw[<- lk];exact(Ky.mp ek).1
  have ea:ras[j]?=some ras[j]:=Ko hj;obtain⟨k,d,ek',m⟩:=gk j _ ea;rw[ek] at ek';cases ek';obtain⟨y,ey,m2⟩:=gv j _ ea;generalize ras[j]=a at ea m m2
  cases a with
  |ref i=>
   have m:ρ[i]?=some (some ⟨false,k,d⟩):=m;have m2:σ[i]?=some (some y):=m2;obtain⟨v,Fi,e1,e2,e3⟩:=se.slot i _ m;rw[m2] at e1;cases e1;refine⟨y,Fi,by simp[ey],λb z=>?_,e3.go (λ_ _ _ e=>e) λb o _ n z=>n (gS b z)⟩;unfold Gh.re;rw[bw (e2 b z)];show some (mC ras i)=_;rw[pM hn ea]
  |val kd' d'=>
   obtain⟨rfl,rfl,hb⟩:k=.fz/\d=d'/\bp kd'=false:=m;obtain⟨Fj,f1,f2⟩:=m2;refine⟨y,λ_=>False,by simp[ey],λb z=>z.elim,.fz ?_⟩;have hS:∀b,Sg (g1.re (mC ras)) b->g1 b≠none:=λb z=>(nO b).mp z
   cases kd' with
   |sh=>exact f2.2.weak λb z=>.inl (hS b z)
   |fr c=>exact Tr.rp (λb z=>⟨.inl (hS b z),λz2=>hS b z (hg b (f1 b z2))⟩) f2
   |bo i c=>cases hb
noncomputable def c9(g1 gc:Gh)(ras:List RA):Gh:=λb=>match gc b with
 |some (some j)=>(match ras[j]? with|some (.ref i)=>some (some i)|_=>none)
 |some none=>g1 b
 |none=>none
theorem yQ{gc:Gh}{ras:List RA}{j i:Nat}(h:gc b=some (some j))(e:ras[j]?=some (.ref i)):c9 g1 gc ras b=some (some i):=by
 unfold c9;rw[h];dsimp only;rw[e]
theorem nU{gc:Gh}(h:gc b=some none):c9 g1 gc ras b=g1 b:=by unfold c9;rw[h]
theorem mE{gc:Gh}(h:gc b=none):c9 g1 gc ras b=none:=by unfold c9;rw[h]
theorem j0{gc:Gh}{ras:List RA}(h:c9 g1 gc ras b=some x):(∃j i,gc b=some (some j)/\ras[j]?=some (.ref i)/\x=some i)\/(gc b=some none/\g1 b=some x):=by
 unfold c9 at h;split at h
 ·rename_i j e;split at h
  ·rename_i i e2;cases h;exact .inl ⟨j,i,e,e2,rfl⟩
  ·cases h
 ·rename_i e;exact .inr ⟨e,h⟩
 ·cases h
theorem rj{m:Nat->Option Nat}{j:Nat}(h:g.re m b=some (some j)):∃i,g b=some (some i)/\m i=some j:=by
 unfold Gh.re at h
 cases q:g b with
 |none=>simp[q] at h
 |some x=>
  cases x with
  |none=>simp[q] at h
  |some i=>simp[q] at h;exact⟨i,rfl,h⟩
theorem EN(h:g b=none):g.re m b=none:=by unfold Gh.re;rw[h]
theorem HN(h:g b=some none):g.re m b=some none:=by unfold Gh.re;rw[h]
theorem HP{m:Nat->Option Nat}{i:Nat}(h:g b=some (some i)):g.re m b=some (m i):=by unfold Gh.re;rw[h]
theorem ln{ras:List RA}{gc:Gh}{ρc:Ro}{σc:L2.St}(hn:(bU ras).Nodup)(hol:ρc.length=ras.length)(hbo:bp kd=false)(a:Evo g H g1 H1 F)(se:SE K (g1.plus F) ρ σ H1)(hσ:∀(j i:Nat) sl w,ras[j]?=some (.ref i)->ρc[j]?=some (some sl)->σc[j]?=some (some w)->σ[i]?=some (some w))(ev:Evo (g1.re (mC ras)) H1 gc H2 Fr)(sec:SE K (gc.plus Fr) ρc σc H2)(rv:VR1 K H2 gc Fr kd d v Fr) :
  Evo g H (c9 g1 gc ras) H2 Fr/\SE K ((c9 g1 gc ras).plus Fr) (c8 ras ρc ρ) σ H2/\VR1 K H2 (c9 g1 gc ras) Fr kd d v Fr:=by
 have hn0:∀c,H1 c=none->H c=none:=λc q=>by
  cases e:H c with
  |none=>rfl
  |some o=>obtain⟨o',q'⟩:=a.dom c o e;rw[q] at q';cases q'
 -- frozen ones stay so
 have froz:∀b o,H1 b=some o->g1 b=none->c9 g1 gc ras b=none/\¬Fr b:=λb o e n=>by
  obtain⟨f1,f2⟩:=ev.froz e (EN n);exact⟨mE f1,f2⟩
 have slotF:∀b i,g1 b=some (some i)->(∃j,g b=some (some j))\/H b=none:=λb i e=>a.new b i e
 have fromS:∀b j,gc b=some (some j)->(∃k,g b=some (some k))\/H b=none:=λb j e=>by
  rcases ev.new b j e with⟨k,q⟩|q
  ·obtain⟨i,q1,_⟩:=rj q;exact slotF b i q1
  ·exact .inr (hn0 b q)
 have evo:Evo g H (c9 g1 gc ras) H2 Fr:=by
  refine⟨λb o n e=>?_,λb=>⟨λe=>?_,λe=>?_⟩,λb i e=>?_,λb z=>?_,λb o e=>?_⟩
  ·refine ev.keep b o (λj q=>?_) (a.keep b o n e);obtain⟨i,q1,_⟩:=rj q;rcases a.new b i q1 with⟨k,q2⟩|q2
   ·exact n k q2
   ·rw[e] at q2;cases q2
  ·have e1:=(a.out b).mp e;have e2:=(ev.out b).mp (HN e1);rw[nU e2];exact e1
  ·rcases j0 e with⟨j,i,_,_,z⟩|⟨_,e1⟩
   ·cases z
   ·exact(a.out b).mpr e1
  ·rcases j0 e with⟨j,i',e1,_,_⟩|⟨_,e1⟩
   ·exact fromS b j e1
   ·exact slotF b i e1
  ·obtain⟨t1,t2⟩:=ev.tmp b z;refine⟨mE t1,?_⟩;rcases t2 with⟨j,q⟩|q
   ·obtain⟨i,q1,_⟩:=rj q;exact slotF b i q1
   ·exact .inr (hn0 b q)
  ·obtain⟨o1,e1⟩:=a.dom b o e;exact ev.dom b o1 e1
 have gcS:∀b,Sg (c9 g1 gc ras) b->Sg gc b:=λb z z2=>z (mE z2);refine⟨evo,⟨λi sl e=>?_,λb z=>?_,by rw[iH];exact se.len⟩,?_⟩
 ·rcases iI hn hol i sl e with⟨ni,e1⟩|⟨j,ej,eo⟩
  ·-- a slot that was not eC in
   obtain⟨w,Fi,e2,e3,e4⟩:=se.slot i sl e1
   have lab:∀b,Fi b->g1 b=some (some i)/\gc b=some none:=λb z=>by
    have q1:=bw (e3 b z);refine⟨q1,(ev.out b).mp ?_⟩;rw[HP q1]
    cases q2:mC ras i with
    |none=>rfl
    |some j=>exact absurd (eY (gW q2)) ni
   refine⟨w,Fi,e2,λb z=>?_,e4.go (λb o hb e=>ev.keep b o (λj q=>?_) e) λb o e n z=>?_⟩
   ·obtain⟨l1,l2⟩:=lab b z;refine bI (by rw[nU l2];exact l1) λz2=>?_;rw[(ev.tmp b z2).1] at l2;cases l2
   ·obtain⟨k,q1,q2⟩:=rj q;rcases hb with hb|hb
    ·exact hb ((ai b).mpr (.inl (by rw[Sg,q1];simp)))
    ·rw[(lab b hb).1] at q1;cases q1;exact absurd (eY (gW q2)) ni
   ·have nF:g1 b=none:=by
     cases q1:g1 b with
     |none=>rfl
     |some x=>exact absurd ((ai b).mpr (.inl (by rw[Sg,q1];simp))) n
    obtain⟨f1,f2⟩:=froz b o e nF;rcases(ai b).mp z with z|z
    ·exact z f1
    ·exact f2 z
  ·-- one that was
   obtain⟨w,Fj,e2,e3,e4⟩:=sec.slot j sl eo;refine⟨w,Fj,hσ j i sl w ej eo e2,λb z=>?_,e4.go (λ_ _ _ e=>e) λb o e n z=>?_⟩
   ·have q1:=bw (e3 b z);refine bI (yQ q1 ej) λz2=>?_;rw[(ev.tmp b z2).1] at q1;cases q1
   ·rcases(ai b).mp z with z|z
    ·exact n ((ai b).mpr (.inl (gcS b z)))
    ·exact n ((ai b).mpr (.inr z))
 ·rcases(ai b).mp z with z|z
  ·exact sec.mu b ((ai b).mpr (.inl (gcS b z)))
  ·exact sec.mu b ((ai b).mpr (.inr z))
 ·have k2:∀b o,H2 b=some o->¬Sx gc Fr b->¬Sx (c9 g1 gc ras) Fr b:=λb o _ n z=>n (z.imp (gcS b) id)
  cases kd with
  |sh=>exact⟨rv.1,rv.2.go λb o n e=>⟨e,k2 b o e n⟩⟩
  |fr k=>exact Tr.go (λ_ _ _ e=>e) k2 rv
  |bo i k=>cases hbo
theorem yR{Q:VK}(h:BL (some φ) (some (ras,ρ))=some (kd,d,ρ2))(a:Evo g H g1 H1 F)(se:SE K (g1.plus F) ρ σ H1)(r:VRA K H1 g1 F σ ras vs F)(q:∀v g' H' F',Evo g H g' H' F'->SE K (g'.plus F') ρ2 σ H'->VR1 K H' g' F' kd d v F'->Q v H'):z6 K φ vs H1 Q E:=by
 unfold BL at h;dsimp only at h;split at h
 ·rename_i hn;split at h
  ·rename_i ks hh;split at h
   ·rename_i kd' d' outs hφ;split at h
    ·cases h
    ·rename_i hc;cases h
     have hbo:bp kd=false:=by
      cases e:bp kd with
      |false=>rfl
      |true=>exact absurd (.inl e) hc
     have hol:outs.length=ras.length:=Classical.byContradiction λz=>hc (.inr z);refine⟨ks,g1.re (mC ras),kd,d,outs,EM hn hh (λb z=>(a.tmp b z).1) se r,hφ,λv gc H2 Fr ev sec rv=>?_⟩;obtain⟨_,gv⟩:=r.get
     obtain⟨c1,c2,c3⟩:=ln hn (by rw[Kp];exact hol) hbo a se (λj i sl w ej _ ew=>by
      obtain⟨y,ey,m⟩:=gv j _ ej;have m:σ[i]?=some (some y):=m;rw[Kr,ey] at ew;cases ew;exact m) ev sec rv
     exact q v _ H2 Fr c1 c2 c3
   ·cases h
  ·cases h
 ·cases h
end
end J
namespace J
open PySem PySem.Spec L2
noncomputable def clr(ps:List (Nat×D))(ρ:Ro):Ro:=ps.foldl (λρ p=>ρ.set p.1 none) ρ
noncomputable def vK(cap:List (Option Nat))(ps:List (Nat×D)):Bool:=ps.all λp=>match cap[p.1]? with|some none=>true|_=>false
noncomputable def gh(cap:List (Option Nat))(tg:IT)(ft:Ro->Option (Bool×Ro))(fe:Ro->MR)(d:D)(ρ0:Ro):Option (Option KD×Ro):=match m7 tg d with
 |some ps=>if c6 ps ρ0=true/\vK cap ps=true then(match ft (setAll ps ρ0) with
  |some (true,ρt)=>(match fe ρt with|some (kd,d,ρ1)=>some (some (bW kd d,d),clr ps ρ1)|none=>none)
  |some (false,ρt)=>some (none,clr ps ρt)
  |none=>none) else none
 |none=>none
noncomputable def aw(r:Ow)(f:D->Ro->Option (Option KD×Ro)):List D->Ro->Option (List D×Ro)
 |[],ρ=>some ([],ρ)
 |d::ds,ρ=>match f d ρ with
  |some (some kd,ρ1)=>if cP r kd=true then(match aw r f ds ρ1 with|some (ys,ρ2)=>some (kd.2::ys,ρ2)|none=>none) else none
  |some (none,ρ1)=>aw r f ds ρ1
  |none=>none
theorem gm:∀{a b:List D} {ρ ρ':Ro} {ys:List D},aw r f (a++b) ρ=some (ys,ρ')->∃x ρ1 y,aw r f a ρ=some (x,ρ1)/\aw r f b ρ1=some (y,ρ')/\ys=x++y
 |[],b,ρ,ρ',ys,h=>⟨[],ρ,ys,rfl,h,rfl⟩
 |d::a,b,ρ,ρ',ys,h=>by
  rw[LV] at h;unfold aw at h;split at h
  ·rename_i kd ρ1 e1;split at h
   ·rename_i hf;split at h
    ·rename_i zs ρ2 e2;cases h;obtain⟨x,ρ3,y,h1,h2,rfl⟩:=gm e2;exact⟨kd.2::x,ρ3,y,by simp[aw,e1,h1,hf],h2,rfl⟩
    ·cases h
   ·cases h
  ·rename_i ρ1 e1;obtain⟨x,ρ3,y,h1,h2,rfl⟩:=gm h;exact⟨x,ρ3,y,by simp[aw,e1,h1],h2,rfl⟩
  ·cases h
theorem dC:∀{a:List D} {d:D} {x y:List D} {ρ ρ1 ρ2:Ro},aw r f a ρ=some (x,ρ1)->aw r f [d] ρ1=some (y,ρ2)->aw r f (a++[d]) ρ=some (x++y,ρ2)
 |[],d,x,y,ρ,ρ1,ρ2,h,h1=>by cases h;exact h1
 |e::a,d,x,y,ρ,ρ1,ρ2,h,h1=>by
  unfold aw at h;rw[LV];unfold aw;split at h
  ·rename_i kd ρ3 e1;split at h
   ·rename_i hf;split at h
    ·rename_i zs ρ4 e2;cases h;rw[dC e2 h1];simp[hf]
    ·cases h
   ·cases h
  ·rename_i ρ3 e1;exact dC h h1
  ·cases h
theorem nV{f:D->Ro->Option (Option KD×Ro)}{ds ys:List D}(h:aw r f ds ρ=some (ys,ρ')){i:Nat}{d:D}(e:ds[i]?=some d){x:List D}{ρi:Ro}(hx:aw r f (ds.take i) ρ=some (x,ρi)) :
  (∃ρ1,f d ρi=some (none,ρ1)/\aw r f (ds.take (i+1)) ρ=some (x,ρ1))\/∃kd ρ1,f d ρi=some (some kd,ρ1)/\cP r kd=true/\aw r f (ds.take (i+1)) ρ=some (x++[kd.2],ρ1):=by
 have hs:ds=ds.take i++(d::ds.drop (i+1)):=by
  obtain⟨hl,rfl⟩:=Ky.mp e;rw[<- L1 hl,MM]
 have ht:ds.take (i+1)=ds.take i++[d]:=by rw[L7,e];rfl
 rw[hs] at h;obtain⟨x',ρ1,y,h1,h2,_⟩:=gm h;rw[hx] at h1;cases h1;unfold aw at h2;rw[ht];split at h2
 ·rename_i kd ρ2 e1;split at h2
  ·rename_i hf;exact .inr ⟨kd,ρ2,e1,hf,dC hx (by simp[aw,e1,hf])⟩
  ·cases h2
 ·rename_i ρ2 e1;exact .inl ⟨ρ2,e1,by simpa using dC hx (y:=[]) (by simp[aw,e1])⟩
 ·cases h2
theorem gp:∀{ds ys:List D} {ρ ρ':Ro},aw r f ds ρ=some (ys,ρ')->ys.length<=ds.length
 |[],ys,ρ,ρ',h=>by cases h;exact Kw _
 |d::ds,ys,ρ,ρ',h=>by
  unfold aw at h;split at h
  ·rename_i kd ρ1 e1;split at h
   ·split at h
    ·rename_i zs ρ2 e2;cases h;have:=gp e2;simp;lia
    ·cases h
   ·cases h
  ·rename_i ρ1 e1;have:=gp h;simp;lia
  ·cases h
noncomputable abbrev IR:=Option (List Nat×List D×Ro)
noncomputable def gX(X:Cx)(f:Ro->IR)(tg iter:Expr):Prop:=∀ρ bs ds ρ1,f ρ=some (bs,ds,ρ1)->∀g σ H R,SE X.K g ρ σ H->
 (∀J s g1 H1,Evo g H g1 H1 (λ_=>False)->SE X.K g1 ρ1 σ H1->jb X.K J s ds->s.P X.K g1 H1->s.from g1 H1 bs->R J H1)->wI X tg iter σ H R
noncomputable def BM(a:Option (List Nat×List D))(ρ:Ro):IR:=match a with|some (bs,ds)=>some (bs,ds,ρ)|none=>none
theorem SndI.m{f:Ro->Option (List Nat×List D)}(h:SndI X f tg iter):gX X (λρ=>BM (f ρ) ρ) tg iter:=by
 intro ρ bs ds ρ1 hf g σ H R se q;dsimp only[BM] at hf;split at hf
 ·rename_i bs' ds' e;cases hf;refine h ρ bs ds e g σ H R se λJ s H1 s1 jt sp sf=>q J s g H1 (cw s1 (λ_ z=>z.elim) λ_ z=>z.elim) (se.same s1) jt sp sf.from_H
 ·cases hf
noncomputable def gY(cap:List (Option Nat)):List RA:=cap.map λo=>match o with|some i=>.ref i|none=>.val .sh .non
noncomputable def gq(r:Ow)(it:IR)(f:D->Ro->Option (Option KD×Ro))(cap:List (Option Nat)):MR:=match it with
 |some (bs,ds,ρ)=>if bs=[]/\ds.length<=100000 then(match aw r f ds (bP ρ cap) with|some (ys,ρc)=>if ρc.length=cap.length then some (.fr (.own [] r),.lst ys,c8 (gY cap) ρc ρ) else none|none=>none) else none
 |none=>none
theorem iJ:∀cap:List (Option Nat),bU (gY cap)=cap.filterMap id
 |[]=>rfl
 |none::r=>by
  have:=iJ r;simp only[gY,K6,bU] at this⊢;simpa using this
 |some i::r=>by
  have:=iJ r;simp only[gY,K6,bU] at this⊢;simpa using this
theorem yS(cap:List (Option Nat))(i:Nat):mC (gY cap) i=jT cap i:=by
 unfold mC jT gY;rw[List.findIdx?_map];congr 1;funext o
 cases o with
 |none=>rfl
 |some k=>simp[Function.comp]
theorem SE.clr{H:Hp}:∀{ps:List (Nat×D)} {ρ:Ro} {σ:L2.St},SE K g ρ σ H->SE K g (clr ps ρ) σ H
 |[],ρ,σ,h=>h
 |p::ps,ρ,σ,h=>by
  show SE K g (J.clr ps (ρ.set p.1 none)) σ H;refine SE.clr ⟨λi sl e=>?_,h.mu,by simp[h.len]⟩;by_cases hi:i=p.1
  ·subst hi
   have hlt:p.1<ρ.length:=by
    have:=(Ky.mp e).1;simpa using this
   rw[KM hlt] at e;cases e
  ·rw[KJ (Ne.symm hi)] at e;exact h.slot i sl e
theorem jo:∀{ps:List (Nat×D)} {vs:List (Nat×V)} {σ:L2.St} {j:Nat},RpP K H S ps vs->(∀p∈ps,p.1≠j)->(iB vs σ)[j]?=σ[j]?
 |[],vs,σ,j,h,_=>by rw[(show vs=[] from h)];rfl
 |(i,d)::ps,vs,σ,j,h,hn=>by
  obtain⟨v,ws,rfl,_,h2⟩:=h;show(iB ws (σ.set i (some v)))[j]?=_;rw[jo h2 λp hp=>hn p (Kx _ hp),KJ (hn (i,d) KF)]
section
variable {X:Cx} {Γ:gH} {c:Cz}
theorem Evo.drop{F F2:Pr}(a:Evo g H g' H' F)(h:∀b,F2 b->F b):Evo g H g' H' F2:=⟨a.keep,a.out,a.new,λb z=>a.tmp b (h b z),a.dom⟩
theorem SE.drop{g:Gh}{F F2:Pr}(se:SE K (g.plus F) ρ σ H)(h:∀b,F2 b->F b)(hg:∀b,F b->g b=none):SE K (g.plus F2) ρ σ H:=by
 have sub:∀b,Sg (g.plus F2) b->Sg (g.plus F) b:=λb z=>(ai b).mpr (((ai b).mp z).imp id (h b));refine⟨λi sl e=>?_,λb z=>se.mu b (sub b z),se.len⟩;obtain⟨v,F0,e1,e2,e3⟩:=se.slot i sl e;refine⟨v,F0,e1,λb z=>?_,e3.go (λ_ _ _ e=>e) λb o _ n z=>n (sub b z)⟩;have q:=bw (e2 b z);exact bI q λz2=>by rw[hg b (h b z2)] at q;cases q
theorem Evo.upd{H H':Hp}(a:Evo g H g' H' F)(hp:H p=none):Evo g H g' (upd H' p o) F:=by
 refine⟨λb o' n e=>?_,a.out,a.new,a.tmp,λb o' e=>?_⟩
 ·rw[aj (λz=>by rw[z,hp] at e;cases e)];exact a.keep b o' n e
 ·obtain⟨o1,e1⟩:=a.dom b o' e;exact⟨o1,by rw[aj (λz=>by rw[z,hp] at e;cases e)];exact e1⟩
theorem vL(a:Evo g H g1 H1 (λ_=>False))(b:Evo g1 H1 g2 H2 F2):Evo g H g2 H2 F2:=by
 have t:=a.trans (F1:=λ_=>False) (g2:=g2) (H2:=H2) (F2:=F2) (by rw[aN λ_ z=>z];exact b);have e1:g2.minus (λ_=>False)=g2:=by funext c;exact bt λz=>z
 rw[e1] at t;exact t.drop λc z=>.inr z
noncomputable def j3(X:Cx)(f:Ro->Option (Bool×Ro))(ifs:List Expr):Prop:=∀ρ b ρ',f ρ=some (b,ρ')->∀g σ H Q,SE X.K g ρ σ H->(∀g' H',Evo g H g' H' (λ_=>False)->SE X.K g' ρ' σ H'->Q b H')->Dg X ifs σ H Q
theorem BN:j3 X (λρ=>some (true,ρ)) []:=λρ b ρ' h g σ H Q se q=>by cases h;exact mw qF (q g H (.refl g H) se)
theorem BO{e:Expr}(h:eX X f e):j3 X f [e]:=λρ b ρ' hb g σ H Q se q=>mw (qG dN) (h ρ b ρ' hb g σ H Q se q)
theorem rk{K:Km}{g' gi gt:Gh}{H1 H2 H3:Hp}{D:Addr}{Fi:Pr}{us:List V}{yi:List J.D}{r:Ow}(ev2:Evo g' H1 gi H2 (λb=>b=D\/Fi b))(nFD:¬Fi D)(gD:H2 D=some (.lst us))(tr:TrL K H2 (Sx gi λb=>b=D\/Fi b) yi [] r us Fi)(evt:Evo (gi.plus λb=>b=D\/Fi b) H2 gt H3 (λ_=>False)) :
  ∃gi',Evo g' H1 gi' H3 (λb=>b=D\/Fi b)/\(gi'.plus λb=>b=D\/Fi b)=gt/\H3 D=some (.lst us)/\TrL K H3 (Sx gi' λb=>b=D\/Fi b) yi [] r us Fi:=by
 have gDo:(gi.plus λb=>b=D\/Fi b) D=some none:=aR (.inl rfl);have tot:=(ev2.trans evt).drop (F2:=λb=>b=D\/Fi b) λb z=>.inl z;refine⟨gt.minus (λb=>b=D\/Fi b),tot,?_,evt.keep D _ (λi q1=>by rw[gDo] at q1;cases q1) gD,?_⟩
 ·have e:=gU evt;rw[aN λ_ z=>z] at e;have e2:(λc=>(c=D\/Fi c)\/False)=λb=>b=D\/Fi b:=by funext b;simp
  rw[e2] at e;exact e
 ·refine tr.go (λb o hb e=>?_) λb o e n z=>?_
  ·refine evt.keep b o (λi q1=>?_) e;rcases hb with hb|hb
   ·exact hb (.inl (by rw[bw q1];simp))
   ·rw[aR (.inr hb)] at q1;cases q1
  ·have nb:¬(b=D\/Fi b):=λz=>n (.inr z)
   have gn:(gi.plus λb=>b=D\/Fi b) b=none:=by
    rw[bK nb]
    cases q1:gi b with
    |none=>rfl
    |some x=>exact absurd (.inl (by rw[q1];simp)) n
   obtain⟨f1,f2⟩:=evt.froz e gn;rcases z with z|z
   ·rw[bt nb] at z;exact z f1
   ·exact nb z
theorem rm(O:al X Γ c){r:Ow}{fi:Ro->IR}{ft:Ro->Option (Bool×Ro)}{fe:Ro->MR}{elt tg iter:Expr}{ifs:List Expr}{scope:Scope}{t:IT}{n:Nat}(hck:bx c scope=true)(hi:gX X fi tg iter)
  (htg:oV ⟨f9 scope c.sc,ag scope,gI scope⟩ n tg=some t)
  (hft:∀C s H ex,j3 (aI X (ag scope) scope C s H ex) ft ifs) (hfe:∀C s H ex,a8 (aI X (ag scope) scope C s H ex) fe elt)
  {ρ:Ro} {kd:Kd} {d:D} {ρ':Ro} (h:gq r (fi ρ) (gh (aA c scope) t ft fe) (aA c scope)=some (kd,d,ρ')) {g:Gh} {σ:L2.St} {H:Hp} {Q:VK} (se:SE X.K g ρ σ H) (q:∀v g' H' F,Evo g H g' H' F->SE X.K (g'.plus F) ρ' σ H'->VR1 X.K H' g' F kd d v F->Q v H') :
  iu (wI X tg iter) (λv σ H Q=>∀C s H0 ex,wG (aI X (ag scope) scope C s H0 ex) tg v σ H Q) (λσ H Q=>∀C s H0 ex,Dg (aI X (ag scope) scope C s H0 ex) ifs σ H Q) (λσ H Q=>∀C s H0 ex,wE (aI X (ag scope) scope C s H0 ex) elt σ H Q) (aA c scope) σ H Q:=by
 have hcap:li (aA c scope)=true:=by
  simp only[bx,Kn] at hck;exact hck.1.2
 unfold gq at h;split at h
 ·rename_i bs ds ρ0 hit;split at h
  ·rename_i hlen;obtain⟨rfl,hlen⟩:=hlen;split at h
   ·rename_i ys ρe hm;split at h
    ·rename_i hel;cases h;have CO:=fy O hck;refine hi ρ [] ds ρ0 hit g σ H _ se λjj src g1 H1 ev1 se0 jt sp sf D hD=>?_;replace q:∀v g' H' F,Evo g1 H1 g' H' F->SE X.K (g'.plus F) (c8 (gY (aA c scope)) ρe ρ0) σ H'->VR1 X.K H' g' F (.fr (.own [] r)) (.lst ys) v F->Q v H':=λv g' H' F e s r=>q v g' H' F (vL ev1 e) s r;clear se ev1;generalize g1=g at *;generalize ρ0=ρ at *;have se1:SE X.K (g.re (jT (aA c scope))) (bP ρ (aA c scope)) (dv σ (aA c scope)) H1:=se0.cap hcap;generalize hg':g.re (jT (aA c scope))=g' at se1;have gS:∀b,Sg g' b↔Sg g b:=λb=>by rw[<- hg'];exact nO b
     generalize hρ:bP ρ (aA c scope)=ρc at se1 hm
     refine⟨λi m σ' H'=>m=ds.length-i/\i<=ds.length/\∃(gi:Gh) (Fi:Pr) (us:List V) (yi:List J.D) (ρi:Ro),aw r (gh (aA c scope) t ft fe) (ds.take i) ρc=some (yi,ρi)/\Evo g' H1 gi H' (λb=>b=D\/Fi b)/\¬Fi D/\SE X.K (gi.plus λb=>b=D\/Fi b) ρi σ' H'/\
       (∀(j i:Nat),(aA c scope)[j]?=some (some i)->σ'[j]?=(dv σ (aA c scope))[j]?)/\H' D=some (.lst us)/\TrL X.K H' (Sx gi λb=>b=D\/Fi b) yi [] r us Fi,
      ⟨ds.length,by simp,K2 _,g',λ_=>False,[],[],ρc,by simp[aw],?_,λz=>z,?_,λj i _=>rfl,aE,by unfold TrL;exact⟨rfl,λ_ z=>z⟩⟩,?_⟩
     ·have gD:g' D=none:=eB se1.mu hD;refine⟨λb o n e=>af hD b o e,λ_=>Iff.rfl,λb i e=>.inl ⟨i,e⟩,λb z=>?_,λb o e=>⟨o,af hD b o e⟩⟩;rcases z with z|z
      ·subst z;exact⟨gD,.inr hD⟩
      ·exact z.elim
     ·exact se1.plus (af hD) (λb z=>z.elim (λz=>z▸hD) λz=>z.elim) λb z=>z.elim (λz=>⟨.lst [],z▸aE,λxs h=>by cases h⟩) λz=>z.elim
     rintro i m σ' H' ⟨rfl,hi',gi,Fi,us,yi,ρi,hyi,evi,nFD,se',hσ',gD,tr⟩
     have hFg:∀b,(b=D\/Fi b)->gi b=none:=λb z=>(evi.tmp b z).1
     have sp':src.P X.K (gi.plus λb=>b=D\/Fi b) H':=by
      have fz:∀b o,H1 b=some o->¬Sg g b->H' b=some o/\¬Sg (gi.plus λb=>b=D\/Fi b) b:=λb o e n=>by
       have n':g' b=none:=by
        cases q1:g' b with
        |none=>rfl
        |some x=>exact absurd ((gS b).mp (by rw[Sg,q1];simp)) n
       obtain⟨f1,f2⟩:=evi.froz e n';refine⟨evi.keep b o (λi q1=>by rw[n'] at q1;cases q1) e,λz=>?_⟩;rcases(ai b).mp z with z|z
       ·exact z f1
       ·exact f2 z
      refine Src.mono (g:=g) (H:=H1) (λb o e n=>(fz b o e n).2) (λb o hb e=>?_) (λa e=>sf.from_t e) sp;rcases hb with hb|hb
      ·exact(fz b o e hb).1
      ·rcases sf.from_l hb with sf|⟨i,hm',_⟩
       ·exact(fz b o e (by rw[Sg,sf];simp)).1
       ·cases hm'
     obtain⟨j1,j2⟩:=jt i _ H' sp' se'.mu;by_cases hlt:i<ds.length
     ·have hd:ds[i]?=some ds[i]:=Ko hlt;obtain⟨go,yl⟩:=j2 _ hd;refine .inr ⟨go,λx H2 hy C s0 H0 ex=>?_⟩;obtain⟨s2,rx⟩:=yl x H2 hy;have st:=nV hm hd hyi
      have stuck:∃o,gh (aA c scope) t ft fe ds[i] ρi=some o:=by
       rcases st with⟨ρ1,e,_⟩|⟨kd,ρ1,e,_⟩
       ·exact⟨_,e⟩
       ·exact⟨_,e⟩
      obtain⟨o0,ho0⟩:=stuck;have he:=ho0;unfold gh at he;split at he
      ·rename_i ps hps;split at he
       ·rename_i hno;obtain⟨hno,hnc⟩:=hno
        have hcj:∀(j i:Nat),(aA c scope)[j]?=some (some i)->∀p∈ps,p.1≠j:=λj i e p hp z=>by
         have:=Lc.mp hnc p hp;rw[z,e] at this;cases this
        refine uG (qS (CO C s0 H0 ex) n htg) (jn hps rx λvs hvs C1 s01 H01 ex1=>?_);have t1:=SE.setAll hvs (se'.same s2);have ev2:Evo g' H1 gi H2 (λb=>b=D\/Fi b):=⟨λb o n e=>s2 _ _ (evi.keep b o n e),evi.out,evi.new,evi.tmp,λb o e=>let ⟨o',q1⟩:=evi.dom b o e;⟨o',s2 _ _ q1⟩⟩;have tr2:TrL X.K H2 (Sx gi λb=>b=D\/Fi b) yi [] r us Fi:=tr.go (λb o _ e=>s2 _ _ e) λ_ _ _ n=>n;split at he
        ·rename_i ρt hT;refine hft C1 s01 H01 ex1 _ true ρt hT _ _ _ _ t1 λgt H3 evt set=>uu λC2 s02 H02 ex2=>?_;obtain⟨gi2,ev3,hgp,gD3,tr3⟩:=rk ev2 nFD (s2 _ _ gD) tr2 evt;rw[<- hgp] at set
         have hul0:us.length<=i:=by
          rw[tr.len];exact KN (gp hyi) (by rw[La];lia)
         split at he
         ·rename_i ky y ρ1 hke;cases he
          have st2:cP r (bW ky y,y)=true/\aw r (gh (aA c scope) t ft fe) (ds.take (i+1)) ρc=some (yi++[y],clr ps ρ1):=by
           rcases st with⟨ρ2,e,_⟩|⟨kd,ρ2,e,e2,e3⟩
           ·rw[ho0] at e;cases e
           ·rw[ho0] at e;cases e;exact⟨e2,e3⟩
          refine hfe C2 s02 H02 ex2 _ ky y ρ1 hke _ _ H3 _ set λvy g2 H4 Fy ev4 se4 r4=>?_;have r4':=VR1.im (kd:=ky) se4.mu r4;have gDo:(gi2.plus λb=>b=D\/Fi b) D=some none:=aR (.inl rfl);have gD4:H4 D=some (.lst us):=ev4.keep D _ (λi q1=>by rw[gDo] at q1;cases q1) gD3
          have nFyD:∀b,(b=D\/Fi b)->¬Fy b:=λb z z2=>by
           have:=(ev4.out b).mp (aR z);rw[(ev4.tmp b z2).1] at this;cases this
          have tot:=ev3.trans ev4;have mm:MuOk H4 (Sx g2 Fy):=λb z=>se4.mu b ((ai b).mpr z);obtain⟨F2,a1,a2⟩:=VR1.fit (p:=(bW ky y,y)) st2.1 mm (λb z=>(ev4.tmp b z).1) (λb z=>z) r4';have hul:=hul0;have kD:∀b o,b≠D->H4 b=some o->upd H4 D (.lst (us++[vy])) b=some o:=λb o n e=>by rw[aj n];exact e
          have mD:∀b,(b=D\/Fi b)->(g2.minus λb=>b=D\/Fi b) b=none:=λb z=>gT z;have hgn:∀b,((b=D\/Fi b)\/Fy b)->(g2.minus λb=>b=D\/Fi b) b=none:=λb z=>(tot.tmp b z).1;have sub:∀b,(b=D\/(Fi b\/F2 b))->((b=D\/Fi b)\/Fy b):=λb z=>z.elim (λz=>.inl (.inl z)) λz=>z.elim (λz=>.inl (.inr z)) λz=>.inr (a1 b z);refine⟨us,gD4,Lw hul (Kz hlt (aT hlen)),ds.length-(i+1),by lia,rfl,hlt,g2.minus (λb=>b=D\/Fi b),λb=>Fi b\/F2 b,us++[vy],yi++[y],clr ps ρ1,st2.2,(tot.drop sub).upd hD,λz=>z.elim nFD λz=>nFyD D (.inl rfl) (a1 D z),?_,λj i e=>(jo hvs (hcj j i e)).trans (hσ' j i e),aE,?_⟩
          ·refine SE.upd (SE.clr (SE.drop (by rw[gU ev4];exact se4) sub hgn)) (aR (.inl rfl)) (λxs h=>by cases h)
          ·refine TrL.snoc (tr3.go (λb o hb e=>?_) λb o e n z=>?_) ((a2 (Sx (g2.minus λb=>b=D\/Fi b) λb=>b=D\/(Fi b\/F2 b)) λb z=>?_).go (λb o hb e=>kD b o (λz=>?_) e) λb o e n z=>n z) λb z1 z2=>nFyD b (.inr z1) (a1 b z2)
           ·have nb:b≠D:=λz=>by
             subst z;exact hb.elim (λz=>z (.inr (.inl rfl))) nFD
            refine kD b o nb (ev4.keep b o (λi q1=>?_) e);rcases hb with hb|hb
            ·exact hb (.inl (by rw[bw q1];simp))
            ·rw[aR (.inr hb)] at q1;cases q1
           ·have nb:¬(b=D\/Fi b):=λz=>n (.inr z)
            have gn:(gi2.plus λb=>b=D\/Fi b) b=none:=by
             rw[bK nb]
             cases q1:gi2 b with
             |none=>rfl
             |some x=>exact absurd (.inl (by rw[q1];simp)) n
            obtain⟨f1,f2⟩:=ev4.froz e gn;rcases z with z|z
            ·rw[bt nb] at z;exact z f1
            ·rcases sub b z with z|z
             ·exact nb z
             ·exact f2 z
           ·rcases z with z|z
            ·by_cases hb:b=D\/Fi b
             ·rw[gT hb] at z;exact absurd rfl z
             ·rw[bt hb] at z;exact .inr (.inl z)
            ·rcases z with z|z|z
             ·right;left;rw[(ev4.out b).mp (aR (.inl z))];simp
             ·right;left;rw[(ev4.out b).mp (aR (.inr z))];simp
             ·exact .inr (.inr (.inl z))
           ·subst z;exact hb.elim (λz=>z (.inr (.inl rfl))) λz=>nFyD b (.inl rfl) (a1 b z)
         ·cases he
        ·rename_i ρt hT;cases he
         have st2:aw r (gh (aA c scope) t ft fe) (ds.take (i+1)) ρc=some (yi,clr ps ρt):=by
          rcases st with⟨ρ1,e,e2⟩|⟨kd,ρ1,e,_⟩
          ·rw[ho0] at e;cases e;exact e2
          ·rw[ho0] at e;cases e
         refine hft C1 s01 H01 ex1 _ false ρt hT _ _ _ _ t1 λgt H3 evt set=>ut ?_;obtain⟨gi2,ev3,hgp,gD3,tr3⟩:=rk ev2 nFD (s2 _ _ gD) tr2 evt;rw[<- hgp] at set;exact⟨ds.length-(i+1),by lia,rfl,hlt,gi2,Fi,us,yi,clr ps ρt,st2,ev3,nFD,SE.clr set,λj i e=>(jo hvs (hcj j i e)).trans (hσ' j i e),gD3,tr3⟩
        ·cases he
       ·cases he
      ·cases he
     ·have e:i=ds.length:=by lia
      subst e;rw[LM,hm] at hyi;cases hyi;refine .inl ⟨j1 (Kw _),?_⟩;have hrn:(bU (gY (aA c scope))).Nodup:=by rw[iJ];simpa[li] using hcap
      have hre:g.re (mC (gY (aA c scope)))=g':=by
       rw[<- hg'];congr 1;funext i;exact yS _ _
      have rv:VR1 X.K H' gi (λb=>b=D\/Fi b) (.fr (.own [] r)) (.lst ys) (.ref D) (λb=>b=D\/Fi b):=by
       show Tr _ _ _ _ _ _ _;unfold Tr
       exact⟨D,_,us,Fi,rfl,gD,rfl,λ_=>nFD,(λh=>nomatch h),λb=>⟨λz=>z.imp (λz=>⟨rfl,z⟩) id,λz=>z.imp (λz=>z.2) id⟩,tr⟩
      obtain⟨c1,c2,c3⟩:=ln (K:=X.K) (g:=g) (H:=H1) (g1:=g) (H1:=H1) (F:=λ_=>False) (ρ:=ρ) (σ:=σ) (ras:=gY (aA c scope)) (ρc:=ρe) (σc:=σ') hrn (by rw[hel];simp[gY]) rfl (.refl g H1) (by rw[aN λ_ z=>z];exact se0)
       (λj i sl w ej eo ew=>by
        unfold gY at ej;rw[Kr] at ej
        cases q1:(aA c scope)[j]? with
        |none=>rw[q1] at ej;cases ej
        |some o=>
         rw[q1] at ej
         cases o with
         |none=>cases ej
         |some i'=>
          cases ej;rw[hσ' j i q1] at ew;unfold dv at ew;rw[Kr,q1] at ew;have ew':(σ[i]?).join=some w:=by simpa using ew
          cases q2:σ[i]? with
          |none=>rw[q2] at ew';cases ew'
          |some w'=>rw[q2] at ew';have:w'=some w:=ew';rw[this]) (by rw[hre];exact evi) se' rv
      exact q _ _ H' _ c1 c2 c3
    ·cases h
   ·cases h
  ·cases h
 ·cases h
theorem yT(O:al X Γ c){r:Ow}{fi:Ro->IR}{ft:Ro->Option (Bool×Ro)}{fe:Ro->MR}{elt tg iter:Expr}{ifs:List Expr}{scope:Scope}{pos:Pos}{t:IT}{n:Nat}(hck:bx c scope=true)(hns:eA iter=true)(hi:gX X fi tg iter)
  (htg:oV ⟨f9 scope c.sc,ag scope,gI scope⟩ n tg=some t)
  (hft:∀C s H ex,j3 (aI X (ag scope) scope C s H ex) ft ifs) (hfe:∀C s H ex,a8 (aI X (ag scope) scope C s H ex) fe elt) :
  a8 X (λρ=>gq r (fi ρ) (gh (aA c scope) t ft fe) (aA c scope)) (.ListComp elt [⟨tg,iter,ifs,0⟩] scope pos):=by
 intro ρ kd d ρ' h g σ H Q se q
 exact ak (nv (N':=ag scope) (cap:=aA c scope) O.calm (ge O hck) xZ
  (λC s H0 ex pins s' σ' H' v u Q' I r hh=>ya pins s' σ' H' v u Q' I r (hh C s H0 ex)) (λC s H0 ex pins s' σ' H' Q' I hh=>hh C s H0 ex pins s' I) (λC s H0 ex pins s' σ' H' Q' I hh=>hh C s H0 ex pins s' I) (fA hns)) (rm O hck hi htg hft hfe h se q)
end
end J
namespace J
open PySem PySem.Spec L2
noncomputable def w2(X:Cx)(a b:Expr)(σ:L2.St)(H:Hp)(R:List V->Hp->Prop):Prop:=wE X a σ H λx H1=>wE X b σ H1 λy H2=>R [x,y] H2
noncomputable def lq(X:Cx)(f:Ro->Option (List KD×Ro))(a b:Expr):Prop:=∀ρ kds ρ',f ρ=some (kds,ρ')->∀g σ H Q,SE X.K g ρ σ H->
 (∀vs g' H' F,Evo g H g' H' F->SE X.K (g'.plus F) ρ' σ H'->VRL X.K H' g' F kds vs F->Q vs H')->w2 X a b σ H Q
noncomputable def Strict2(X:Cx)(f:List KD->Option KD)(a b node:Expr):Prop:=∀kds kd d,f kds=some (kd,d)->∀σ H Q,w2 X a b σ H (JC X kds kd d Q)->wE X node σ H Q
section
variable {X:Cx} {Γ:gH} {c:Cz}
theorem Strict2.m{f:List KD->Option KD}{fa:Ro->Option (List KD×Ro)}(h:Strict2 X f a b node)(ha:lq X fa a b):a8 X (λρ=>(fa ρ).bind λp=>(f p.1).map λq=>(q.1,q.2,p.2)) node:=by
 intro ρ kd d ρ' hd g σ H Q se q;dsimp only at hd
 cases e:fa ρ with
 |none=>rw[e] at hd;cases hd
 |some p=>
  obtain⟨kds,ρ1⟩:=p;rw[e] at hd;dsimp only[Lr] at hd
  cases e2:f kds with
  |none=>rw[e2] at hd;cases hd
  |some r=>
   rw[e2] at hd;cases hd;refine h kds r.1 r.2 e2 σ H Q (ha ρ kds _ e g σ H _ se λvs g1 H1 F ev se1 r1=>⟨g1,je H1 F,iG se1 λb z=>(ev.tmp b z).1,dW,r1.off,λv H2 s2 r2=>?_⟩);obtain⟨F2,b1,b2⟩:=r2;obtain⟨c1,c2⟩:=pL ev se1 s2 b1 b2.dom;exact q v g1 H2 F2 c1 c2 b2
theorem VR.one{v:V}(h:VR K g H0 H kd d v):VRs K g H0 H [(kd,d)] [v]:=by
 obtain⟨F,h1,h2⟩:=h;exact⟨F,h1,v,[],F,λ_=>False,rfl,λb=>⟨.inl,λz=>z.elim id λz=>z.elim⟩,λ_ _ z=>z,h2,rfl,λ_ z=>z⟩
theorem BQ{fa:Ro->MR}{fb:Ro->Option KD}(ha:a8 X fa a)(hb:SndE X fb b):lq X (λρ=>fP (fa ρ) λρ=>eO (fb ρ) (some [])) a b:=by
 intro ρ kds ρ' h g σ H Q se q;dsimp only[fP] at h;split at h
 ·rename_i kd d ρ1 e1;split at h
  ·rename_i kds' e2;cases h;unfold eO at e2;split at e2
   ·rename_i x xs ex exs;cases e2;cases exs;obtain⟨kb,db⟩:=x;refine ha ρ kd d ρ' e1 g σ H _ se λv g1 H1 F1 ev1 se1 r1=>hb ρ' kb db ex (g1.plus F1) σ H1 _ se1 λw H2 s2 r2=>?_;obtain⟨F',c1,c2,c3⟩:=q9 (kds:=[(kb,db)]) (vs:=[w]) ev1 se1 r1 s2 r2.one;exact q [v,w] g1 H2 F' c1 c2 c3
   ·cases e2
  ·cases h
 ·cases h
theorem yU{fa fb:Ro->MR}(ha:a8 X fa a)(hb:a8 X fb b):lq X (λρ=>gf (fa ρ) λρ=>fP (fb ρ) λ_=>some []) a b:=by
 intro ρ kds ρ' h g σ H Q se q;dsimp only[gf] at h;split at h
 ·rename_i kd d ρ1 e1;split at h
  ·cases h
  ·rename_i hbo;split at h
   ·rename_i kds' ρ2 e2;cases h;unfold fP at e2;split at e2
    ·rename_i kb db ρ3 e3;cases e2;refine ha ρ kd d ρ1 e1 g σ H _ se λv g1 H1 F1 ev1 se1 r1=>hb ρ1 kb db ρ' e3 (g1.plus F1) σ H1 _ se1 λw g2 H2 F2 ev2 se2 r2=>?_;have r2':VRL X.K H2 g2 F2 [(kb,db)] [w] F2:=⟨w,[],F2,λ_=>False,rfl,λb=>⟨.inl,λz=>z.elim id λz=>z.elim⟩,λ_ _ z=>z,r2,rfl,λ_ z=>z⟩;obtain⟨c1,c2,c3⟩:=nS (by simpa using hbo) ev1 (r1.im se1.mu) ev2 se2 r2';exact q [v,w] _ H2 _ c1 c2 c3
    ·cases e2
   ·cases h
 ·cases h
noncomputable def f2(f:KD->KD->Option KD):List KD->Option KD
 |[x,y]=>f x y
 |_=>none
theorem n_bin:Strict2 X (f2 (eR op)) a b (.BinOp a op b pos):=by
 intro kds kd d h σ H Q hA
 match kds,h with
 |[x,y],h=>
  refine ak (zT (uJ op) au au) (dA hA λvx H1 h1=>dA h1 λvy H2 ⟨g,H0,m,s,r,q⟩=>?_);obtain⟨v,v',e,r1,r2⟩:=r.two;cases e;exact⟨g,H0,x,y,kd,d,m,s,r1,r2,h,λv H' s' r'=>q v H' s' (r'.older s)⟩
theorem BR(O:al X Γ c){op:CmpOp}{a b:Expr}{pos:Pos}{fa:Ro->Option (List KD×Ro)}(hm:behindInMarks op b=false)(ha:lq X fa a b):eX X (λρ=>(fa ρ).bind λp=>(match p.1 with|[x,y]=>(bf op x.2 y.2).map λb=>(b,p.2)|_=>none)) (.Compare a [op] [b] pos):=by
 intro ρ bb ρ' h g σ H Q se q;dsimp only at h
 cases e:fa ρ with
 |none=>rw[e] at h;cases h
 |some p=>
  obtain⟨kds,ρ1⟩:=p;rw[e] at h;dsimp only[Lr] at h;split at h
  ·rename_i x y;obtain⟨r0,hc,e2⟩:=aH h;cases e2;have hh:w2 X a b σ H (λvs H2=>∀v w,vs=[v,w]->uO X.K op v w H2 λz H3=>∃k,z=.bl k/\Q k H3):=ha ρ _ _ e g σ H _ se (λvs g1 H1 F ev se1 r=>?_)
   ·refine ny (qw (fY O.tab.units op) au au hm) ?_;show wE X a σ H λvx H1=>wE X b σ H1 λvy H2=>uO X.K op vx vy H2 λz H3=>∃k,z=.bl k/\Q k H3;exact dA hh λvx H1 h1=>dA h1 λvy H2 h2=>h2 vx vy rfl
   intro v w evs;subst evs;obtain⟨v',w',e3,r1,r2⟩:=r.off.two;cases e3;have cl:=pL (F2:=λ_=>False) ev se1 (Same.refl H1) (λb z=>z.elim) (λb z=>z.elim);exact⟨x.2,y.2,bb,r1.rd,r2.rd,hc,bb,rfl,q g1 H1 cl.1 (by have:=cl.2;rw[aN λ_ z=>z] at this;exact this)⟩
  ·cases h
noncomputable def pN(x y:KD):Option KD:=match x.2 with
 |.nd hd xs=>(match hd with
  |.lst=>(match y.2 with|.int j=>if ip x.1 xs=true then some (.fr aZ,.lst (dO xs none (some j))) else none|_=>none)
  |_=>none)
 |_=>none
theorem n_slh{a b:Expr}{p2 pos:Pos}:Strict2 X (f2 pN) a b (.Subscript a (.Slice none (some b) none p2) pos):=by
 intro kds kd d h σ H Q hA
 match kds,h with
 |[x,y],h0=>
  have h:pN x y=some (kd,d):=h0;clear h0;obtain⟨kx,dx⟩:=x;obtain⟨ky,dy⟩:=y
  cases dx with
  |nd hd xs=>cases hd with
   |lst=>cases dy with
    |int j=>
     obtain⟨hk,e⟩:=uH (show(if ip kx xs=true then some (Kd.fr aZ,D.lst (dO xs none (some j))) else none)=some (kd,d) from h)
     cases e;refine ak (jD lZ au qy (qz au)) (dA hA λvx H1 h1=>dA h1 λvy H2 ⟨g,H0,m,s,r,q⟩=>?_);obtain⟨v,v',e,r1,r2⟩:=r.two;cases e;obtain rfl:=r2.rd.int;obtain⟨p,o,us,rfl,g1,q1,rr⟩:=r1.items hk m s;cases(show o=_ from q1);exact⟨j,rfl,p,us,rfl,.of g1,λp' hp'=>q _ _ (af hp') ((l5 hp' (rr.cut none (some j))).older s)⟩
    |_=>cases h
   |_=>cases h
  |_=>cases h
noncomputable def Gr:KD->KD->Option KD:=λx y=>pq (some x) (some y)
theorem HQ(O:al X Γ c){a b:Expr}{pos:Pos}(hp:cQ b=true):Strict2 X (f2 Gr) a b (.Subscript a b pos):=by
 intro kds kd d h σ H Q hA
 match kds,h with
 |[x,y],h0=>
  have h:pq (some x) (some y)=some (kd,d):=h0;clear h0;obtain⟨kx,dx⟩:=x;obtain⟨ky,dy⟩:=y
  have mono:∀{R:V->V->Hp->Prop},(∀vx vy H2 g H0,MuOk H0 (Sg g)->Same H0 H2->VR X.K g H0 H2 kx dx vx->VR X.K g H0 H2 ky dy vy->(∀v H',Same H2 H'->VR X.K g H0 H' kd d v->Q v H')->R vx vy H2)->wE X a σ H λvx H1=>wE X b σ H1 λvy H2=>R vx vy H2:=λk=>
   dA hA λvx H1 h1=>dA h1 λvy H2 ⟨g,H0,m,s,r,q⟩=>by
    obtain⟨v,v',e,r1,r2⟩:=r.two;cases e;exact k vx vy H2 g H0 m s r1 r2 q
  rcases qJ h with⟨i,e,hh⟩|⟨p,e,hh⟩
  ·cases(show dy=_ from e);refine ak (qB lX au au (ef hp)) (mono λvx vy H2 g H0 m s rx ry q=>?_);obtain rfl:=ry.rd.int;exact qK hh rx λv r=>q v H2 (Same.refl H2) r
  ·cases hh
theorem n_lst:StrictOk X (λkds=>gJ k (some kds)) es (.List es pos):=by
 intro kds kd d h σ H Q hA;dsimp only[gJ] at h;split at h
 ·split at h
  ·rename_i hz;cases h;refine ak (uf cq) (bn hA λvs H1 ⟨g,H0,m,s1,r1,q⟩=>⟨by rw[r1.len];exact aT hz.2,λp hp=>?_⟩);exact q _ _ (af hp) (r1.node hz.1 m s1 hp rfl rfl)
  ·cases h
 ·cases h
theorem n_tup{n:Nat}:StrictOk X (λkds=>gK k (some kds)) es (.Tuple es n pos):=by
 intro kds kd d h σ H Q hA;dsimp only[gK] at h;split at h
 ·split at h
  ·rename_i hz;cases h;refine ak (lT cq) (bn hA λvs H1 ⟨g,H0,m,s1,r1,q⟩=>⟨by rw[r1.len];exact aT hz.2,λp hp=>?_⟩);exact q _ _ (af hp) (r1.tupO hz.1 m s1 hp)
  ·cases h
 ·split at h
  ·rename_i hz;cases h;refine ak (lT cq) (bn hA λvs H1 ⟨g,H0,m,s1,r1,q⟩=>⟨by rw[r1.len];exact aT hz.2,λp hp=>?_⟩);exact q _ _ (af hp) ((A4 (m.same s1) hp (r1.sh hz.1 m s1)).older s1)
  ·cases h
theorem HR(O:al X Γ c){x:Str}{φ:Fm}{e:Expr}{es:List Expr}{p pos:Pos}{fa:Ro->Option (List RA×Ro)}(hφ:Γ.fm x=some λK=>z6 K φ)(hg:d8 c.sc x=true)(n1:ad e=true)(n2:es.all ad=true)(ha:iW X fa (e::es)) :
  a8 X (λρ=>BL (some φ) (fa ρ)) (.Call (.Name x p) (e::es) [] pos):=by
 intro ρ kd d ρ' h g σ H Q se q;obtain⟨n,fa',fd,ps,F,hr,hm,hk,hb,hdb⟩:=O.tab.fm x _ hφ;dsimp only at h
 cases hf:fa ρ with
 |none=>rw[hf] at h;cases h
 |some pr=>
  obtain⟨ras,ρ1⟩:=pr;rw[hf] at h;refine ak (qx (E:=E0) F hr (bC O hg) hm hk hb .nil ur cq hdb (ac n1) (a5 n2)) (ha ρ ras ρ1 hf g σ H _ se λvs g1 H1 Fv ev se1 r1=>?_);rw[Ly];exact yR h ev se1 r1 q
noncomputable def sS(i:Nat)(ρ:Ro):MR:=match ρ[i]? with
 |some (some ⟨false,k,d⟩)=>if pi k=true then some (.sh,d,ρ) else some (.fr k,d,ρ.set i none)
 |_=>none
noncomputable def sT(i:Nat)(ρ:Ro):MR:=match ρ[i]? with
 |some (some ⟨false,k,d⟩)=>some (.sh,d,ρ.set i (some ⟨false,.fz,d⟩))
 |_=>none
open Classical in
noncomputable def Gh.off(g:Gh)(i:Nat):Gh:=λb=>if g b=some (some i) then none else g b
theorem rn{g:Gh}{i:Nat}(h:Sg (g.off i) b):Sg g b/\g b≠some (some i):=by
 by_cases n:g b=some (some i)
 ·exact absurd (by unfold Gh.off;rw[if_pos n]) h
 ·refine⟨λz=>h ?_,n⟩;unfold Gh.off;rw[if_neg n];exact z
theorem vM{g:Gh}{i:Nat}(h:g b≠some (some i)):g.off i b=g b:=by unfold Gh.off;rw[if_neg h]
theorem BS{g:Gh}{i:Nat}(h:g b=some (some i)):g.off i b=none:=by unfold Gh.off;rw[if_pos h]
theorem nW{g:Gh}{i:Nat}(h:g.off i b=some x):g b=some x/\x≠some i:=by
 unfold Gh.off at h;split at h
 ·cases h
 ·rename_i n;exact⟨h,λz=>n (by rw[h,z])⟩
theorem rq{g:Gh}{i:Nat}{F:Pr}(hF:∀b,F b->g b=some (some i)):Evo g H (g.off i) H F:=by
 refine⟨λ_ _ _ e=>e,λb=>⟨λe=>?_,λe=>(nW e).1⟩,λb j e=>.inl ⟨j,(nW e).1⟩,λb z=>⟨BS (hF b z),.inl ⟨i,hF b z⟩⟩,λ_ o e=>⟨o,e⟩⟩;rw[vM (by rw[e];simp)];exact e
theorem vO{g:Gh}{i:Nat}{F:Pr}{ρ ρ':Ro}{σ:L2.St}(se:SE K g ρ σ H)(hF:∀b,F b->g b=some (some i))(hl:ρ'.length=ρ.length)(hs:∀(j:Nat) sl,ρ'[j]?=some (some sl)->(j≠i/\ρ[j]?=some (some sl))\/(∃v,σ[j]?=some (some v)/\sl.k=.fz/\Rp K H (Sg ((g.off i).plus F)) sl.d v)):SE K ((g.off i).plus F) ρ' σ H:=by
 have sub:∀b,Sg ((g.off i).plus F) b->Sg g b:=λb z=>((ai b).mp z).elim (λz=>(rn z).1) λz=>by rw[Sg,hF b z];simp
 refine⟨λj sl e=>?_,λb z=>se.mu b (sub b z),by rw[hl];exact se.len⟩;rcases hs j sl e with⟨hj,e1⟩|⟨v,e1,e2,e3⟩
 ·obtain⟨v,F0,q1,q2,q3⟩:=se.slot j sl e1;refine⟨v,F0,q1,λb z=>?_,q3.go (λ_ _ _ e=>e) λb o _ n z=>n (sub b z)⟩;have q4:=q2 b z;refine bI ?_ λz2=>by rw[hF b z2] at q4;cases q4;exact hj rfl
  rw[vM (by rw[q4];intro z;cases z;exact hj rfl)];exact q4
 ·obtain⟨lk,k,d⟩:=sl;have e2:k=.fz:=e2;subst e2;exact⟨v,λ_=>False,e1,λb z=>z.elim,.fz e3⟩
theorem gZ(O:al X Γ c){x:Str}{i:Nat}(hc:d9 c x=some i)(pos:Pos){σ:L2.St}{H:Hp}{v:V}{Q:VK}(e:σ[i]?=some (some v))(q:Q v H):wE X (.Name x pos) σ H Q:=by
 unfold d9 at hc;split at hc
 ·rename_i j hj;split at hc
  ·rename_i hv;cases hc;simp only[Kn,l9,K4] at hv;exact ak (oY (i:=i) (by rw[O.N];exact bc hj) (by rw[O.sc];exact l8 hv.1) hv.2.1 hv.2.2) ⟨v,e,q⟩
  ·cases hc
 ·cases hc
theorem EO(O:al X Γ c){x:Str}{i:Nat}(hc:d9 c x=some i)(pos:Pos):a8 X (sS i) (.Name x pos):=by
 intro ρ kd d ρ' h g σ H Q se q;unfold sS at h;split at h
 ·rename_i k d' e;obtain⟨v,F0,e1,e2,e3⟩:=se.slot i _ e;split at h
  ·rename_i hk;cases h;have hk':=jk hk;subst hk';refine gZ O hc pos e1 (q v g H (λ_=>False) (.refl g H) (by rw[aN λ_ z=>z];exact se) ⟨λ_ z=>z,?_⟩);exact e3.fz_inv.2.weak λb z=>z.elim id λz=>z.elim
  ·cases h;refine gZ O hc pos e1 (q v (g.off i) H F0 (rq e2) (vO se e2 (by simp) λj sl e4=>?_) ?_)
   ·by_cases hj:j=i
    ·subst hj
     have hlt:j<ρ.length:=by
      have:=(Ky.mp e4).1;simpa using this
     rw[KM hlt] at e4;cases e4
    ·rw[KJ (Ne.symm hj)] at e4;exact .inl ⟨hj,e4⟩
   ·show Tr _ _ _ _ _ _ _;exact e3.go (λ_ _ _ e=>e) λb o _ n z=>n (z.elim (λz=>(rn z).1) λz=>by rw[Sg,e2 b z];simp)
 ·cases h
theorem EQ(O:al X Γ c){x:Str}{i:Nat}(hc:d9 c x=some i)(pos:Pos):a8 X (sT i) (.Name x pos):=by
 intro ρ kd d ρ' h g σ H Q se q;unfold sT at h;split at h
 ·rename_i k d' e;cases h;obtain⟨v,F0,e1,e2,e3⟩:=se.slot i _ e;have r:Rp X.K H (Sg ((g.off i).plus λ_=>False)) d v:=e3.rp λb z=>((ai b).mp z).elim (λz=>⟨(rn z).1,λz2=>(rn z).2 (e2 b z2)⟩) λz=>z.elim;refine gZ O hc pos e1 (q v (g.off i) H (λ_=>False) (rq λ_ z=>z.elim) (vO se (λ_ z=>z.elim) (by simp) λj sl e4=>?_) ⟨λ_ z=>z,?_⟩)
  ·by_cases hj:j=i
   ·subst hj
    have hlt:j<ρ.length:=by
     have:=(Ky.mp e4).1;simpa using this
    rw[KM hlt] at e4;cases e4;exact .inr ⟨v,e1,rfl,r⟩
   ·rw[KJ (Ne.symm hj)] at e4;exact .inl ⟨hj,e4⟩
  ·exact r.weak λb z=>(ai b).mpr z
 ·cases h
theorem VR1.off1(h:VR1 K H g F kd d v F):VR K g (je H F) H kd d v:=⟨F,λb z=>by unfold je;rw[if_pos z],h⟩
theorem iK{g g1:Gh}(ev:Evo g H g1 H1 F)(se:SE K (g1.plus F) ρ1 σ H1):Evo g H g1 H1 (λ_=>False)/\SE K g1 ρ1 σ H1:=by
 refine⟨ev.drop λ_ z=>z.elim,?_⟩;have:=se.drop (F2:=λ_=>False) (λ_ z=>z.elim) λb z=>(ev.tmp b z).1;rw[aN λ_ z=>z] at this;exact this
noncomputable def xH(g:Option KD->Option (List Nat×List D))(a:MR):IR:=match a with
 |some (kd,d,ρ1)=>BM (g (some (bW kd d,d))) ρ1
 |none=>none
theorem vP{g:Option KD->Option (List Nat×List D)}(h:xH g a=some (bs,ds,ρ1)):∃kd d,a=some (kd,d,ρ1)/\g (some (bW kd d,d))=some (bs,ds):=by
 unfold xH at h;split at h
 ·rename_i kd d ρ2;unfold BM at h;split at h
  ·rename_i e;cases h;exact⟨kd,d,rfl,e⟩
  ·cases h
 ·cases h
theorem ER{fa:Ro->MR}(ha:a8 X fa e):gX X (λρ=>xH jc (fa ρ)) tg e:=by
 intro ρ bs ds ρ1 h g σ H R se q;obtain⟨kd,d,ea,h⟩:=vP h;by_cases hx:∃x,d=.str x
 ·obtain⟨x,rfl⟩:=hx;cases h
 by_cases ht:∃ds',d=.tup ds'
 ·obtain⟨ds',rfl⟩:=ht;simp only[jc] at h;split at h
  ·rename_i hk;cases h;refine gC (ub au) (ha ρ _ _ _ ea g σ H _ se λv g1 H1 F ev se1 vr=>?_);obtain⟨a,o,us,rfl,g2,q1,rr⟩:=(vr.im se1.mu).off1.items hk (iG se1 λb z=>(ev.tmp b z).1) dW;cases(show o=_ from q1);obtain⟨ev2,se2⟩:=iK ev se1;refine⟨a,rfl,⟨us,.of g2⟩,q _ (.t a ds) g1 H1 ev2 se2 Ew ⟨us,.of g2,rr⟩ ?_⟩;show g1 a=none
   cases q2:g1 a with
   |none=>rfl
   |some i=>
    obtain⟨o,e1,n⟩:=se2.mu a (by rw[Sg,q2];simp);rw[g2] at e1;cases e1;exact absurd rfl (n us)
  ·cases h
 ·have h':gP (some (bW kd d,d))=some (bs,ds):=by
   cases d with
   |nd hd ds'=>cases hd with
    |tup=>exact absurd ⟨ds',rfl⟩ ht
    |_=>exact h
   |str x=>exact absurd ⟨x,rfl⟩ hx
   |_=>exact h
  refine gC (qu au) (ha ρ _ _ _ ea g σ H _ se λv g1 H1 F ev se1 vr=>?_);obtain⟨a,s,rfl,h1,h2,_,h3,h4⟩:=eU (iG se1 λb z=>(ev.tmp b z).1) dW (vr.im se1.mu).off1 h';obtain⟨ev2,se2⟩:=iK ev se1;refine⟨a,rfl,h1,q _ s g1 H1 ev2 se2 h2 h3 h4.from_H⟩
theorem ES(O:al X Γ c){fa:Ro->MR}{tg e:Expr}{p pos:Pos}(hg:d8 c.sc "range" = true)(hn:ad e=true)(ha:a8 X fa e):gX X (λρ=>xH (gQ (some (.sh,.int 0))) (fa ρ)) tg (.Call (.Name "range" p) [e] [] pos):=by
 intro ρ bs ds ρ1 h g σ H R se q;obtain⟨kd,d,ea,h⟩:=vP h;unfold gQ at h;split at h
 ·rename_i k1 i k2 j e1 e2;cases e1;cases e2;split at h
  ·rename_i hr;simp only[eh,Kn,decide_eq_true_eq] at hr;cases h;refine gC (kW (bC O hg) (O.tab.bl _ (by simp[aq])) (a7 au cF (ac hn)) (ac hn)) (ha ρ _ _ _ ea g σ H _ se λv g1 H1 F ev se1 vr=>?_);obtain rfl:=vr.rd.int;obtain⟨ev2,se2⟩:=iK ev se1;refine⟨j,rfl,hr.1.1.2,hr.1.2,q _ .non g1 H1 ev2 se2 ?_ trivial trivial⟩;unfold cb;rw[M5];exact Bs 0 _
  ·cases h
 ·cases h
end
end J
namespace J
open PySem PySem.Spec L2
section
variable {K:Km} {H:Hp} {S:Pr}
theorem TrL.focus:∀{ds:List D} {es:List Ow} {r:Ow} {xs:List V} {F:Pr} {j:Nat} {d:D},TrL K H S ds es r xs F->ds[j]?=some d->∃(x:V) (Fj Fr:Pr),xs[j]?=some x/\(∀b,F b↔Fj b\/Fr b)/\(∀b,Fj b->¬Fr b)/\Tr K H S d (es.getD j r) x Fj/\
  ∀(H':Hp) (S':Pr) (d':D) (Fj':Pr),(∀b o,(¬S b\/Fr b)->H b=some o->H' b=some o)->(∀b o,H b=some o->¬S b->¬S' b)->Tr K H' S' d' (es.getD j r) x Fj'->(∀b,Fj' b->¬Fr b)->TrL K H' S' (ds.set j d') es r xs (λb=>Fj' b\/Fr b)
 |[],_,_,_,_,_,_,h,e=>by simp at e
 |d0::ds,es,r,xs,F,0,d,h,e=>by
  unfold TrL at h;obtain⟨y,ys,F1,F2,rfl,hF,dj,h1,h2⟩:=h;simp at e;subst e
  refine⟨y,F1,F2,rfl,hF,dj,by cases es<;>simpa using h1,λH' S' d' Fj' k1 k2 t dj'=>?_⟩
  show TrL K H' S' (d'::ds) es r (y::ys) _;unfold TrL
  exact⟨y,ys,Fj',F2,rfl,λb=>Iff.rfl,dj',by cases es<;>simpa using t,h2.go k1 k2⟩
 |d0::ds,es,r,xs,F,j+1,d,h,e=>by
  unfold TrL at h;obtain⟨y,ys,F1,F2,rfl,hF,dj,h1,h2⟩:=h
  obtain⟨x,Fj,Fr,e1,e2,e3,e4,e5⟩:=TrL.focus h2 (by simpa using e)
  have eg:es.tail.getD j r=es.getD (j+1) r:=by cases es<;>simp
  rw[eg] at e4;refine⟨x,Fj,λb=>F1 b\/Fr b,by simpa using e1,λb=>?_,λb z1 z2=>?_,e4,λH' S' d' Fj' k1 k2 t dj'=>?_⟩
  ·rw[hF b,e2 b];exact⟨λz=>z.elim (λz=>.inr (.inl z)) λz=>z.imp id .inr,λz=>z.elim (λz=>.inr (.inl z)) λz=>z.imp id .inr⟩
  ·rcases z2 with z2|z2
   ·exact dj b z2 ((e2 b).mpr (.inl z1))
   ·exact e3 b z1 z2
  ·show TrL K H' S' (d0::ds.set j d') es r (y::ys) _;unfold TrL;refine⟨y,ys,F1,λb=>Fj' b\/Fr b,rfl,λb=>⟨λz=>z.elim (λz=>.inr (.inl z)) λz=>z.imp id .inr,λz=>z.elim (λz=>.inr (.inl z)) λz=>z.imp id .inr⟩,λb z1 z2=>?_,h1.go (λb o hb e=>k1 b o (hb.imp id .inl) e) k2,e5 H' S' d' Fj' (λb o hb e=>k1 b o (hb.imp id .inr) e) k2 (by rw[eg];exact t) λb z1 z2=>dj' b z1 (.inr z2)⟩;rcases z2 with z2|z2
   ·exact dj' b z2 (.inl z1)
   ·exact dj b z1 ((e2 b).mpr (.inr z2))
noncomputable def FP(K:Km)(H:Hp)(S:Pr)(k:Ow)(v:V)(F:Pr)(k1:Ow)(d1:D)(v1:V)(up:D->D):Prop:=∃(F1 Fr:Pr),(∀b,F b↔F1 b\/Fr b)/\(∀b,F1 b->¬Fr b)/\Tr K H S d1 k1 v1 F1/\
  ∀(H':Hp) (S':Pr) (d1':D) (F1':Pr),(∀b o,(¬S b\/Fr b)->H b=some o->H' b=some o)->(∀b o,H b=some o->¬S b->¬S' b)->Tr K H' S' d1' k1 v1 F1'->(∀b,F1' b->¬Fr b)->Tr K H' S' (up d1') k v (λb=>F1' b\/Fr b)
theorem FP.root(h:Tr K H S d k v F):FP K H S k v F k d v id:=by
 refine⟨F,λ_=>False,λb=>⟨.inl,λz=>z.elim id λz=>z.elim⟩,λ_ _ z=>z,h,λH' S' d1' F1' k1 k2 t dj=>?_⟩;have eF:(λb=>F1' b\/False)=F1':=by funext b;exact propext ⟨λz=>z.elim id λz=>z.elim,.inl⟩
 rw[eF];exact t
theorem FP.same(h:FP K H S k v F k1 d1 v1 up)(s:Same H H2):FP K H2 S k v F k1 d1 v1 up:=by
 obtain⟨F1,Fr,h1,h2,h3,h4⟩:=h;exact⟨F1,Fr,h1,h2,h3.go (λb o _ e=>s b o e) λ_ _ _ n=>n,λH' S' d1' F1' k1 k2 t dj=>h4 H' S' d1' F1' (λb o hb e=>k1 b o hb (s b o e)) (λb o e n=>k2 b o (s b o e) n) t dj⟩
theorem FP.step{es:List Ow}{ds:List D}{up:D->D}{j:Nat}(h:FP K H S k v F (.own es r) (.nd hd ds) v1 up)(hj:ds[j]?=some d):∃a o xs x,v1=.ref a/\H a=some o/\i8 K o hd xs/\xs.length=ds.length/\xs[j]?=some x/\FP K H S k v F (es.getD j r) d x (λz=>up (.nd hd (ds.set j z))):=by
 obtain⟨F1,Fr,h1,h2,h3,h4⟩:=h;unfold Tr at h3;obtain⟨a,o,xs,F',rfl,q1,q2,n1,n2,hF,t⟩:=h3
 obtain⟨x,Fj,Fq,e1,e2,e3,e4,e5⟩:=t.focus hj
 refine⟨a,o,xs,x,rfl,q1,q2,t.len,e1,Fj,λb=>(hd.mu=true/\b=a)\/Fq b\/Fr b,λb=>?_,λb z1 z2=>?_,e4,λH' S' d1' F1' k1 k2 t1 dj'=>?_⟩
 ·rw[h1 b,hF b,e2 b];exact⟨λz=>z.elim (λz=>z.elim (λz=>.inr (.inl z)) λz=>z.imp id λz=>.inr (.inl z)) λz=>.inr (.inr (.inr z)),λz=>z.elim (λz=>.inl (.inr (.inl z))) λz=>z.elim (λz=>.inl (.inl z)) λz=>z.elim (λz=>.inl (.inr (.inr z))) .inr⟩
 ·rcases z2 with⟨hm,rfl⟩|z2|z2
  ·exact n1 hm ((e2 b).mpr (.inl z1))
  ·exact e3 b z1 z2
  ·exact h2 b ((hF b).mpr (.inr ((e2 b).mpr (.inl z1)))) z2
 ·have t3:=e5 H' S' d1' F1' (λb o hb e=>k1 b o (hb.imp id λz=>.inr (.inl z)) e) k2 t1 λb z1 z2=>dj' b z1 (.inr (.inl z2))
  have ha:H' a=some o:=by
   cases hm:hd.mu with
   |true=>exact k1 a o (.inr (.inl ⟨hm,rfl⟩)) q1
   |false=>exact k1 a o (.inl (n2 hm)) q1
  have tn:Tr K H' S' (.nd hd (ds.set j d1')) (.own es r) (.ref a) (λb=>(hd.mu=true/\b=a)\/(F1' b\/Fq b)):=by
   unfold Tr;exact⟨a,o,xs,λb=>F1' b\/Fq b,rfl,ha,q2,λhm z=>z.elim (λz=>dj' a z (.inl ⟨hm,rfl⟩)) λz=>n1 hm ((e2 a).mpr (.inr z)),λhm=>k2 a o q1 (n2 hm),λb=>Iff.rfl,t3⟩
  have t4:=h4 H' S' _ _ (λb o hb e=>k1 b o (hb.imp id λz=>.inr (.inr z)) e) k2 tn λb z1 z2=>by
   rcases z1 with⟨hm,rfl⟩|z1|z1
   ·exact h2 b ((hF b).mpr (.inl ⟨hm,rfl⟩)) z2
   ·exact dj' b z1 (.inr (.inr z2))
   ·exact h2 b ((hF b).mpr (.inr ((e2 b).mpr (.inr z1)))) z2
  have eF:(λb=>((hd.mu=true/\b=a)\/(F1' b\/Fq b))\/Fr b)=λb=>F1' b\/((hd.mu=true/\b=a)\/Fq b\/Fr b):=by
   funext b;exact propext ⟨λz=>z.elim (λz=>z.elim (λz=>.inr (.inl z)) λz=>z.imp id λz=>.inr (.inl z)) λz=>.inr (.inr (.inr z)),λz=>z.elim (λz=>.inl (.inr (.inl z))) λz=>z.elim (λz=>.inl (.inl z)) λz=>z.elim (λz=>.inl (.inr (.inr z))) .inr⟩
  rw[eF] at t4;exact t4
end
noncomputable def ET(hd:Hd)(n:Nat)(x:D):Option Nat:=match hd with
 |.lst=>(match x with|.int z=>ir n z|_=>none)
 |.tup=>(match x with|.int z=>ir n z|_=>none)
 |_=>none
noncomputable def vQ(p:Option (Ow×D×(D->D)))(x:Option KD):Option (Ow×D×(D->D)):=match p,x with
 |some (.own es r,.nd hd ds,up),some (_,dx)=>(match ET hd ds.length dx with
  |some j=>(match ds[j]? with|some d=>some (es.getD j r,d,λz=>up (.nd hd (ds.set j z)))|none=>none)
  |none=>none)
 |_,_=>none
noncomputable def fQ(o:Option (Option Sl)):Option (Ow×D×(D->D)):=match o with
 |some (some ⟨false,k,d⟩)=>some (k,d,id)
 |_=>none
noncomputable def nX(X:Cx)(i:Nat)(f:Ro->Option (Ow×D×(D->D)))(e:Expr):Prop:=∀ρ k1 d1 up,f ρ=some (k1,d1,up)->∀g σ H Q,SE X.K g ρ σ H->
 (∀v1 H' v F k d,Same H H'->ρ[i]?=some (some ⟨false,k,d⟩)->σ[i]?=some (some v)->(∀b,F b->g b=some (some i))->FP X.K H' (Sg g) k v F k1 d1 v1 up->Q v1 H')->wE X e σ H Q
section
variable {X:Cx} {Γ:gH} {c:Cz}
theorem BT(O:al X Γ c){x:Str}{i:Nat}(hc:d9 c x=some i)(pos:Pos):nX X i (λρ=>fQ ρ[i]?) (.Name x pos):=by
 intro ρ k1 d1 up h g σ H Q se q;dsimp only[fQ] at h;split at h
 ·rename_i k d e;cases h;obtain⟨v,F,e1,e2,e3⟩:=se.slot i _ e;exact gZ O hc pos e1 (q v H v F k1 d1 (Same.refl H) e e1 e2 (.root e3))
 ·cases h
theorem BU(O:al X Γ c){i:Nat}{fp:Ro->Option (Ow×D×(D->D))}{fb:Ro->Option KD}{a b:Expr}{pos:Pos}(ha:nX X i fp a)(hb:SndE X fb b)(hp:cQ b=true):nX X i (λρ=>vQ (fp ρ) (fb ρ)) (.Subscript a b pos):=by
 intro ρ k1 d1 up h g σ H Q se q;dsimp only[vQ] at h;split at h
 ·rename_i es r hd ds up0 kx dx ep ex;split at h
  ·rename_i j hj;split at h
   ·rename_i dj ej;cases h
    cases hd with
    |lst=>
     refine ak (qB lX au au (ef hp)) (ha ρ _ _ _ ep g σ H _ se λv1 H1 v F k d s1 e1 e2 e3 fp1=>hb ρ _ _ ex g σ H1 _ (se.same s1) λy H2 s2 r2=>?_)
     cases dx with
     |int z=>
      obtain rfl:=r2.rd.int;obtain⟨a',o,xs,x,rfl,q1,q2,l,ex',fp2⟩:=(fp1.same s2).step ej;cases(show o=_ from q2);exact .inl ⟨a',xs,z,x,rfl,rfl,.of q1,by unfold L2.nq;rw[l,(show ir ds.length z=some j from hj)];exact ex',q x H2 v F k d (s1.trans s2) e1 e2 e3 fp2⟩
     |_=>cases hj
    |tup=>
     refine ak (qB lX au au (ef hp)) (ha ρ _ _ _ ep g σ H _ se λv1 H1 v F k d s1 e1 e2 e3 fp1=>hb ρ _ _ ex g σ H1 _ (se.same s1) λy H2 s2 r2=>?_)
     cases dx with
     |int z=>
      obtain rfl:=r2.rd.int;obtain⟨a',o,xs,x,rfl,q1,q2,l,ex',fp2⟩:=(fp1.same s2).step ej;cases(show o=_ from q2);exact .inr (.inl ⟨a',xs,z,x,rfl,rfl,.of q1,by unfold L2.nq;rw[l,(show ir ds.length z=some j from hj)];exact ex',q x H2 v F k d (s1.trans s2) e1 e2 e3 fp2⟩)
     |_=>cases hj
    |dic t ks=>cases hj
    |obj c ns=>cases hj
   ·cases h
  ·cases h
 ·cases h
end
section
variable {X:Cx}
end
open Classical in
noncomputable def Gh.give(g:Gh)(F:Pr)(i:Nat):Gh:=λb=>if F b then some (some i) else g b
section
variable {K:Km} {H:Hp} {g:Gh} {F:Pr} {ρ:Ro} {σ:L2.St}
theorem g6{F2:Pr}{i:Nat}(h:F2 b):g.give F2 i b=some (some i):=by unfold Gh.give;rw[if_pos h]
theorem br{F2:Pr}{i:Nat}(h:¬F2 b):g.give F2 i b=g b:=by unfold Gh.give;rw[if_neg h]
theorem give_S{F2:Pr}{i:Nat}:Sg (g.give F2 i) b↔Sg g b\/F2 b:=by
 by_cases h:F2 b
 ·exact⟨λ_=>.inr h,λ_=>by rw[Sg,g6 h];simp⟩
 ·exact⟨λz=>.inl (by rw[Sg,br h] at z;exact z),λz=>z.elim (λz=>by rw[Sg,br h];exact z) λz=>absurd z h⟩
structure mF(K:Km)(H:Hp)(g:Gh)(F:Pr)(ρ:Ro)(σ:L2.St)(i:Nat)(k:Ow)(es:List Ow)(r:Ow)(hd:Hd)(ds:List D)(up:D->D)(a:Addr)(o:HO)(xs:List V)(F':Pr):Prop where
 at_:H a=some o
 ok:i8 K o hd xs
 kids:TrL K H (Sg (g.plus F)) ds es r xs F'
 lab:∀b,F' b->g b=some (some i)
 nin:¬F' a
 own:g a=some (some i)
 put:∀(o':HO) (hd':Hd) (ds':List D) (xs':List V) (F2 F3:Pr),hd'.mu=true->i8 K o' hd' xs'->(∀xs,o'≠.tup xs)->(∀b,F2 b->F b)->(∀b,F3 b->F' b\/F2 b)->TrL K H (Sg (g.give F2 i)) ds' es r xs' F3->
  SE K (g.give F2 i) (ρ.set i (some ⟨false,k,up (.nd hd' ds')⟩)) σ (upd H a o')
theorem FP.node{i:Nat}{Fi:Pr}{hd:Hd}(se:SE K (g.plus F) ρ σ H)(hg:∀b,F b->g b=none)(e:ρ[i]?=some (some ⟨false,k,d⟩))(hv:σ[i]?=some (some v))(lb:∀b,Fi b->(g.plus F) b=some (some i))(fp:FP K H (Sg (g.plus F)) k v Fi (.own es r) (.nd hd ds) v1 up)(hm:hd.mu=true):∃a o xs F',v1=.ref a/\mF K H g F ρ σ i k es r hd ds up a o xs F':=by
 obtain⟨F1,Fr,h1,h2,h3,h4⟩:=fp;unfold Tr at h3;obtain⟨a,o,xs,F',rfl,q1,q2,n1,n2,hF,t⟩:=h3;have gl:∀b,Fi b->g b=some (some i):=λb z=>bw (lb b z);have ga:g a=some (some i):=gl a ((h1 a).mpr (.inl ((hF a).mpr (.inl ⟨hm,rfl⟩))));have gF:∀b,F' b->g b=some (some i):=λb z=>gl b ((h1 b).mpr (.inl ((hF b).mpr (.inr z))));refine⟨a,o,xs,F',rfl,q1,q2,t,gF,n1 hm,ga,λo' hd' ds' xs' F2 F3 hm' ok' nt s2 s3 t'=>?_⟩;have sub:∀b,Sg (g.give F2 i) b->Sg (g.plus F) b:=λb z=>(ai b).mpr ((give_S.mp z).imp id (s2 b));have kb:∀b o2,b≠a->H b=some o2->upd H a o' b=some o2:=λb o2 n e=>by rw[aj n];exact e
 have nF2:∀b,F2 b->g b=none:=λb z=>hg b (s2 b z);have nF3a:¬F3 a:=λz=>(s3 a z).elim (n1 hm) λz=>by rw[nF2 a z] at ga;cases ga
 refine⟨λj sl ej=>?_,λb z=>?_,by simp[se.len]⟩
 ·by_cases hj:j=i
  ·subst hj
   have hlt:j<ρ.length:=by
    have:=(Ky.mp ej).1;simpa using this
   rw[KM hlt] at ej;cases ej
   have tn:Tr K (upd H a o') (Sg (g.give F2 j)) (.nd hd' ds') (.own es r) (.ref a) (λb=>b=a\/F3 b):=by
    unfold Tr;refine⟨a,o',xs',F3,rfl,aE,ok',λ_=>nF3a,λh=>by (rw[hm'] at h;cases h),λb=>⟨λz=>z.imp (λz=>⟨hm',z⟩) id,λz=>z.imp (λz=>z.2) id⟩,t'.go (λb o2 hb e=>kb b o2 (λz=>?_) e) λ_ _ _ n=>n⟩;subst z;rcases hb with hb|hb
    ·exact hb (give_S.mpr (.inl (by rw[Sg,ga];simp)))
    ·exact nF3a hb
   refine⟨v,_,hv,λb z=>?_,h4 (upd H a o') (Sg (g.give F2 j)) _ _ (λb o2 hb e=>kb b o2 (λz=>?_) e) (λb o2 _ n z=>n (sub b z)) tn λb z1 z2=>?_⟩
   ·rcases z with(rfl|z)|z
    ·rw[br (λz=>by rw[nF2 b z] at ga;cases ga)];exact ga
    ·by_cases z2:F2 b
     ·exact g6 z2
     ·rw[br z2];exact(s3 b z).elim (gF b) λz=>absurd z z2
    ·have:=gl b ((h1 b).mpr (.inr z));rw[br (λz=>by rw[nF2 b z] at this;cases this)];exact this
   ·subst z;rcases hb with hb|hb
    ·exact hb ((ai b).mpr (.inl (by rw[Sg,ga];simp)))
    ·exact h2 b ((hF b).mpr (.inl ⟨hm,rfl⟩)) hb
   ·rcases z1 with rfl|z1
    ·exact h2 b ((hF b).mpr (.inl ⟨hm,rfl⟩)) z2
    ·rcases s3 b z1 with z|z
     ·exact h2 b ((hF b).mpr (.inr z)) z2
     ·have:=gl b ((h1 b).mpr (.inr z2));rw[nF2 b z] at this;cases this
  ·rw[KJ (Ne.symm hj)] at ej;obtain⟨w,Fj,e1,e2,e3⟩:=se.slot j sl ej;have gj:∀b,Fj b->g b=some (some j):=λb z=>bw (e2 b z);refine⟨w,Fj,e1,λb z=>?_,e3.go (λb o2 hb e=>kb b o2 (λz=>?_) e) λb o2 _ n z=>n (sub b z)⟩
   ·have:=gj b z;rw[br (λz=>by rw[nF2 b z] at this;cases this)];exact this
   ·subst z;rcases hb with hb|hb
    ·exact hb ((ai b).mpr (.inl (by rw[Sg,ga];simp)))
    ·rw[gj b hb] at ga;cases ga;exact hj rfl
 ·by_cases hb:b=a
  ·exact⟨o',by rw[hb];exact aE,nt⟩
  ·obtain⟨o2,e2,n⟩:=se.mu b (sub b z);exact⟨o2,kb b o2 hb e2,n⟩
theorem Evo.give{i:Nat}{F2:Pr}(ev:Evo g0 H0 g H F)(s2:∀b,F2 b->F b)(ga:g a=some (some i)):Evo g0 H0 (g.give F2 i) (L2.upd H a o') (λ_=>False):=by
 have nF2:∀b,F2 b->g b=none:=λb z=>(ev.tmp b (s2 b z)).1;refine⟨λb o n e=>?_,λb=>⟨λe=>?_,λe=>?_⟩,λb j e=>?_,λ_ z=>z.elim,λb o e=>?_⟩
 ·rw[aj (λz=>?_)]
  ·exact ev.keep b o n e
  ·subst z;rcases ev.new b i ga with⟨j,q⟩|q
   ·exact n j q
   ·rw[e] at q;cases q
 ·have:=(ev.out b).mp e;rw[br (λz=>by rw[nF2 b z] at this;cases this)];exact this
 ·by_cases z:F2 b
  ·rw[g6 z] at e;cases e
  ·rw[br z] at e;exact(ev.out b).mpr e
 ·by_cases z:F2 b
  ·exact(ev.tmp b (s2 b z)).2
  ·rw[br z] at e;exact ev.new b j e
 ·by_cases hb:b=a
  ·exact⟨o',by rw[hb];exact aE⟩
  ·obtain⟨o2,q⟩:=ev.dom b o e;exact⟨o2,by rw[aj hb];exact q⟩
end
end J
namespace L2
open PySem PySem.Spec PyProof.Rows
section
variable {X:Cx}
noncomputable def rs:V->List V->Hp->VK->Prop:=λx vs H Q=>∃l xs i y,x=.ref l/\vs=[.int i,y]/\H l=some (.lst xs)/\0<=i/\i<=100000/\xs.length<sizeLine/\Q .non (upd H l (.lst (xs.take i.toNat++y::xs.drop i.toNat)))
theorem sU:Hr X "list.insert" rs:=by
 intro pins s σ H x vs v us Q I rx rv h;obtain⟨l,xs,i,y,rfl,rfl,hH,h0,h1,hz,q⟩:=h;cases rx;obtain⟨u1,u2,rfl,⟨t,rfl⟩,ru⟩:=rv.two;obtain⟨z,its,n,r,hl,e⟩:=I.lstM hH
 have hfit:¬(!Builtin.List.listFitsIndex i)=true:=by
  have:Builtin.List.listFitsIndex i=true:=by
   unfold Builtin.List.listFitsIndex;simp only[Kn,decide_eq_true_eq]
   lia
  rw[this];decide
 refine call_meets F.slot_list_insert ⟨_,e,rfl⟩ F.entry_list_insert (F.args_list_insert_3 _ _ _) (AutoSeq1.list_insert_list_int_val_1 l its.toArray n i t u2 hfit (by rw[Kv];lia)) ⟨e,?_⟩;refine⟨.non,_,I.lset (its':=its.take i.toNat++u2::its.drop i.toNat) hH e ?_ ((r.take _).append (.cons ru (r.drop _))) ?_,rfl,q⟩
 ·show((its.toArray.extract 0 (if i<0 then(i+(its.toArray.size:Int)).toNat else min i.toNat its.toArray.size)).push u2++its.toArray.extract (if i<0 then(i+(its.toArray.size:Int)).toNat else min i.toNat its.toArray.size))=_
  rw[if_neg (by lia)];have e1:its.take (min i.toNat its.toArray.size)=its.take i.toNat:=by rw[Kv,<- List.take_take,LM]
  have e2:its.drop (min i.toNat its.toArray.size)=its.drop i.toNat:=by
   rw[Kv];by_cases h:i.toNat<=its.length
   ·rw[L3 h]
   ·rw[Mc (by lia),Nl,List.drop_eq_nil_of_le (by lia)]
  rw[<- e1,<- e2];generalize min i.toNat its.toArray.size=k;apply Array.ext';simp[List.extract_eq_take_drop];exact Lg (by simp)
 ·rw[K9,KS,La,Ma]
  lia
end
end L2
namespace J
open PySem PySem.Spec L2
noncomputable def j4(m:Str)(es:List Ow)(r:Ow)(ds:List D)(as:List KD):Option (D×List D):=
 if m="append" then(match as with|[x]=>if es.length<=ds.length/\cP r x=true/\ds.length<100000 then some (.non,ds++[x.2]) else none|_=>none)
 else if m="extend" then(match as with|[(k,.nd .lst ys)]=>if gE (.own es r)=true/\ip k ys=true/\bp k=false/\ds.length+ys.length<=100000 then some (.non,ds++ys) else none|_=>none)
 else if m="pop" then(match as with
  |[(_,.int z)]=>if gE (.own es r)=true/\-(2^63)<=z/\z<2^63 then(match seqIndex? z ds.length with|some j=>(ds[j]?).map λd=>(d,ds.eraseIdx j)|none=>none) else none
  |_=>none)
 else if m="insert" then(match as with
  |[(_,.int z),(k,d)]=>if gE (.own es r)=true/\ph k d=true/\0<=z/\z<=100000/\ds.length<100000 then some (.non,ds.take z.toNat++d::ds.drop z.toNat) else none
  |_=>none)
 else none
noncomputable def yV(m:Str):V->List V->Hp->VK->Prop:=
 if m="append" then qC else if m="extend" then qD else if m="pop" then um else if m="insert" then rs else λ_ _ _ _=>False
section
variable {K:Km} {H:Hp} {g g0:Gh} {H0:Hp} {F F':Pr} {ρ:Ro} {σ:L2.St} {i:Nat} {k:Ow} {es:List Ow} {r:Ow} {ds:List D} {up:D->D} {a:Addr} {o:HO} {xs:List V}
theorem jp:g.give (λ_=>False) i=g:=by funext b;exact br λz=>z
theorem TrL.snoc2:∀{ds:List D} {es:List Ow} {r:Ow} {us:List V} {F F2:Pr} {d:D} {v:V},es.length<=ds.length->TrL K H S ds es r us F->Tr K H S d r v F2->(∀b,F b->¬F2 b)->TrL K H S (ds++[d]) es r (us++[v]) (λb=>F b\/F2 b)
 |[],es,r,us,F,F2,d,v,hl,h,t,dj=>by
  have:es=[]:=KY.mp (Nat.le_zero.mp hl);subst this;exact TrL.snoc h t dj
 |e::ds,es,r,us,F,F2,d,v,hl,h,t,dj=>by
  unfold TrL at h;obtain⟨y,ys,F1,F3,rfl,hF,dj1,h1,h2⟩:=h;show TrL K H S (e::(ds++[d])) es r (y::(ys++[v])) _;unfold TrL
  refine⟨y,ys++[v],F1,λb=>F3 b\/F2 b,rfl,λb=>?_,λb z1 z2=>?_,h1,TrL.snoc2 (by cases es<;>simp at hl⊢;lia) h2 t λb z=>dj b ((hF b).mpr (.inr z))⟩
  ·show F b\/F2 b↔F1 b\/F3 b\/F2 b;rw[hF b,or_assoc]
  ·rcases z2 with z2|z2
   ·exact dj1 b z1 z2
   ·exact dj b ((hF b).mpr (.inl z1)) z2
theorem TrL.ofFlat:∀{ds:List D} {es:List Ow} {xs:List V},(∀e∈es,e=.fz)->RpL K H S ds xs->TrL K H S ds es .fz xs λ_=>False
 |[],_,_,_,h=>by unfold TrL;exact⟨h.nil_inv,λ_ z=>z⟩
 |d::ds,es,_,he,h=>by
  obtain⟨y,ys,rfl,r,t⟩:=h.cons_inv;unfold TrL
  refine⟨y,ys,_,_,rfl,λb=>⟨.inl,λz=>z.elim id id⟩,λ_ z=>z.elim,?_,TrL.ofFlat (λe q=>he e (by cases es with|nil=>cases q|cons a r=>exact .tail _ q)) t⟩
  have e:es.headD .fz=.fz:=by
   cases es with
   |nil=>rfl
   |cons a r=>exact he a (.head _)
  rw[e];exact Tr.fz r
theorem eZ{m:Str}{Q:VK}(h:j4 m es r ds as=some (d',ds'))(nd:mF K H g F ρ σ i k es r .lst ds up a o xs F')(ev:Evo g0 H0 g H F)(se:SE K (g.plus F) ρ σ H)(ra:VRL K H g F as vs F)(q:∀v g' H' Fv,Evo g0 H0 g' H' Fv->SE K (g'.plus Fv) (ρ.set i (some ⟨false,k,up (.lst ds')⟩)) σ H'->VR1 K H' g' Fv .sh d' v Fv->Q v H'):yV m (.ref a) vs H Q:=by
 have ho:o=.lst xs:=nd.ok;subst ho;have hF:∀b,F b->g b=none:=λb z=>(ev.tmp b z).1;have mm:MuOk H (Sx g F):=λb z=>se.mu b ((ai b).mpr z);have sx:∀b,Sg (g.plus F) b↔Sx g F b:=λb=>ai b
 -- behind the change
 have fin:∀{xs':List V} {F2 F3:Pr} {v:V},(∀b,F2 b->F b)->(∀b,F3 b->F' b\/F2 b)->TrL K H (Sg (g.give F2 i)) ds' es r xs' F3->Rp K (upd H a (.lst xs')) (Sg (g.give F2 i)) d' v->Q v (upd H a (.lst xs')):=λ{xs' F2 F3 v} s2 s3 t rv=>by
  refine q v (g.give F2 i) _ (λ_=>False) (ev.give s2 nd.own) ?_ ⟨λ_ z=>z,rv.weak λb z=>z.elim id λz=>z.elim⟩;rw[aN λ_ z=>z];exact nd.put (.lst xs') .lst ds' xs' F2 F3 rfl rfl (λ_ h=>by cases h) s2 s3 t
 have old:∀{F2:Pr},(∀b,F2 b->F b)->∀b o,H b=some o->¬Sg (g.plus F) b->¬Sg (g.give F2 i) b:=λs2 b o _ n z=>n ((ai b).mpr ((give_S.mp z).imp id (s2 b)))
 have flat:gE (.own es r)=true->(∀e∈es,e=.fz)/\r=.fz/\RpL K H (Sg g) ds xs:=λhf=>by
  obtain⟨he,hr⟩:=qH hf;refine⟨he,hr,?_⟩;have:=nd.kids;rw[hr] at this;exact(this.flat he).2.weak λb z=>(ai b).mpr (.inl z)
 have rpU:∀{d:D} {v:V} {xs':List V},Rp K H (Sg g) d v->Rp K (upd H a (.lst xs')) (Sg g) d v:=λr=>r.go λb o n e=>⟨by rw[aj (λz=>n (by rw[z,Sg,nd.own];simp))];exact e,n⟩;unfold j4 at h;unfold yV;split at h
 ·rename_i hm;rw[if_pos hm];split at h
  ·rename_i x;split at h
   ·rename_i hc;cases h;obtain⟨y,ys,F1,F2',rfl,hF1,dj,r1,rfl,hn⟩:=ra;have e1:∀b,F b↔F1 b:=λb=>⟨λz=>((hF1 b).mp z).elim id λz=>absurd z (hn b),λz=>(hF1 b).mpr (.inl z)⟩;obtain⟨F2,a1,a2⟩:=VR1.fit hc.2.1 mm (λb z=>hF b ((e1 b).mpr z)) (λb z=>(e1 b).mpr z) r1;refine⟨a,xs,y,rfl,rfl,nd.at_,by rw[nd.kids.len];exact Kz hc.2.2 (aT (Kw _)),?_⟩;refine fin (F2:=F2) (F3:=λb=>F' b\/F2 b) (λb z=>(e1 b).mpr (a1 b z)) (λb z=>z) (TrL.snoc2 hc.1 (nd.kids.go (λ_ _ _ e=>e) (old λb z=>(e1 b).mpr (a1 b z))) (a2 _ λb z=>?_) λb z1 z2=>?_) (by unfold Rp;rfl)
    ·rcases give_S.mp z with z|z
     ·exact .inr (.inl z)
     ·exact .inr (.inr (.inl z))
    ·have:=nd.lab b z1;rw[hF b ((e1 b).mpr (a1 b z2))] at this;cases this
   ·cases h
  ·cases h
 ·rename_i hm;rw[if_neg hm];split at h
  ·rename_i hm2;rw[if_pos hm2];split at h
   ·rename_i kk ys;split at h
    ·rename_i hc;cases h;obtain⟨he,hr,rl⟩:=flat hc.1;subst hr;obtain⟨v,rfl,rv⟩:=ra.off.one;obtain⟨b,o,zs,rfl,gb,qb,rb⟩:=rv.items hc.2.1 (iG se hF) dW;cases(show o=_ from qb);refine⟨a,b,xs,zs,rfl,rfl,nd.at_,gb,by rw[rl.len,rb.len];exact aT hc.2.2.2,?_⟩;exact fin (F2:=λ_=>False) (F3:=λ_=>False) (λ_ z=>z.elim) (λ_ z=>z.elim) (by rw[jp];exact .ofFlat he (rl.append rb)) (by unfold Rp;rfl)
    ·cases h
   ·cases h
  ·rename_i hm2;rw[if_neg hm2];split at h
   ·rename_i hm4;rw[if_pos hm4];split at h
    ·rename_i kz z;split at h
     ·rename_i hc;obtain⟨he,hr,rl⟩:=flat hc.1;subst hr;obtain⟨v,rfl,rv⟩:=ra.off.one;obtain rfl:=rv.rd.int;split at h
      ·rename_i j hj;obtain⟨dd,hd',e⟩:=aH h;cases e;obtain⟨y,ey,ry⟩:=rl.getD hd';refine⟨a,xs,z,j,y,rfl,rfl,nd.at_,hc.2.1,hc.2.2,by rw[rl.len];exact hj,ey,?_⟩;exact fin (F2:=λ_=>False) (F3:=λ_=>False) (λ_ z=>z.elim) (λ_ z=>z.elim) (by rw[jp];exact .ofFlat he (rl.erase _)) (by rw[jp];exact rpU ry)
      ·cases h
     ·cases h
    ·cases h
   ·rename_i hm4;rw[if_neg hm4];split at h
    ·rename_i hm6;rw[if_pos hm6];split at h
     ·rename_i kz z kd dd;split at h
      ·rename_i hc;cases h;obtain⟨he,hr,rl⟩:=flat hc.1;subst hr;obtain⟨v1,v2,rfl,r1,r2⟩:=ra.off.two;obtain rfl:=r1.rd.int;have ry:=r2.sh hc.2.1 (iG se hF) dW;refine⟨a,xs,z,v2,rfl,rfl,nd.at_,hc.2.2.1,hc.2.2.2.1,by rw[rl.len];exact Kz hc.2.2.2.2 (aT (Kw _)),?_⟩;exact fin (F2:=λ_=>False) (F3:=λ_=>False) (λ_ z=>z.elim) (λ_ z=>z.elim) (by rw[jp];exact .ofFlat he ((rl.take _).append (.cons ry (rl.drop _)))) (by unfold Rp;rfl)
      ·cases h
     ·cases h
    ·cases h
end
noncomputable def mNames:List Str:=["append","pop","insert"]
noncomputable def dF(m:Str)(i:Nat)(p:Option (Ow×D×(D->D)))(as:Option (List KD))(ρ:Ro):MR:=match p,as with
 |some (.own es r,.nd .lst ds,up),some as=>(match j4 m es r ds as,ρ[i]? with
  |some (d',ds'),some (some ⟨false,k,_⟩)=>some (.sh,d',ρ.set i (some ⟨false,k,up (.lst ds')⟩))
  |_,_=>none)
 |_,_=>none
section
variable {X:Cx} {Γ:gH} {c:Cz}
theorem mG{m:Str}(hm:m∈mNames):∃id,Slot "list" m id/\typeOf (.builtin id)=pure (.type "method_descriptor")/\Go X id (yV m):=by
 simp only[mNames,Ku,KO,or_false] at hm;rcases hm with rfl|rfl|rfl
 ·exact⟨_,PySem.F.slot_list_append,PySem.F.type_list_append,k7⟩
 ·exact⟨_,PySem.F.slot_list_pop,PySem.F.type_list_pop,uo⟩
 ·exact⟨_,PySem.F.slot_list_insert,PySem.F.type_list_insert,sU⟩
theorem BV{i:Nat}{m:Str}{ap cp:Pos}{fp:Ro->Option (Ow×D×(D->D))}(hm:m∈mNames)(hp:nX X i fp b)(hb:fL b=true)(hl:(ap.endLine==cp.line)=true):a8 X (λρ=>dF m i (fp ρ) (some []) ρ) (.Call (.Attribute b m ap) [] [] cp):=by
 intro ρ kd d ρ' h g σ H Q se q;dsimp only[dF] at h;split at h
 ·rename_i es r ds up as ep ea;cases ea;split at h
  ·rename_i d' ds' k dd em ei;cases h;obtain⟨mid,s1,s2,s3⟩:=mG (X:=X) hm;refine ak (AX PySem.F.plainAttrs_list s1 s2 s3 au (gO hb) hl) (hp ρ _ _ _ ep g σ H _ se λv1 H1 v F k0 d0 sm e1 e2 e3 f1=>?_);rw[ei] at e1;cases e1;have se1:SE X.K (g.plus λ_=>False) ρ σ H1:=by rw[aN λ_ z=>z];exact se.same sm
   have eg:g.plus (λ_=>False)=g:=aN λ_ z=>z;obtain⟨a,o,xs,F',rfl,nd⟩:=FP.node (F:=λ_=>False) se1 (λ_ z=>z.elim) ei e2 (by rw[eg];exact e3) (by rw[eg];exact f1) rfl;have ho:o=.lst xs:=nd.ok;subst ho;exact⟨.inl ⟨rfl,xs,.of nd.at_⟩,eZ em nd (cw sm (λ_ z=>z.elim) λ_ z=>z.elim) se1 ⟨rfl,λ_ z=>z⟩ q⟩
  ·cases h
 ·cases h
theorem yW(h:ad e=true)(h':ad e'=true):((backTo cp (starEach [e,e'] env)).all (λx=>!x.1)&&(backToKw cp (keywordEach [] env)).all (λx=>x.1.isSome)
      && decide ([e,e'].length+([]:List Keyword).length+(if([]:List Keyword).isEmpty then 0 else 1)<30))=true:=by
  rw[ac h,ac h'];rfl
theorem BW{i:Nat}{m:Str}{ap cp:Pos}{fp:Ro->Option (Ow×D×(D->D))}{fa:Ro->Option (List KD)}(hm:m∈mNames)(hp:nX X i fp b)(ha:jI X fa [e,e'])(hb:fL b=true)(hn:ad e=true)(hn':ad e'=true)(hl:(ap.endLine==cp.line)=true):a8 X (λρ=>dF m i (fp ρ) (fa ρ) ρ) (.Call (.Attribute b m ap) [e,e'] [] cp):=by
 intro ρ kd d ρ' h g σ H Q se q;dsimp only[dF] at h;split at h
 ·rename_i es r ds up as ep ea;split at h
  ·rename_i d' ds' k dd em ei;cases h;obtain⟨mid,s1,s2,s3⟩:=mG (X:=X) hm;refine ak (uk PySem.F.plainAttrs_list s1 s2 s3 au cq (gO hb) (yW hn hn') hl (ac hn) (by rw[ac hn'];rfl)) (hp ρ _ _ _ ep g σ H _ se λv1 H1 v F k0 d0 sm e1 e2 e3 f1=>?_);rw[ei] at e1;cases e1;have eg:g.plus (λ_=>False)=g:=aN λ_ z=>z
   have sq:∃xs,SqL X.K H1 (match v1 with|.ref a=>a|_=>0) xs/\∃a,v1=.ref a:=by
    obtain⟨a,o,xs,F',rfl,nd⟩:=FP.node (F:=λ_=>False) (by rw[eg];exact se.same sm) (λ_ z=>z.elim) ei e2 (by rw[eg];exact e3) (by rw[eg];exact f1) rfl;have ho:o=.lst xs:=nd.ok;subst ho;exact⟨xs,.of nd.at_,a,rfl⟩
   obtain⟨xs0,sq1,a0,rfl⟩:=sq;refine⟨.inl ⟨rfl,xs0,sq1⟩,ha ρ as ea g σ H1 _ (se.same sm) λys H2 s2' r2=>?_⟩;obtain⟨Fy,y1,y2⟩:=r2;have sy:=(se.same sm).plus s2' y1 y2.dom;have hgy:∀b,Fy b->g b=none:=λb z=>eB (se.same sm).mu (y1 b z)
   have f3:FP X.K H2 (Sg (g.plus Fy)) k v F (.own es r) (.lst ds) (.ref a0) up:=by
    obtain⟨F1,Fr,q1,q2,q3,q4⟩:=f1;have k2:∀b o,H1 b=some o->¬Sg g b->¬Sg (g.plus Fy) b:=λb o e n z=>((ai b).mp z).elim n λz=>by rw[y1 b z] at e;cases e
    refine⟨F1,Fr,q1,q2,q3.go (λb o _ e=>s2' b o e) k2,λH' S' d1' F1' t1 t2 t3 t4=>q4 H' S' d1' F1' (λb o hb e=>t1 b o (hb.imp (λn=>k2 b o e n) id) (s2' b o e)) (λb o e n=>t2 b o (s2' b o e) (k2 b o e n)) t3 t4⟩
   obtain⟨a,o,xs,F',e4,nd⟩:=FP.node (F:=Fy) sy hgy ei e2 (λb z=>bI (e3 b z) λz2=>by have:=e3 b z;rw[hgy b z2] at this;cases this) f3 rfl;cases e4;exact eZ em nd (cw (sm.trans s2') (λb z=>sm.free (y1 b z)) hgy) sy y2 q
  ·cases h
 ·cases h
theorem BX{i:Nat}{m:Str}{b e:Expr}{ap cp:Pos}{fp:Ro->Option (Ow×D×(D->D))}{fa:Ro->Option KD}(hm:m∈mNames)(hp:nX X i fp b)(ha:SndE X fa e)(hb:fL b=true)(hn:ad e=true)(hl:(ap.endLine==cp.line)=true):a8 X (λρ=>dF m i (fp ρ) (eO (fa ρ) (some [])) ρ) (.Call (.Attribute b m ap) [e] [] cp):=by
 intro ρ kd d ρ' h g σ H Q se q;dsimp only[dF] at h;split at h
 ·rename_i es r ds up as ep ea;split at h
  ·rename_i d' ds' k dd em ei;cases h;obtain⟨mid,s1,s2,s3⟩:=mG (X:=X) hm;refine ak (uk PySem.F.plainAttrs_list s1 s2 s3 au (a7 au cF (ac hn)) (gO hb) (va hn) hl (ac hn) rfl) (hp ρ _ _ _ ep g σ H _ se λv1 H1 v F k0 d0 sm e1 e2 e3 f1=>?_);rw[ei] at e1;cases e1;unfold eO at ea;split at ea
   ·rename_i x xs' ex exs;cases exs;cases ea;obtain⟨kx,dx⟩:=x;have eg:g.plus (λ_=>False)=g:=aN λ_ z=>z
    have sq:∃xs,SqL X.K H1 (match v1 with|.ref a=>a|_=>0) xs/\∃a,v1=.ref a:=by
     obtain⟨a,o,xs,F',rfl,nd⟩:=FP.node (F:=λ_=>False) (by rw[eg];exact se.same sm) (λ_ z=>z.elim) ei e2 (by rw[eg];exact e3) (by rw[eg];exact f1) rfl;have ho:o=.lst xs:=nd.ok;subst ho;exact⟨xs,.of nd.at_,a,rfl⟩
    obtain⟨xs0,sq1,a0,rfl⟩:=sq;refine⟨.inl ⟨rfl,xs0,sq1⟩,ha ρ kx dx ex g σ H1 _ (se.same sm) λy H2 s2' r2=>?_⟩;obtain⟨Fy,y1,y2⟩:=r2;have sy:=(se.same sm).plus s2' y1 y2.dom;have hgy:∀b,Fy b->g b=none:=λb z=>eB (se.same sm).mu (y1 b z);have f2':=f1.same s2'
    have f3:FP X.K H2 (Sg (g.plus Fy)) k v F (.own es r) (.lst ds) (.ref a0) up:=by
     obtain⟨F1,Fr,q1,q2,q3,q4⟩:=f1;have k2:∀b o,H1 b=some o->¬Sg g b->¬Sg (g.plus Fy) b:=λb o e n z=>((ai b).mp z).elim n λz=>by rw[y1 b z] at e;cases e
     refine⟨F1,Fr,q1,q2,q3.go (λb o _ e=>s2' b o e) k2,λH' S' d1' F1' t1 t2 t3 t4=>q4 H' S' d1' F1' (λb o hb e=>t1 b o (hb.imp (λn=>k2 b o e n) id) (s2' b o e)) (λb o e n=>t2 b o (s2' b o e) (k2 b o e n)) t3 t4⟩
    obtain⟨a,o,xs,F',e4,nd⟩:=FP.node (F:=Fy) sy hgy ei e2 (λb z=>bI (e3 b z) λz2=>by have:=e3 b z;rw[hgy b z2] at this;cases this) f3 rfl;cases e4;exact eZ em nd (cw (sm.trans s2') (λb z=>sm.free (y1 b z)) hgy) sy ⟨y,[],Fy,λ_=>False,rfl,λb=>⟨.inl,λz=>z.elim id λz=>z.elim⟩,λ_ _ z=>z,y2,rfl,λ_ z=>z⟩ q
   ·cases ea
  ·cases h
 ·cases h
noncomputable def nY(m:Str)(i:Nat)(o:Option (Option Sl))(a:MR):MR:=match o,a with
 |some (some ⟨false,.own _ _,.nd .lst _⟩),some (kd,d,ρ1)=>dF m i (fQ ρ1[i]?) (some [(bW kd d,d)]) ρ1
 |_,_=>none
theorem BY(O:al X Γ c){i:Nat}{m x:Str}{p:Pos}{e:Expr}{ap cp:Pos}{fa:Ro->MR}(hm:m∈mNames)(hc:d9 c x=some i)(ha:a8 X fa e)(hb:fL (.Name x p)=true)(hn:ad e=true)(hl:(ap.endLine==cp.line)=true):a8 X (λρ=>nY m i ρ[i]? (fa ρ)) (.Call (.Attribute (.Name x p) m ap) [e] [] cp):=by
 intro ρ kd d ρ' h g σ H Q se q;dsimp only[nY] at h;split at h
 ·rename_i es0 r0 ds0 kx dx ρ1 ei ex;obtain⟨mid,s1,s2,s3⟩:=mG (X:=X) hm;obtain⟨v,F,e1,e2,e3⟩:=se.slot i _ ei;have e3':=e3;unfold Tr at e3';obtain⟨a0,o0,xs0,F0',rfl,g1,q1,_⟩:=e3';have q1:o0=.lst xs0:=q1;subst q1;refine ak (uk PySem.F.plainAttrs_list s1 s2 s3 au (a7 au cF (ac hn)) (gO hb) (va hn) hl (ac hn) rfl) (gZ O hc p e1 ⟨.inl ⟨rfl,xs0,.of g1⟩,ha ρ kx dx ρ1 ex g σ H _ se λy g1 H1 F1 ev se1 r1=>?_⟩);unfold dF at h;split at h
  ·rename_i es r ds up as ep ea;cases ea;split at h
   ·rename_i d' ds' k dd em ei1;cases h;have:fQ ρ1[i]?=some (k,dd,id):=by rw[ei1];rfl
    rw[this] at ep;cases ep;obtain⟨w,Fi,w1,w2,w3⟩:=se1.slot i _ ei1;rw[e1] at w1;cases w1;obtain⟨a,o,xs,F',e4,nd⟩:=FP.node (F:=F1) se1 (λb z=>(ev.tmp b z).1) ei1 e1 w2 (.root w3) rfl;cases e4;exact eZ em nd ev se1 ⟨y,[],F1,λ_=>False,rfl,λb=>⟨.inl,λz=>z.elim id λz=>z.elim⟩,λ_ _ z=>z,r1.im se1.mu,rfl,λ_ z=>z⟩ q
   ·cases h
  ·cases h
 ·cases h
end
end J
namespace J
open PySem PySem.Spec L2
section
variable {X:Cx} {Γ:gH} {c:Cz}
end
end J
namespace J
open PySem PySem.Spec L2
noncomputable abbrev jq:Pr:=λ_=>False
noncomputable def JW(i:Nat)(ρ:Ro):Ro:=match ρ[i]? with
 |some (some ⟨false,.own _ _,.nd hd ds⟩)=>if hd.mu=true then ρ.set i (some ⟨false,.own [] .fz,.nd hd ds⟩) else ρ
 |_=>ρ
inductive BP where
 |nm (i:Nat)
 |ix (b:BP) (e:IE)
 |fld (b:BP) (f:Str)
noncomputable def BP.slot:BP->Nat
 |.nm i=>i
 |.ix b _=>b.slot
 |.fld b _=>b.slot
noncomputable def lr(Γ:Nat->Option Fn):BP->Ro->Option (Ow×D×(D->D))
 |.nm i,ρ=>fQ ρ[i]?
 |.ix b e,ρ=>vQ (lr Γ b ρ) (aa Γ e ρ)
 |.fld b f,ρ=>none
mutual
inductive ME where
 |p (e:IE)
 |mv (i:Nat)
 |fz (i:Nat)
 |io (f:Nat) (as:MAs)
 |fn (f:Nat) (as:iL)
 |blt (x:Str) (as:iL)
 |tup (k:Ow) (as:iL)
 |lst (k:Ow) (as:iL)
 |bin (op:Operator) (as:iL)
 |cmp (op:CmpOp) (as:iL)
 |ix (as:iL)
 |slh (as:iL)
 |ifx (t:MT) (a b:ME)
 |comp (r:Ow) (cap:List (Option Nat)) (tg:IT) (it:MI) (ts:MO) (elt:ME)
 |mut (m:Str) (b:BP) (as:fN)
 |mutM (m:Str) (i:Nat) (a:ME)
 |mutMs (m:Str) (i:Nat) (as:iL)
 |sdf (i:Nat) (k b:IE)
inductive MI where
 |p (it:II)
 |e (a:ME)
 |enm (a:ME)
 |rng (a:ME)
inductive MAs where
 |nil
 |ref (i:Nat) (r:MAs)
 |val (a:ME) (r:MAs)
inductive iL where
 |fin (a:ME) (r:fN)
 |cons (a:ME) (r:iL)
inductive MT where
 |p (e:IE)
 |cmp (op:CmpOp) (as:iL)
 |not (t:MT)
 |bool (op:BoolOp) (ts:Dj)
 |tru (a:ME)
 |vw (is:List Nat) (e:IE)
inductive Dj where
 |one (t:MT)
 |cons (t:MT) (r:Dj)
inductive MO where
 |non
 |som (t:MT)
end
noncomputable def oS(f:List KD->Option KD)(a:Option (List KD×Ro)):MR:=match a with
 |some (kds,ρ)=>(match f kds with|some (kd,d)=>some (kd,d,ρ)|none=>none)
 |none=>none
noncomputable def z7(op:CmpOp)(a:Option (List KD×Ro)):Option (Bool×Ro):=match a with
 |some ([x,y],ρ)=>(match bf op x.2 y.2 with|some b=>some (b,ρ)|none=>none)
 |_=>none
noncomputable def Gs(a:Option KD)(ρ:Ro):MR:=match a with|some (kd,d)=>some (kd,d,ρ)|none=>none
noncomputable def HS(a:Option Bool)(ρ:Ro):Option (Bool×Ro):=match a with|some b=>some (b,ρ)|none=>none
noncomputable def vR(op:BoolOp)(a:Option (Bool×Ro))(r:Ro->Option (Bool×Ro)):Option (Bool×Ro):=match a with
 |some (x,ρ)=>if(op==.And)=x then r ρ else some (x,ρ)
 |none=>none
structure GG where
 fn:Nat->Option Fn
 fm:Nat->Option Fm
mutual
noncomputable def aF(Γ:GG):ME->Ro->MR
 |.p e,ρ=>Gs (aa Γ.fn e ρ) ρ
 |.mv i,ρ=>sS i ρ
 |.fz i,ρ=>sT i ρ
 |.io f as,ρ=>BL (Γ.fm f) (cW Γ as ρ)
 |.fn f as,ρ=>none
 |.blt x as,ρ=>oS (dQ x) (aX Γ as ρ)
 |.tup k as,ρ=>oS (λkds=>gK k (some kds)) (aX Γ as ρ)
 |.lst k as,ρ=>oS (λkds=>gJ k (some kds)) (aX Γ as ρ)
 |.bin op as,ρ=>oS (f2 (eR op)) (aX Γ as ρ)
 |.cmp op as,ρ=>none
 |.ix as,ρ=>oS (f2 Gr) (aX Γ as ρ)
 |.slh as,ρ=>oS (f2 pN) (aX Γ as ρ)
 |.ifx t a b,ρ=>none
 |.comp r cap tg it ts elt,ρ=>gq r (bR Γ it ρ) (gh cap tg (mH Γ ts) (aF Γ elt)) cap
 |.mut m b as,ρ=>dF m b.slot (lr Γ.fn b ρ) (aG Γ.fn as ρ) ρ
 |.mutM m i a,ρ=>nY m i ρ[i]? (aF Γ a ρ)
 |.mutMs m i as,ρ=>none
 |.sdf i k b,ρ=>none
noncomputable def bR(Γ:GG):MI->Ro->IR
 |.p it,ρ=>BM (cV Γ.fn it ρ) ρ
 |.e a,ρ=>xH jc (aF Γ a ρ)
 |.enm a,ρ=>none
 |.rng a,ρ=>xH (gQ (some (.sh,.int 0))) (aF Γ a ρ)
noncomputable def cW(Γ:GG):MAs->Ro->Option (List RA×Ro)
 |.nil,ρ=>some ([],ρ)
 |.ref i r,ρ=>rc i ρ[i]? (cW Γ r ρ)
 |.val a r,ρ=>rh (aF Γ a ρ) (cW Γ r)
noncomputable def aX(Γ:GG):iL->Ro->Option (List KD×Ro)
 |.fin a r,ρ=>fP (aF Γ a ρ) (aG Γ.fn r)
 |.cons a r,ρ=>gf (aF Γ a ρ) (aX Γ r)
noncomputable def aU(Γ:GG):MT->Ro->Option (Bool×Ro)
 |.p e,ρ=>HS (av Γ.fn e ρ) ρ
 |.vw is e,ρ=>none
 |.cmp op as,ρ=>z7 op (aX Γ as ρ)
 |.not t,ρ=>none
 |.bool op ts,ρ=>g7 Γ op ts ρ
 |.tru a,ρ=>none
noncomputable def g7(Γ:GG)(op:BoolOp):Dj->Ro->Option (Bool×Ro)
 |.one t,ρ=>aU Γ t ρ
 |.cons t r,ρ=>vR op (aU Γ t ρ) (g7 Γ op r)
noncomputable def mH(Γ:GG):MO->Ro->Option (Bool×Ro)
 |.non,ρ=>some (true,ρ)
 |.som t,ρ=>aU Γ t ρ
end
section
theorem vS{Γ:GG}:aF Γ (.p e) ρ=Gs (aa Γ.fn e ρ) ρ:=rfl
theorem BZ:aF Γ (.mv i) ρ=sS i ρ:=rfl
theorem Ca:aF Γ (.fz i) ρ=sT i ρ:=rfl
theorem pO{Γ:GG}:aF Γ (.io f as) ρ=BL (Γ.fm f) (cW Γ as ρ):=rfl
theorem yX:aF Γ (.blt x as) ρ=oS (dQ x) (aX Γ as ρ):=rfl
theorem yY:aF Γ (.tup k as) ρ=oS (λkds=>gK k (some kds)) (aX Γ as ρ):=rfl
theorem yZ:aF Γ (.lst k as) ρ=oS (λkds=>gJ k (some kds)) (aX Γ as ρ):=rfl
theorem y9:aF Γ (.bin op as) ρ=oS (f2 (eR op)) (aX Γ as ρ):=rfl
theorem Cb:aF Γ (.ix as) ρ=oS (f2 Gr) (aX Γ as ρ):=rfl
theorem za:aF Γ (.slh as) ρ=oS (f2 pN) (aX Γ as ρ):=rfl
theorem nZ:aF Γ (.comp r cap tg it ts elt) ρ=gq r (bR Γ it ρ) (gh cap tg (mH Γ ts) (aF Γ elt)) cap:=rfl
theorem fD{Γ:GG}:aF Γ (.mut m b as) ρ=dF m b.slot (lr Γ.fn b ρ) (aG Γ.fn as ρ) ρ:=rfl
theorem vT:aF Γ (.mutM m i a) ρ=nY m i ρ[i]? (aF Γ a ρ):=rfl
end
theorem eD{f:Ro->MR}(h:∀ρ,f ρ=none):a8 X f e:=λρ kd d ρ' hh=>by rw[h] at hh;cases hh
theorem n0{f:Ro->Option (Bool×Ro)}(h:∀ρ,f ρ=none):eX X f e:=λρ kd d hh=>by rw[h] at hh;cases hh
theorem rz{f:Ro->IR}(h:∀ρ,f ρ=none):gX X f tg e:=λρ bs ds ρ' hh=>by rw[h] at hh;cases hh
noncomputable def lu(f:Expr->Option ME)(g:Expr->Option IE):List Expr->Option iL
 |[]=>none
 |e::es=>if ad e then(match dB g es with
  |some r=>(f e).map λa=>.fin a r
  |none=>(match f e,lu f g es with|some a,some r=>some (.cons a r)|_,_=>none)) else none
noncomputable def z8(c:Cz)(f:Expr->Option ME):List Bool->List Expr->Option MAs
 |_,[]=>some .nil
 |true::fl,.Name x _::es=>(match d9 c x,z8 c f fl es with|some i,some r=>some (.ref i r)|_,_=>none)
 |fl,e::es=>if ad e then(match f e,z8 c f fl.tail es with|some a,some r=>some (.val a r)|_,_=>none) else none
noncomputable def vU(c:Cz)(f:Expr->Option ME)(it:Option II)(tg iter:Expr):Option MI:=match it with
 |some it=>some (.p it)
 |none=>match iter with
  |.Call (.Name x _) [a] [] _=>
   if x="range" then(if d8 c.sc "range" && ad a then(f a).map .rng else none)
   else if x="enumerate" then(if d8 c.sc "enumerate" && ad a&&jQ tg then(f a).map .enm else none)
   else(f iter).map .e
  |_=>(f iter).map .e
noncomputable def Dl(f:Expr->Option MT):List Expr->Option Dj
 |[]=>none
 |[e]=>(f e).map .one
 |e::es=>match f e,Dl f es with|some a,some r=>some (.cons a r)|_,_=>none
noncomputable def z9(c:Cz)(f:Expr->Option IE):Nat->Expr->Option BP
 |0,_=>none
 |n+1,e=>match e with
  |.Name x _=>(d9 c x).map .nm
  |.Subscript a b _=>if cQ b then(match z9 c f n a,f b with|some p,some e=>some (.ix p e)|_,_=>none) else none
  |_=>none
noncomputable def EU(m:Str)(b:Expr)(ap cp:Pos):Bool:=mNames.contains m&&fL b&&(ap.endLine==cp.line)
noncomputable def HU(fns:Nms)(c:Cz)(x:Str)(p:Pos):Option ME:=match fns.md p.line p.col with
 |none=>none
 |some true=>(d9 c x).map .mv
 |some false=>(d9 c x).map .fz
noncomputable def HV(fns:Nms)(c:Cz)(fM:Expr->Option ME)(fE:Expr->Option IE)(x:Str)(as:List Expr):Option ME:=match as with
 |[]=>none
 |a::es=>if d8 c.sc x&&(a::es).all ad then(match bu x fns.fns with
  |some i=>(match fns.io i with
   |some fl=>(z8 c fM fl (a::es)).map (.io i)
   |none=>(lu fM fE (a::es)).map (.fn i))
  |none=>(lu fM fE (a::es)).map (.blt x)) else none
noncomputable def Cc(c:Cz)(fE:Expr->Option IE)(b:Expr)(m:Str)(ap cp:Pos)(e e2:Expr):Option ME:=if m="setdefault" then(match b with
 |.Name x p=>if fL (.Name x p)=true/\ad e=true/\ad e2=true/\(ap.endLine==cp.line)=true then(match d9 c x,fE e,fE e2 with|some i,some k,some d=>some (.sdf i k d)|_,_,_=>none) else none
 |_=>none) else none
noncomputable def EV(c:Cz)(fM:Expr->Option ME)(fE:Expr->Option IE)(b:Expr)(m:Str)(ap cp:Pos)(as:List Expr):Option ME:=match as with
 |[]=>if EU m b ap cp then(z9 c fE 6 b).map λp=>.mut m p .nil else none
 |e::es=>match es with
  |e2::es2=>(match es2 with
   |_::_=>none
   |[]=>match Cc c fE b m ap cp e e2 with
    |some r=>some r
    |none=>if EU m b ap cp&&(ad e&&ad e2) then(match fE e with
    |some a1=>(match fE e2 with|some a2=>(z9 c fE 6 b).map λp=>.mut m p (.cons a1 (.cons a2 .nil))|none=>none)
    |none=>(match b with|.Name x _=>(match d9 c x,lu fM fE [e,e2] with|some i,some as=>some (.mutMs m i as)|_,_=>none)|_=>none)) else none)
  |[]=>if EU m b ap cp&&ad e then(match fE e with
   |some e'=>(z9 c fE 6 b).map λp=>.mut m p (.cons e' .nil)
   |none=>(match b with|.Name x _=>(match d9 c x,fM e with|some i,some a=>some (.mutM m i a)|_,_=>none)|_=>none)) else none
noncomputable def HW(fns:Nms)(c:Cz)(fM:Expr->Option ME)(fE:Expr->Option IE)(g:Expr)(as:List Expr)(ks:List Keyword)(cp:Pos):Option ME:=match ks with
 |_::_=>none
 |[]=>match g with
  |.Name x _=>HV fns c fM fE x as
  |.Attribute b m ap=>EV c fM fE b m ap cp as
  |_=>none
noncomputable def sV{α:Type}(k:CmpOp->iL->α)(fM:Expr->Option ME)(fE:Expr->Option IE)(a:Expr)(ops:List CmpOp)(bs:List Expr):Option α:=match ops with
 |[]=>none
 |op::ops=>match ops with
  |_::_=>none
  |[]=>match bs with
   |[]=>none
   |b::bs=>match bs with
    |_::_=>none
    |[]=>if behindInMarks op b then none else(lu fM fE [a,b]).map (k op)
noncomputable def jr(f:Expr->Option MT):List Expr->Option MO
 |[]=>some .non
 |[e]=>(f e).map .som
 |_=>none
noncomputable def sW(fns:Nms)(c:Cz)(fM:Cz->Expr->Option ME)(fE:Cz->Expr->Option IE)(fT:Cz->Expr->Option MT)(elt:Expr)(gs:List Comprehension)(scope:Scope)(p:Pos):Option ME:=match gs with
 |[]=>none
 |g::gs=>match gs with
  |_::_=>none
  |[]=>if g.is_async=0 then(if eA g.iter&&bx c scope then(match oV ⟨f9 scope c.sc,ag scope,gI scope⟩ 4 g.target,vU c (fM c) (BA c (fE c) g.target g.iter) g.target g.iter,jr (fT ⟨f9 scope c.sc,ag scope,gI scope⟩) g.ifs,fM ⟨f9 scope c.sc,ag scope,gI scope⟩ elt with
    |some t,some it,some ts,some el=>some (.comp ((fns.an p.line p.col).getD .fz) (aA c scope) t it ts el)|_,_,_,_=>none) else none) else none
noncomputable def Cd:Expr->Option Expr
 |.Slice none (some hi) none _=>some hi
 |_=>none
theorem zb(h:Cd b=some hi):∃p,b=.Slice none (some hi) none p:=by
 unfold Cd at h;split at h
 ·cases h;exact⟨_,rfl⟩
 ·cases h
mutual
noncomputable def cM(fns:Nms):Nat->Cz->Expr->Option ME
 |0,_,_=>none
 |n+1,c,e=>match cE fns n c e with
  |some ie=>some (.p ie)
  |none=>match e with
   |.Name x p=>HU fns c x p
   |.Call g as ks cp=>HW fns c (cM fns n c) (cE fns n c) g as ks cp
   |.Tuple es _ p=>(lu (cM fns n c) (cE fns n c) es).map (.tup (fns.kT p))
   |.List es p=>(lu (cM fns n c) (cE fns n c) es).map (.lst (fns.kL p))
   |.BinOp a op b _=>(lu (cM fns n c) (cE fns n c) [a,b]).map (.bin op)
   |.Compare a ops bs _=>sV ME.cmp (cM fns n c) (cE fns n c) a ops bs
   |.Subscript a b _=>if cQ b then(lu (cM fns n c) (cE fns n c) [a,b]).map .ix else(match Cd b with|some hi=>(lu (cM fns n c) (cE fns n c) [a,hi]).map .slh|none=>none)
   |.IfExp t a b _=>match tN fns n c t,cM fns n c a,cM fns n c b with|some t,some a,some b=>some (.ifx t a b)|_,_,_=>none
   |.ListComp elt gs scope p=>sW fns c (cM fns n) (cE fns n) (tN fns n) elt gs scope p
   |_=>none
noncomputable def tN(fns:Nms):Nat->Cz->Expr->Option MT
 |0,_,_=>none
 |n+1,c,e=>match cT fns n c e with
  |some ie=>(match fns.vw e.pos.line e.pos.col with|[]=>some (.p ie)|i::is=>some (.vw (i::is) ie))
  |none=>match e with
   |.Compare a ops bs _=>sV MT.cmp (cM fns n c) (cE fns n c) a ops bs
   |.UnaryOp op a _=>(match op with|.Not=>(tN fns n c a).map .not|_=>none)
   |.BoolOp op es _=>(Dl (tN fns n c) es).map (.bool op)
   |.Call f as ks p=>(cM fns n c (.Call f as ks p)).map .tru
   |.Subscript a b p=>(cM fns n c (.Subscript a b p)).map .tru
   |.Name x p=>(cM fns n c (.Name x p)).map .tru
   |.Constant k j p=>(cM fns n c (.Constant k j p)).map .tru
   |_=>none
end
noncomputable def kP(fns:Nms)(Γ:GG):Str->Option (Km->Sp):=λx=>(bu x fns.fns).bind λi=>(Γ.fm i).map λφ=>λK=>z6 K φ
noncomputable abbrev dc(fns:Nms)(Γ:GG):gH:=bQ fns Γ.fn (kP fns Γ)
section
variable {X:Cx} {c:Cz} (fns:Nms) (Γ:GG)
theorem pP(O:al X (bQ fns Γ.fn fm) c){f:Expr->Option ME}{fe:Expr->Option IE}(hf:∀e a,f e=some a->a8 X (aF Γ a) e)(hE:∀e ie,fe e=some ie->SndE X (aa Γ.fn ie) e){tg iter:Expr}{it:MI}(h:vU c f (BA c fe tg iter) tg iter=some it):gX X (bR Γ it) tg iter:=by
 have pl:∀{it:MI},(f iter).map MI.e=some it->gX X (bR Γ it) tg iter:=λh=>by
  obtain⟨a,ha,rfl⟩:=aH h
  first|(refine rz λρ=>?_;rw[bR];done)|(rw[show bR Γ (.e a)=λρ=>xH jc (aF Γ a ρ) by funext ρ;rw[bR]];exact ER (hf _ _ ha))
 unfold vU at h;split at h
 ·rename_i it' hit;cases h
  first|(refine rz λρ=>?_;rw[bR];done)|(rw[show bR Γ (.p it')=λρ=>BM (cV Γ.fn it' ρ) ρ by funext ρ;rw[bR]];exact(vG fns Γ.fn O hE hit).m)
 ·split at h
  ·rename_i x p a pos _;split at h
   ·rename_i hx;subst hx;split at h
    ·rename_i hg;rw[Kn] at hg;obtain⟨a',ha,rfl⟩:=aH h
     first|(refine rz λρ=>?_;rw[bR];done)|(rw[show bR Γ (.rng a')=λρ=>xH (gQ (some (.sh,.int 0))) (aF Γ a' ρ) by funext ρ;rw[bR]];exact ES O hg.1 hg.2 (hf _ _ ha))
    ·cases h
   ·split at h
    ·rename_i hx;subst hx;split at h
     ·rename_i hg;rw[Kn,Kn] at hg;obtain⟨a',ha,rfl⟩:=aH h
      first|(refine rz λρ=>?_;rw[bR];done)|(rw[show bR Γ (.enm a')=λρ=>xH pF (aF Γ a' ρ) by funext ρ;rw[bR]];exact s_imEnm O hg.1.1 hg.1.2 hg.2 (hf _ _ ha))
     ·cases h
    ·exact pl h
  ·exact pl h
theorem dD(f:List KD->Option KD)(fa:Ro->Option (List KD×Ro)):(λρ=>oS f (fa ρ))=λρ=>(fa ρ).bind λp=>(f p.1).map λq=>(q.1,q.2,p.2):=by
 funext ρ;unfold oS
 cases fa ρ with
 |none=>rfl
 |some p=>
  obtain⟨kds,ρ'⟩:=p;dsimp only[Lr]
  cases f kds with
  |none=>rfl
  |some q=>rfl
theorem Ce(h:SndE X (aa Γ.fn ie) e):a8 X (aF Γ (.p ie)) e:=by
 have:=h.m
 rw[show(λρ=>(aa Γ.fn ie ρ).map λp=>(p.1,p.2,ρ))=aF Γ (.p ie) by funext ρ;rw[vS];unfold Gs;cases aa Γ.fn ie ρ<;>rfl] at this
 exact this
theorem lw{f:Expr->Option ME}{g:Expr->Option IE}(hf:∀e a,f e=some a->a8 X (aF Γ a) e)(hg:∀e a,g e=some a->SndE X (aa Γ.fn a) e):∀{es:List Expr} {as:iL},lu f g es=some as->nT X (aX Γ as) es
 |[],as,h=>by cases h
 |e::es,as,h=>by
  unfold lu at h;split at h
  ·rename_i hn;split at h
   ·rename_i r hr;obtain⟨a,ha,rfl⟩:=aH h
    rw[show aX Γ (.fin a r)=λρ=>fP (aF Γ a ρ) (aG Γ.fn r) by funext ρ;conv=>lhs;rw[aX]]
    exact BK hn (hf _ _ ha) (fC Γ.fn hg hr).1
   ·split at h
    ·rename_i a r ha hr;cases h
     rw[show aX Γ (.cons a r)=λρ=>gf (aF Γ a ρ) (aX Γ r) by funext ρ;conv=>lhs;rw[aX]]
     exact yP hn (hf _ _ ha) (lw hf hg hr)
    ·cases h
  ·cases h
theorem lx{f:Expr->Option ME}{g:Expr->Option IE}(hf:∀e a,f e=some a->a8 X (aF Γ a) e)(hg:∀e a,g e=some a->SndE X (aa Γ.fn a) e){a b:Expr}{as:iL}(h:lu f g [a,b]=some as):lq X (aX Γ as) a b:=by
 unfold lu at h;split at h
 ·rename_i hn;split at h
  ·rename_i r hr;obtain⟨a',ha,rfl⟩:=aH h;unfold dB dB at hr;split at hr
   ·split at hr
    ·rename_i b' r' hb' hr';cases hr;cases hr'
     rw[show aX Γ (.fin a' (.cons b' .nil))=λρ=>fP (aF Γ a' ρ) λρ=>eO (aa Γ.fn b' ρ) (some []) by
      funext ρ;simp only[aX,aG]
      try rfl]
     exact BQ (hf _ _ ha) (hg _ _ hb')
    ·cases hr
   ·cases hr
  ·split at h
   ·rename_i a' r ha hr;cases h;unfold lu at hr;split at hr
    ·split at hr
     ·rename_i r' hr';cases hr';obtain⟨b',hb,rfl⟩:=aH hr
      rw[show aX Γ (.cons a' (.fin b' .nil))=λρ=>gf (aF Γ a' ρ) λρ=>fP (aF Γ b' ρ) λ_=>some [] by
       funext ρ;simp only[aX,aG]
       try rfl]
      exact yU (hf _ _ ha) (hf _ _ hb)
     ·rename_i q;exact absurd q (by simp[dB])
    ·cases hr
   ·cases h
 ·cases h
theorem Cf(O:al X Γt c){f:Expr->Option ME}(hf:∀e a,f e=some a->a8 X (aF Γ a) e):∀{fl:List Bool} {es:List Expr} {as:MAs},z8 c f fl es=some as->iW X (cW Γ as) es
 |fl,[],as,h=>by
  have:as=.nil:=by
   unfold z8 at h;cases h;rfl
  subst this;rw[show cW Γ .nil=λρ=>some ([],ρ) by funext ρ;rw[cW]];exact EJ
 |fl,e::es,as,h=>by
  have val:∀{fl':List Bool} {as:MAs},(if ad e then(match f e,z8 c f fl' es with|some a,some r=>some (MAs.val a r)|_,_=>none) else none)=some as->iW X (cW Γ as) (e::es):=λh=>by
   split at h
   ·rename_i hn;split at h
    ·rename_i a r ha hr;cases h
     rw[show cW Γ (.val a r)=λρ=>rh (aF Γ a ρ) (cW Γ r) by funext ρ;conv=>lhs;rw[cW]]
     exact EL hn (hf _ _ ha) (Cf O hf hr)
    ·cases h
   ·cases h
  unfold z8 at h;split at h
  ·rename_i q;cases q
  ·rename_i fl' x p es' q;cases q;split at h
   ·rename_i i r hi hr;cases h
    rw[show cW Γ (.ref i r)=λρ=>rc i ρ[i]? (cW Γ r ρ) by funext ρ;conv=>lhs;rw[cW]]
    exact EK O hi (Cf O hf hr)
   ·cases h
  ·rename_i fl' e' es' q;cases q;exact val h
theorem bd(a:Evo g H g1 H1 (λ_=>False))(b:Evo g1 H1 g2 H2 F2):Evo g H g2 H2 F2:=by
 have t:=a.trans (F1:=λ_=>False) (g2:=g2) (H2:=H2) (F2:=F2) (by rw[aN λ_ z=>z];exact b);have e1:g2.minus (λ_=>False)=g2:=by funext c;exact bt λz=>z
 rw[e1] at t;exact t.drop λc z=>.inr z
theorem rA{f:Expr->Option MT}(hf:∀e t,f e=some t->eX X (aU Γ t) e)(op:BoolOp)(pos:Pos):∀{es:List Expr} {ts:Dj},Dl f es=some ts->∀ρ r ρ',g7 Γ op ts ρ=some (r,ρ')->∀g σ H Q,SE X.K g ρ σ H->(∀g' H',Evo g H g' H' (λ_=>False)->SE X.K g' ρ' σ H'->Q r H')->wW X (.BoolOp op es pos) σ H Q
 |[],ts,h,ρ,r,ρ',hr,g,σ,H,Q,se,q=>by cases h
 |[a],ts,h,ρ,r,ρ',hb,g,σ,H,Q,se,q=>by
  unfold Dl at h;obtain⟨t,ht,rfl⟩:=aH h;rw[g7] at hb;have h1:=hf a t ht ρ r ρ' hb g σ H Q se q
  cases op with
  |And=>exact eN (ql dN) h1
  |Or=>exact eN (tW dN) h1
 |a::b::es,ts,h,ρ,r,ρ',hb,g,σ,H,Q,se,q=>by
  unfold Dl at h
  ·split at h
   ·rename_i t ts' ha hr;cases h;rw[g7] at hb;unfold vR at hb;split at hb
    ·rename_i x ρ1 ea;split at hb
     ·rename_i hx;have rest:=rA hf op pos hr ρ1 r ρ' hb
      cases op with
      |And=>
       refine eN (lR dN nw) (hf a t ha ρ x ρ1 ea g σ H _ se λg1 H1 ev1 se1=>?_);have:x=true:=by rw[<- hx];rfl
       rw[if_pos this];exact rest g1 σ H1 Q se1 λg2 H2 ev2 se2=>q g2 H2 (bd ev1 ev2) se2
      |Or=>
       refine eN (qm dN nw) (hf a t ha ρ x ρ1 ea g σ H _ se λg1 H1 ev1 se1=>?_);have:x=false:=by rw[<- hx];rfl
       rw[if_neg (by rw[this];decide)];exact rest g1 σ H1 Q se1 λg2 H2 ev2 se2=>q g2 H2 (bd ev1 ev2) se2
     ·rename_i hx;cases hb
      cases op with
      |And=>
       refine eN (lR dN nw) (hf a t ha ρ r ρ' ea g σ H _ se λg1 H1 ev1 se1=>?_)
       have:r=false:=by cases r with|true=>exact absurd rfl hx|false=>rfl
       subst this;rw[if_neg (by decide)];exact q g1 H1 ev1 se1
      |Or=>
       refine eN (qm dN nw) (hf a t ha ρ r ρ' ea g σ H _ se λg1 H1 ev1 se1=>?_)
       have:r=true:=by cases r with|false=>exact absurd rfl hx|true=>rfl
       subst this;rw[if_pos rfl];exact q g1 H1 ev1 se1
    ·cases hb
   ·cases h
theorem sX(O:al X Γt c){f:Expr->Option IE}(hf:∀e a,f e=some a->SndE X (aa Γ.fn a) e):∀(n:Nat) {e:Expr} {b:BP},z9 c f n e=some b->nX X b.slot (lr Γ.fn b) e
 |0,e,b,h=>by cases h
 |n+1,e,b,h=>by
  unfold z9 at h;split at h
  ·rename_i x p;obtain⟨i,hi,rfl⟩:=aH h;exact BT O hi p
  ·rename_i a b' p;split at h
   ·rename_i hp;split at h
    ·rename_i q e' hq he;cases h;exact BU O (sX O hf n hq) (hf _ _ he) hp
    ·cases h
   ·cases h
  ·cases h
theorem pQ{m:Str}{ap cp:Pos}(h:EU m b ap cp=true):m∈mNames/\fL b=true/\(ap.endLine==cp.line)=true:=by
 simp only[EU,Kn] at h;exact⟨by simpa using h.1.1,h.1.2,h.2⟩
theorem HX{x:Str}(O:al X (dc fns Γ) c)(h:HU fns c x p=some a):a8 X (aF Γ a) (.Name x p):=by
 unfold HU at h;split at h
 ·cases h
 ·obtain⟨i,hi,rfl⟩:=aH h
  first|(exact eD λ_=>rfl)|(rw[show aF Γ (.mv i)=sS i from funext λ_=>rfl];exact EO O hi p)
 ·obtain⟨i,hi,rfl⟩:=aH h
  first|(exact eD λ_=>rfl)|(rw[show aF Γ (.fz i)=sT i from funext λ_=>rfl];exact EQ O hi p)
theorem EW(O:al X (dc fns Γ) c){fM:Expr->Option ME}(hM:∀e a,fM e=some a->a8 X (aF Γ a) e){x:Str}{p pos:Pos}{a':Expr}{es:List Expr}{fl:List Bool}{i:Nat}{a:ME}(h:(z8 c fM fl (a'::es)).map (.io i)=some a)(h1:d8 c.sc x=true)(h2:ad a'=true)(h3:es.all ad=true)(hi:bu x fns.fns=some i):a8 X (aF Γ a) (.Call (.Name x p) (a'::es) [] pos):=by
 obtain⟨as,ha,rfl⟩:=aH h
 first
  |(exact eD λ_=>rfl)
  |(cases hφ:Γ.fm i with
   |none=>
    intro ρ kd d ρ' hh;rw[pO,hφ] at hh;cases hh
   |some φ=>
    rw[show aF Γ (.io i as)=λρ=>BL (some φ) (cW Γ as ρ) by funext ρ;rw[pO,hφ]];refine HR O (φ:=φ) ?_ h1 h2 h3 (Cf Γ O hM ha);show kP fns Γ x=_;unfold kP;rw[hi,Lr,hφ];rfl)
theorem HY(O:al X (dc fns Γ) c){fM:Expr->Option ME}{fE:Expr->Option IE}(hM:∀e a,fM e=some a->a8 X (aF Γ a) e)(hE:∀e ie,fE e=some ie->SndE X (aa Γ.fn ie) e){x:Str}{p:Pos}{as:List Expr}{pos:Pos}{a:ME}(h:HV fns c fM fE x as=some a):a8 X (aF Γ a) (.Call (.Name x p) as [] pos):=by
 cases as with
 |nil=>cases h
 |cons a' es=>
  dsimp only[HV] at h;split at h
  ·rename_i hg;rw[Kn,LA,Kn] at hg;split at h
   ·rename_i i hi;split at h
    ·rename_i fl hfl;exact EW fns Γ O hM h hg.1 hg.2.1 hg.2.2 hi
    ·obtain⟨as,ha,rfl⟩:=aH h
     first
     |(exact eD λ_=>rfl)
     |cases hφ:Γ.fn i with
      |none=>
       intro ρ kd d ρ' hh;rw[evM_fn,hφ] at hh;cases hh
      |some φ=>
       rw[show aF Γ (.fn i as)=λρ=>oS (By φ) (aX Γ as ρ) by funext ρ;rw[evM_fn,hφ],dD];refine(n_fn O (φ:=φ) ?_ hg.1 hg.2.1 hg.2.2).m (lw Γ hM hE ha);show(bu x fns.fns).bind Γ.fn=_;rw[hi];exact hφ
   ·obtain⟨as,ha,rfl⟩:=aH h
    first|(exact eD λ_=>rfl)|(rw[show aF Γ (.blt x as)=λρ=>oS (dQ x) (aX Γ as ρ) by exact funext λ_=>rfl,dD];exact(nL O x a' es p pos (bC O hg.1) hg.2.1 hg.2.2).m (lw Γ hM hE ha))
  ·cases h
theorem Cg(O:al X (dc fns Γ) c){fE:Expr->Option IE}(hE:∀e ie,fE e=some ie->SndE X (aa Γ.fn ie) e){b e e2:Expr}{m:Str}{ap cp:Pos}{a:ME}(h:Cc c fE b m ap cp e e2=some a):a8 X (aF Γ a) (.Call (.Attribute b m ap) [e,e2] [] cp):=by
 unfold Cc at h;split at h
 ·rename_i hm;subst hm;split at h
  ·split at h
   ·rename_i hh;split at h
    ·rename_i i k d h1 h2 h3;cases h
     first|(exact eD λ_=>rfl)|(rw[show aF Γ (.sdf i k d)=λρ=>oSdf i (aa Γ.fn k ρ) (aa Γ.fn d ρ) ρ from funext λ_=>rfl];exact s_sdf O h1 hh.1 hh.2.1 hh.2.2.1 hh.2.2.2 (hE _ _ h2) (hE _ _ h3))
    ·cases h
   ·cases h
  ·cases h
 ·cases h
theorem HZ(O:al X (dc fns Γ) c){fM:Expr->Option ME}{fE:Expr->Option IE}(hM:∀e a,fM e=some a->a8 X (aF Γ a) e)(hE:∀e ie,fE e=some ie->SndE X (aa Γ.fn ie) e){b:Expr}{m:Str}{ap cp:Pos}{as:List Expr}{a:ME}(h:EV c fM fE b m ap cp as=some a):a8 X (aF Γ a) (.Call (.Attribute b m ap) as [] cp):=by
 cases as with
 |nil=>
  dsimp only[EV] at h;split at h
  ·rename_i hk;obtain⟨h1,h2,h3⟩:=pQ hk;obtain⟨p,hp,rfl⟩:=aH h
   first|(exact eD λ_=>rfl)|(rw[show ∀m,aF Γ (.mut m p .nil)=λρ=>dF m p.slot (lr Γ.fn p ρ) (some []) ρ by intro m;funext ρ;rw[fD,aG]];exact BV h1 (sX Γ O hE _ hp) h2 h3)
  ·cases h
 |cons e es=>cases es with
  |cons e2 es2=>cases es2 with
   |cons _ _=>cases h
   |nil=>
    dsimp only[EV] at h;split at h
    ·rename_i r hr;cases h;exact Cg fns Γ O hE hr
    split at h
    ·rename_i hk;rw[Kn,Kn] at hk;obtain⟨h1,h2,h3⟩:=pQ hk.1;split at h
     ·rename_i a1 he1;split at h
      ·rename_i a2 he2;obtain⟨p,hp,rfl⟩:=aH h
       first|(exact eD λ_=>rfl)|(rw[show ∀m,aF Γ (.mut m p (.cons a1 (.cons a2 .nil)))=λρ=>dF m p.slot (lr Γ.fn p ρ) (eO (aa Γ.fn a1 ρ) (eO (aa Γ.fn a2 ρ) (some []))) ρ by intro m;funext ρ;rw[fD,aG,aG,aG]];exact BW h1 (sX Γ O hE _ hp) (me hk.2.1 (hE _ _ he1) (me hk.2.2 (hE _ _ he2) qI)) h2 hk.2.1 hk.2.2 h3)
      ·cases h
     ·split at h
      ·split at h
       ·rename_i i as hi ha;cases h
        first|(exact eD λ_=>rfl)|(rw[show ∀m,aF Γ (.mutMs m i as)=λρ=>oMutMs m i ρ[i]? (aX Γ as ρ) by intro m;exact funext λ_=>rfl];exact s_mutMs O h1 hi (lw Γ hM hE ha) h2 hk.2.1 hk.2.2 h3)
       ·cases h
      ·cases h
    ·cases h
  |nil=>
   dsimp only[EV] at h;split at h
   ·rename_i hk;rw[Kn] at hk;obtain⟨h1,h2,h3⟩:=pQ hk.1;split at h
    ·rename_i e' he;obtain⟨p,hp,rfl⟩:=aH h
     first|(exact eD λ_=>rfl)|(rw[show ∀m,aF Γ (.mut m p (.cons e' .nil))=λρ=>dF m p.slot (lr Γ.fn p ρ) (eO (aa Γ.fn e' ρ) (some [])) ρ by intro m;funext ρ;rw[fD,aG,aG]];exact BX h1 (sX Γ O hE _ hp) (hE _ _ he) h2 hk.2 h3)
    ·split at h
     ·split at h
      ·rename_i i a' hi ha;cases h
       first|(exact eD λ_=>rfl)|(rw[show ∀m,aF Γ (.mutM m i a')=λρ=>nY m i ρ[i]? (aF Γ a' ρ) by intro m;exact funext λ_=>rfl];exact BY O h1 hi (hM _ _ ha) h2 hk.2 h3)
      ·cases h
     ·cases h
   ·cases h
theorem H9(O:al X (dc fns Γ) c){fM:Expr->Option ME}{fE:Expr->Option IE}(hM:∀e a,fM e=some a->a8 X (aF Γ a) e)(hE:∀e ie,fE e=some ie->SndE X (aa Γ.fn ie) e){g:Expr}{as:List Expr}{ks:List Keyword}{pos:Pos}{a:ME}(h:HW fns c fM fE g as ks pos=some a):a8 X (aF Γ a) (.Call g as ks pos):=by
 cases ks with
 |cons _ _=>cases h
 |nil=>
  dsimp only[HW] at h;split at h
  ·exact HY fns Γ O hM hE h
  ·exact HZ fns Γ O hM hE h
  ·cases h
theorem rB{α:Type}{k:CmpOp->iL->α}{fM:Expr->Option ME}{fE:Expr->Option IE}{a:Expr}{ops:List CmpOp}{bs:List Expr}{r:α}(h:sV k fM fE a ops bs=some r):∃op b as,ops=[op]/\bs=[b]/\behindInMarks op b=false/\lu fM fE [a,b]=some as/\r=k op as:=by
 cases ops with
 |nil=>cases h
 |cons op ops=>cases ops with
  |cons _ _=>cases h
  |nil=>cases bs with
   |nil=>cases h
   |cons b bs=>cases bs with
    |cons _ _=>cases h
    |nil=>
     dsimp only[sV] at h;split at h
     ·cases h
     ·rename_i hm;obtain⟨as,ha,rfl⟩:=aH h;exact⟨op,b,as,rfl,rfl,by simpa using hm,ha,rfl⟩
theorem rC{fM:Cz->Expr->Option ME}{fE:Cz->Expr->Option IE}{fT:Cz->Expr->Option MT}{p:Pos}(h:sW fns c fM fE fT elt gs scope p=some a):∃tg iter ifs t it ts el,gs=[⟨tg,iter,ifs,0⟩]/\eA iter=true/\bx c scope=true/\oV ⟨f9 scope c.sc,ag scope,gI scope⟩ 4 tg=some t/\vU c (fM c) (BA c (fE c) tg iter) tg iter=some it/\jr (fT ⟨f9 scope c.sc,ag scope,gI scope⟩) ifs=some ts/\fM ⟨f9 scope c.sc,ag scope,gI scope⟩ elt=some el/\a=.comp ((fns.an p.line p.col).getD .fz) (aA c scope) t it ts el:=by
 cases gs with
 |nil=>cases h
 |cons g gs=>cases gs with
  |cons _ _=>cases h
  |nil=>
   dsimp only[sW] at h;split at h
   ·rename_i h0;split at h
    ·rename_i hn;rw[Kn] at hn;split at h
     ·rename_i t it ts el ht hit hts hel;cases h
      cases g with
      |mk tg iter ifs as=>
       subst h0;exact⟨tg,iter,ifs,t,it,ts,el,rfl,hn.1,hn.2,ht,hit,hts,hel,rfl⟩
     ·cases h
    ·cases h
   ·cases h
theorem Ch(O:al X Γt c){op:CmpOp}{as:iL}{x b:Expr}{p:Pos}(hm:behindInMarks op b=false)(h:lq X (aX Γ as) x b):eX X (aU Γ (.cmp op as)) (.Compare x [op] [b] p):=by
  first
    |(refine n0 λρ=>?_;rw[aU];done)
    | (have:=BR (pos:=p) O hm h
       have e:aU Γ (.cmp op as)=λρ=>((aX Γ as ρ).bind λp=>(match p.1 with|[x,y]=>(bf op x.2 y.2).map λb=>(b,p.2)|_=>none)):=by
         funext ρ;rw[aU];unfold z7
         cases aX Γ as ρ with
         |none=>rfl
         |some p=>
           obtain⟨kds,ρ'⟩:=p;dsimp only[Lr]
           match kds with
           |[]=>rfl
           |[_]=>rfl
           |[x,y]=>dsimp only;cases bf op x.2 y.2<;>rfl
           |_::_::_::_=>rfl
       rw[e];exact this)
theorem fV{f:Expr->Option ME}(hM:∀e a,f e=some a->a8 X (aF Γ a) e){e:Expr}{t:MT}(h:(f e).map MT.tru=some t)(hp:∀whole,isTrue e X.env whole=(do let v <- whole;standAt e.pos;holding [v] (truthy v))):eX X (aU Γ t) e:=by
 obtain⟨a',ha,rfl⟩:=aH h
 first|(refine n0 λρ=>?_;rw[aU];done)|(rw[show aU Γ (.tru a')=λρ=>oTTru (aF Γ a' ρ) by funext ρ;conv=>lhs;rw[aU]];exact t_truM (hM _ _ ha) hp)
theorem n4{f:Expr->Option MT}(hf:∀e t,f e=some t->eX X (aU Γ t) e){o:List Expr}{io:MO}(h:jr f o=some io):j3 X (mH Γ io) o:=by
 unfold jr at h;split at h
 ·cases h;have e:mH Γ .non=λρ=>some (true,ρ):=by funext ρ;rw[mH]
  rw[e];exact BN
 ·obtain⟨a,ha,rfl⟩:=aH h;have e:mH Γ (.som a)=aU Γ a:=by funext ρ;rw[mH]
  rw[e];exact BO (hf _ _ ha)
 ·cases h
theorem g8:∀n:Nat,(∀X c,al X (dc fns Γ) c->∀e a,cM fns n c e=some a->a8 X (aF Γ a) e)/\(∀X c,al X (dc fns Γ) c->∀e t,tN fns n c e=some t->eX X (aU Γ t) e)
 |0=>⟨λX c O e a h=>by (cases(show(none:Option ME)=some a from h)),λX c O e a h=>by (cases(show(none:Option MT)=some a from h))⟩
 |n+1=>by
  obtain⟨ihM,ihT⟩:=g8 n;have pure:=dU (fm:=kP fns Γ) fns Γ.fn n;refine⟨λX c O e a h=>?_,λX c O e a h=>?_⟩
  ·have hE:=pure.1 X c O;have hM:=ihM X c O;have hT:=ihT X c O
   replace h:(match cE fns n c e with|some ie=>some (ME.p ie)|none=>_)=some a:=h
   split at h
   ·rename_i ie hi;cases h;exact Ce Γ (hE _ _ hi)
   ·cases e with
    |Name x p=>exact HX fns Γ O h
    |Call g as ks pos=>exact H9 fns Γ O hM hE h
    |Tuple es k p=>
     obtain⟨as,ha,rfl⟩:=aH (show(lu (cM fns n c) (cE fns n c) es).map (.tup (fns.kT p))=some a from h)
     first|(exact eD λ_=>rfl)|(rw[show ∀k,aF Γ (.tup k as)=λρ=>oS (λkds=>gK k (some kds)) (aX Γ as ρ) by intro k;exact funext λ_=>rfl,dD];exact n_tup.m (lw Γ hM hE ha))
    |List es p=>
     obtain⟨as,ha,rfl⟩:=aH (show(lu (cM fns n c) (cE fns n c) es).map (.lst (fns.kL p))=some a from h)
     first|(exact eD λ_=>rfl)|(rw[show ∀k,aF Γ (.lst k as)=λρ=>oS (λkds=>gJ k (some kds)) (aX Γ as ρ) by intro k;exact funext λ_=>rfl,dD];exact n_lst.m (lw Γ hM hE ha))
    |BinOp x op y p=>
     obtain⟨as,ha,rfl⟩:=aH (show(lu (cM fns n c) (cE fns n c) [x,y]).map (.bin op)=some a from h)
     first|(exact eD λ_=>rfl)|(rw[show ∀op,aF Γ (.bin op as)=λρ=>oS (f2 (eR op)) (aX Γ as ρ) by intro k;exact funext λ_=>rfl,dD];exact n_bin.m (lx Γ hM hE ha))
    |Compare x ops bs p=>
     obtain⟨op,b,as,rfl,rfl,hm,ha,rfl⟩:=rB (show sV ME.cmp (cM fns n c) (cE fns n c) x ops bs=some a from h)
     first|(exact eD λ_=>rfl)|(rw[show ∀op,aF Γ (.cmp op as)=λρ=>oS (f2 λx y=>bV (bf op x.2 y.2)) (aX Γ as ρ) by intro k;exact funext λ_=>rfl,dD];exact(n_cmp O hm).m (lx Γ hM hE ha))
    |Subscript x b p=>
     dsimp only at h;split at h
     ·rename_i hp;obtain⟨as,ha,rfl⟩:=aH h
      first|(exact eD λ_=>rfl)|(rw[show aF Γ (.ix as)=λρ=>oS (f2 Gr) (aX Γ as ρ) by exact funext λ_=>rfl,dD];exact(HQ O hp).m (lx Γ hM hE ha))
     ·split at h
      ·rename_i hi hhi;obtain⟨p2,rfl⟩:=zb hhi;obtain⟨as,ha,rfl⟩:=aH h
       first|(exact eD λ_=>rfl)|(rw[show aF Γ (.slh as)=λρ=>oS (f2 pN) (aX Γ as ρ) by exact funext λ_=>rfl,dD];exact n_slh.m (lx Γ hM hE ha))
      ·cases h
    |IfExp t x b p=>
     dsimp only at h;split at h
     ·rename_i t' a' b' ht ha hb;cases h
      first|(exact eD λ_=>rfl)|(rw[show aF Γ (.ifx t' a' b')=λρ=>oIfM (aU Γ t' ρ) (aF Γ a') (aF Γ b') by exact funext λ_=>rfl];exact s_ifM (hT _ _ ht) (hM _ _ ha) (hM _ _ hb))
     ·cases h
    |ListComp elt gs scope p=>
     obtain⟨tg,iter,ifs,t,it,ts,el,rfl,hn1,hn2,ht,hit,hts,hel,rfl⟩:=rC fns (show sW fns c (cM fns n) (cE fns n) (tN fns n) elt gs scope p=some a from h);have CO:=fy O hn2
     first|(exact eD λ_=>rfl)|(rw[show ∀r cap,aF Γ (.comp r cap t it ts el)=λρ=>gq r (bR Γ it ρ) (gh cap t (mH Γ ts) (aF Γ el)) cap by intro r cap;exact funext λ_=>rfl];exact yT O hn2 hn1 (pP fns Γ O hM hE hit) ht (λC s H ex=>n4 Γ (ihT _ _ (CO C s H ex)) hts) (λC s H ex=>ihM _ _ (CO C s H ex) _ _ hel))
    |_=>cases h
  ·have hE:=pure.1 X c O;have hM:=ihM X c O;have hT:=ihT X c O
   replace h:(match cT fns n c e with|some ie=>(match fns.vw e.pos.line e.pos.col with|[]=>some (MT.p ie)|i::is=>some (MT.vw (i::is) ie))|none=>_)=some a:=h
   split at h
   ·rename_i ie hi;split at h
    ·cases h;have:=(pure.2 X c O _ _ hi).m
     rw[show(λρ=>(av Γ.fn ie ρ).map λp=>(p,ρ))=aU Γ (.p ie) by funext ρ;rw[aU];unfold HS;cases av Γ.fn ie ρ<;>rfl] at this
     exact this
    ·rename_i i is _;cases h
     first|(refine n0 λρ=>?_;rw[aU];done)|(rw[show aU Γ (.vw (i::is) ie)=λρ=>HS (av Γ.fn ie (frzN (i::is) ρ)) ρ by funext ρ;rw[aU]];exact t_vw (pure.2 X c O _ _ hi))
   ·cases e with
    |Compare x ops bs p=>
     obtain⟨op,b,as,rfl,rfl,hm,ha,rfl⟩:=rB (show sV MT.cmp (cM fns n c) (cE fns n c) x ops bs=some a from h);exact Ch Γ O hm (lx Γ hM hE ha)
    |UnaryOp op x p=>cases op with
     |Not=>
      obtain⟨t,ht,rfl⟩:=aH (show(tN fns n c x).map .not=some a from h)
      first|(refine n0 λρ=>?_;rw[aU];done)|(rw[show aU Γ (.not t)=λρ=>match aU Γ t ρ with|some (b,ρ')=>some (!b,ρ')|none=>none by funext ρ;conv=>lhs;rw[aU]];exact t_notM (hT _ _ ht))
     |_=>cases h
    |BoolOp op es p=>
     obtain⟨ts,ht,rfl⟩:=aH (show(Dl (tN fns n c) es).map (.bool op)=some a from h)
     first|(refine n0 λρ=>?_;rw[aU];done)|(rw[show ∀op,aU Γ (.bool op ts)=g7 Γ op ts by intro op;funext ρ;conv=>lhs;rw[aU]];exact λρ b ρ' h g σ H Q se q=>λpins s I=>rA Γ hT _ _ ht ρ b ρ' h g σ H Q se q _ pins s I)
    |Call f as ks p=>exact fV Γ hM (show(cM fns n c (.Call f as ks p)).map .tru=some a from h) (λ_=>rfl)
    |Subscript x b p=>exact fV Γ hM (show(cM fns n c (.Subscript x b p)).map .tru=some a from h) (λ_=>rfl)
    |Name x p=>exact fV Γ hM (show(cM fns n c (.Name x p)).map .tru=some a from h) (λ_=>rfl)
    |Constant k j p=>exact fV Γ hM (show(cM fns n c (.Constant k j p)).map .tru=some a from h) (λ_=>rfl)
    |_=>cases h
end
end J
namespace J
open PySem PySem.Spec L2
inductive Res where
 |nx (ρ:Ro)|rt (kd:Kd) (d:D) (ρ:Ro)|ct (ρ:Ro)|bk (ρ:Ro)
noncomputable def PinOk(pn:List Nat)(σ σ':L2.St):Prop:=∀i∈pn,σ'[i]?=σ[i]?
noncomputable def EndM(K:Km)(pn:List Nat)(g:Gh)(H:Hp)(σ:L2.St)(Dn:i4):Res->Prop
 |.nx ρ'=>∀σ' g' H',Evo g H g' H' jq->SE K g' ρ' σ' H'->PinOk pn σ σ'->Dn.nx σ' H'
 |.rt kd d ρ'=>∀v σ' g' H' F,Evo g H g' H' F->SE K (g'.plus F) ρ' σ' H'->PinOk pn σ σ'->VR1 K H' g' F kd d v F->Dn.rt v H'
 |.ct ρ'=>∀σ' g' H',Evo g H g' H' jq->SE K g' ρ' σ' H'->PinOk pn σ σ'->Dn.ct σ' H'
 |.bk ρ'=>∀σ' g' H',Evo g H g' H' jq->SE K g' ρ' σ' H'->PinOk pn σ σ'->Dn.bk σ' H'
noncomputable def EX(X:Cx)(st:List Stmt):TS:=λDn σ H=>∀pins s,Inv X pins σ H s->wpAny (model X.prog X.w) X.A (execs st X.env) (SP X pins Dn) X.xe s
noncomputable def Gu(X:Cx)(st:Stmt):TS:=λDn σ H=>∀pins s,Inv X pins σ H s->wpAny (model X.prog X.w) X.A (exec st X.env) (SP X pins Dn) X.xe s
theorem g9:PSs X st (EX X st):=λpins s σ H D I h=>h pins s I
theorem Ia:PS X st (Gu X st):=λpins s σ H D I h=>h pins s I
theorem cJ{t:TS}(p:PS X st t){Dn:i4}{σ:L2.St}{H:Hp}(h:t Dn σ H):Gu X st Dn σ H:=λpins s I=>p pins s σ H Dn I h
theorem vV{t:TS}(p:PSs X st t){Dn:i4}{σ:L2.St}{H:Hp}(h:t Dn σ H):EX X st Dn σ H:=λpins s I=>p pins s σ H Dn I h
noncomputable def dX(X:Cx)(pn:List Nat)(f:Ro->Option Res)(st:Stmt):Prop:=∀ρ r,f ρ=some r->∀g σ H Dn,SE X.K g ρ σ H->EndM X.K pn g H σ Dn r->Gu X st Dn σ H
noncomputable def jg(X:Cx)(pn:List Nat)(f:Ro->Option Res)(st:List Stmt):Prop:=∀ρ r,f ρ=some r->∀g σ H Dn,SE X.K g ρ σ H->EndM X.K pn g H σ Dn r->EX X st Dn σ H
section
variable {K:Km} {H H' H1:Hp} {g g' g1:Gh} {F F1 F2:Pr} {ρ:Ro} {σ σ' σ1:L2.St} {pn:List Nat}
theorem PinOk.refl:PinOk pn σ σ:=λ_ _=>rfl
theorem PinOk.trans(a:PinOk pn σ σ1)(b:PinOk pn σ1 σ2):PinOk pn σ σ2:=λi h=>(b i h).trans (a i h)
theorem PinOk.set{i:Nat}(h:i∉pn):PinOk pn σ (σ.set i v):=λj hj=>KJ λz=>h (by rw[z];exact hj)
theorem EndM.from(h:EndM K pn g H σ Dn r)(ev:Evo g H g1 H1 jq)(pk:PinOk pn σ σ1):EndM K pn g1 H1 σ1 Dn r:=by
 cases r with
 |nx ρ'=>exact λσ' g' H' e s p=>h σ' g' H' (bd ev e) s (pk.trans p)
 |rt kd d ρ'=>exact λv σ' g' H' F e s p r=>h v σ' g' H' F (bd ev e) s (pk.trans p) r
 |ct ρ'=>exact λσ' g' H' e s p=>h σ' g' H' (bd ev e) s (pk.trans p)
 |bk ρ'=>exact λσ' g' H' e s p=>h σ' g' H' (bd ev e) s (pk.trans p)
theorem EY{i:Nat}{S:Pr}(ev:Evo g H g1 H1 F)(se:SE K (g1.plus F) ρ σ H1)(hF:∀b,F b↔F1 b\/F2 b)(dj:∀b,F1 b->¬F2 b)(hS:∀b,Sx g1 F b->S b)(t:Tr K H1 S d k v F1) :
  Evo g H (g1.give F1 i) H1 F2/\SE K ((g1.give F1 i).plus F2) (ρ.set i (some ⟨false,k,d⟩)) (σ.set i (some v)) H1/\∀b,Sx (g1.give F1 i) F2 b↔Sx g1 F b:=by
 have n1:∀b,F1 b->g1 b=none:=λb z=>(ev.tmp b ((hF b).mpr (.inl z))).1
 have hs:∀b,Sx (g1.give F1 i) F2 b↔Sx g1 F b:=λb=>by
  unfold Sx;rw[hF b];constructor
  ·rintro (z|z)
   ·exact(give_S.mp z).imp id .inl
   ·exact .inr (.inr z)
  ·rintro (z|z|z)
   ·exact .inl (give_S.mpr (.inl z))
   ·exact .inl (give_S.mpr (.inr z))
   ·exact .inr z
 have hp:∀b,Sg ((g1.give F1 i).plus F2) b↔Sx g1 F b:=λb=>(ai b).trans (hs b);have sub:∀b,Sg ((g1.give F1 i).plus F2) b->Sg (g1.plus F) b:=λb z=>(ai b).mpr ((hp b).mp z);refine⟨⟨ev.keep,λb=>⟨λe=>?_,λe=>?_⟩,λb j e=>?_,λb z=>?_,ev.dom⟩,⟨λj sl e=>?_,λb z=>se.mu b (sub b z),by simp[se.len]⟩,hs⟩
 ·have:=(ev.out b).mp e;rw[br (λz=>by rw[n1 b z] at this;cases this)];exact this
 ·by_cases z:F1 b
  ·rw[g6 z] at e;cases e
  ·rw[br z] at e;exact(ev.out b).mpr e
 ·by_cases z:F1 b
  ·exact(ev.tmp b ((hF b).mpr (.inl z))).2
  ·rw[br z] at e;exact ev.new b j e
 ·have:=ev.tmp b ((hF b).mpr (.inr z));exact⟨by rw[br λz1=>dj b z1 z];exact this.1,this.2⟩
 ·by_cases hj:j=i
  ·subst hj
   have hlt:j<ρ.length:=by
    have:=(Ky.mp e).1;simpa using this
   rw[KM hlt] at e;cases e;refine⟨v,F1,KM (by rw[<- se.len];exact hlt),λb z=>bI (g6 z) (dj b z),t.go (λ_ _ _ e=>e) λb o _ n z=>n (hS b ((hp b).mp z))⟩
  ·rw[KJ (Ne.symm hj)] at e⊢;obtain⟨w,Fj,e1,e2,e3⟩:=se.slot j sl e;refine⟨w,Fj,e1,λb z=>?_,e3.go (λ_ _ _ e=>e) λb o _ n z=>n (sub b z)⟩;have q:=bw (e2 b z);have nF:¬F b:=λz2=>by rw[(ev.tmp b z2).1] at q;cases q
   refine bI ?_ λz2=>nF ((hF b).mpr (.inr z2));rw[br λz2=>nF ((hF b).mpr (.inl z2))];exact q
noncomputable def Aa:Kd->Ow
 |.fr k=>k
 |_=>.fz
theorem VR1.tr(hb:bp kd=false)(h:VR1 K H g F kd d v F):Tr K H (Sx g F) d (Aa kd) v F:=by
 cases kd with
 |sh=>
  have e:F=jq:=by funext b;exact propext ⟨h.1 b,λz=>z.elim⟩
  rw[show Aa .sh=.fz from rfl];have:=Tr.fz h.2;rw[e] at this⊢;exact this
 |fr k=>exact h
 |bo i k=>cases hb
end
noncomputable def e6:Expr->Bool
 |.ListComp ..|.SetComp ..|.DictComp ..=>false
 |_=>true
theorem mI{n:Nat}(h:e6 e=true):swapsWith e t n env=pure false:=by
 cases e<;>first|rfl|cases h
noncomputable def vW:Expr->Bool
 |.Tuple ..=>false
 |_=>true
theorem j5{k:Nat}{n:Nat}:swapsWithSole [.Tuple es k tp] e n env=pure false:=by
 cases e<;>rfl
theorem n5{k:Nat}(h:vW e=true):swappedStores [.Tuple es k tp] e env=pure none:=by
 cases e<;>first|rfl|cases h
noncomputable def pR(pn:List Nat)(i:Nat)(a:MR):Option Res:=match a with
 |some (kd,d,ρ1)=>if bp (bW kd d)=true\/i∈pn then none else some (.nx (ρ1.set i (some ⟨false,Aa (bW kd d),d⟩)))
 |none=>none
section
variable {X:Cx} {Γ:gH} {c:Cz} {pn:List Nat}
theorem j6{g g1:Gh}{σ:L2.St}{i:Nat}{Dn:i4}(h:pR pn i (some (kd,d,ρ1))=some r)(q:EndM K pn g H σ Dn r)(ev:Evo g H g1 H1 F)(se:SE K (g1.plus F) ρ1 σ H1)(vr:VR1 K H1 g1 F kd d v F):Dn.nx (σ.set i (some v)) H1:=by
 unfold pR at h;dsimp only at h;split at h
 ·cases h
 ·rename_i hb;cases h;rw[not_or] at hb;have vr1:=vr.im se.mu;obtain⟨c1,c2,_⟩:=EY (i:=i) (F2:=jq) ev se (λb=>⟨.inl,λz=>z.elim id λz=>z.elim⟩) (λ_ _ z=>z) (λ_ z=>z) (vr1.tr (by simpa using hb.1));exact q _ _ H1 c1 (by rw[aN λ_ z=>z] at c2;exact c2) (PinOk.set hb.2)
theorem EZ(O:al X Γ c){f:Ro->MR}{x:Str}{i:Nat}{e:Expr}{p pos:Pos}(hl:l7 c x=true)(hi:bu x c.N=some i)(hn:e6 e=true)(hf:a8 X f e):dX X pn (λρ=>pR pn i (f ρ)) (.Assign [.Name x p] e pos):=by
 intro ρ r h g σ H Dn se q;have l:=jJ O hl
 cases hf':f ρ with
 |none=>dsimp only at h;rw[hf'] at h;cases h
 |some w=>
  obtain⟨kd,d,ρ1⟩:=w;dsimp only at h;rw[hf'] at h;exact cJ (t7 (i:=i) (by rw[O.N];exact O.nd) (by rw[O.N];exact bc hi) l.1 au (mI hn) l.2) (hf ρ kd d ρ1 hf' g σ H _ se λv g1 H1 F ev se1 vr=>j6 h q ev se1 vr)
noncomputable def Cj:List Nat->t0
 |[]=>AI
 |i::is=>t5 (jA i) (Cj is)
noncomputable def n6:List Nat->List D->List Ow->Ow->Ro->Ro
 |i::is,d::ds,es,r,ρ=>n6 is ds es.tail r (ρ.set i (some ⟨false,es.headD r,d⟩))
 |_,_,_,_,ρ=>ρ
theorem j7{H H1:Hp}{Q:L2.St->Hp->Prop}:∀{is:List Nat} {ds:List D} {es:List Ow} {r:Ow} {vs:List V} {g1:Gh} {F S:Pr} {ρ:Ro} {σ:L2.St},is.length=ds.length->(∀i∈is,i∉pn)->Evo g H g1 H1 F->SE K (g1.plus F) ρ σ H1->(∀b,Sx g1 F b->S b)->TrL K H1 S ds es r vs F->PinOk pn σ0 σ->
  (∀g2 σ2,Evo g H g2 H1 jq->SE K g2 (n6 is ds es r ρ) σ2 H1->PinOk pn σ0 σ2->Q σ2 H1)->Cj is vs σ H1 Q
 |[],[],es,r,vs,g1,F,S,ρ,σ,hl,hp,ev,se,hS,t,pk,q=>by
  unfold TrL at t;have e:F=jq:=by funext b;exact propext ⟨t.2 b,λz=>z.elim⟩
  subst e;exact⟨t.1,q g1 σ ev (by rw[aN λ_ z=>z] at se;exact se) pk⟩
 |[],_::_,_,_,_,_,_,_,_,_,hl,_,_,_,_,_,_,_=>by simp at hl
 |_::_,[],_,_,_,_,_,_,_,_,hl,_,_,_,_,_,_,_=>by simp at hl
 |i::is,d::ds,es,r,vs,g1,F,S,ρ,σ,hl,hp,ev,se,hS,t,pk,q=>by
  unfold TrL at t;obtain⟨y,ys,F1,F2,rfl,hF,dj,t1,t2⟩:=t;obtain⟨c1,c2,c3⟩:=EY (i:=i) ev se hF dj hS t1;exact⟨y,ys,rfl,j7 (by simpa using hl) (λj hj=>hp j (Kx _ hj)) c1 c2 (λb z=>hS b ((c3 b).mp z)) t2 (pk.trans (PinOk.set (hp i KF))) q⟩
noncomputable def e7(kd:Kd)(ds:List D):Option (List Ow×Ow):=match kd with
 |.sh=>some ([],.fz)
 |.fr (.own es r)=>some (es,r)
 |.fr .fz=>some ([],.fz)
 |.bo _ _=>if xY ds=true then some ([],.fz) else none
theorem VR1.parts{H:Hp}{F:Pr}(hh:hd=.tup\/hd=.lst)(hk:e7 kd ds=some (es,r))(m:MuOk H (Sx g F))(h:VR1 K H g F kd (.nd hd ds) v F):∃a o xs F',v=.ref a/\H a=some o/\i8 K o hd xs/\(∀b,F' b->F b)/\TrL K H (Sx g F) ds es r xs F':=by
 have fl:∀{d:List D} {xs:List V},RpL K H (Sx g F) d xs->TrL K H (Sx g F) d [] .fz xs jq:=λh=>.ofFlat (λe z=>by cases z) h
 cases kd with
 |sh=>
  cases hk;obtain⟨a,o,xs,rfl,_,g1,q1,rl⟩:=h.2.nd;exact⟨a,o,xs,jq,rfl,g1,q1,λ_ z=>z.elim,fl rl⟩
 |fr k=>
  cases k with
  |fz=>
   cases hk;obtain⟨a,o,xs,rfl,_,g1,q1,rl⟩:=(Tr.fz_inv h).2.nd;exact⟨a,o,xs,jq,rfl,g1,q1,λ_ z=>z.elim,fl rl⟩
  |own es' r'=>
   cases hk;have h':Tr K H (Sx g F) (.nd hd ds) (.own es r) v F:=h;unfold Tr at h';obtain⟨a,o,xs,F',rfl,g1,q1,_,_,hF,t⟩:=h';exact⟨a,o,xs,F',rfl,g1,q1,λb z=>(hF b).mpr (.inr z),t⟩
 |bo i k=>
  simp only[e7] at hk;split at hk
  ·rename_i hi;cases hk;obtain⟨a,o,xs,rfl,_,g1,q1,rl⟩:=h.rd.nd;exact⟨a,o,xs,jq,rfl,g1,q1,λ_ z=>z.elim,fl (rl.im m hi)⟩
  ·cases hk
noncomputable def vX(pn:List Nat)(is:List Nat)(a:MR):Option Res:=match a with
 |some (kd,.nd .tup ds,ρ1)=>(match e7 kd ds with|some (es,r)=>if is.length=ds.length/\(is.all λi=>!pn.contains i)=true then some (.nx (n6 is ds es r ρ1)) else none|none=>none)
 |some (kd,.nd .lst ds,ρ1)=>(match e7 kd ds with|some (es,r)=>if is.length=ds.length/\(is.all λi=>!pn.contains i)=true then some (.nx (n6 is ds es r ρ1)) else none|none=>none)
 |_=>none
noncomputable def vY(c:Cz):List Expr->Option (List Nat)
 |[]=>some []
 |.Name x _::r=>if l7 c x then(match bu x c.N,vY c r with|some i,some is=>some (i::is)|_,_=>none) else none
 |_=>none
theorem rD(O:al X Γ c):∀{es:List Expr} {is:List Nat},vY c es=some is->AG X es (Cj is)/\(assignEach es X.env).length=is.length/\(assignEach es X.env).findIdx? (·.1)=none
 |[],is,h=>by cases h;exact⟨qt,rfl,rfl⟩
 |e::es,is,h=>by
  cases e with
  |Name x p=>
   unfold vY at h;split at h
   ·rename_i hl;split at h
    ·rename_i i is' hi his;cases h;have l:=jJ O hl;obtain⟨g1,g2,g3⟩:=rD O his;refine⟨nc (qp (i:=i) (by rw[O.N];exact O.nd) (by rw[O.N];exact bc hi) l.1 l.2) g1,?_,?_⟩
     ·show(assignEach es X.env).length+1=_;rw[g2];rfl
     ·show((false,assign (.Name x p) X.env)::assignEach es X.env).findIdx? (·.1)=none;rw[Lm];simp[g3]
    ·cases h
   ·cases h
  |_=>cases h
theorem E1(O:al X Γ c){f:Ro->MR}{es:List Expr}{is:List Nat}{k:Nat}{e:Expr}{tp pos:Pos}(hf:a8 X f e)(h1:vY c es=some is)(hn:vW e=true):dX X pn (λρ=>vX pn is (f ρ)) (.Assign [.Tuple es k tp] e pos):=by
 intro ρ r h g σ H Dn se q;obtain⟨g1,g2,g3⟩:=rD O h1
 have pin:(is.all λi=>!pn.contains i)=true->∀i∈is,i∉pn:=λh i hi=>by
  have:=Lc.mp h i hi;simpa using this
 dsimp only[vX] at h;split at h
 ·rename_i kd ds ρ1 he;split at h
  ·rename_i ks r0 hk;split at h
   ·rename_i hl;cases h;refine cJ (oZ au (t6 O.calm g1 g2 g3) j5 (n5 hn)) (hf ρ _ _ _ he g σ H _ se λv g' H1 F ev se1 vr=>?_);obtain⟨a,o,xs,F',rfl,ga,qa,sF,t⟩:=vr.parts (.inl rfl) hk λb z=>se1.mu b ((ai b).mpr z);cases(show o=_ from qa);refine⟨a,xs,rfl,.of ga,by rw[t.len,hl.1],j7 hl.1 (pin hl.2) (ev.drop sF) (se1.drop sF λb z=>(ev.tmp b z).1) (λb z=>z.imp id (sF b)) t PinOk.refl λg2 σ2 e2 s2 p2=>q σ2 g2 H1 e2 s2 p2⟩
   ·cases h
  ·cases h
 ·rename_i kd ds ρ1 he;split at h
  ·rename_i ks r0 hk;split at h
   ·rename_i hl;cases h;refine cJ (oZ au (A2 O.calm g1 g2 g3) j5 (n5 hn)) (hf ρ _ _ _ he g σ H _ se λv g' H1 F ev se1 vr=>?_);obtain⟨a,o,xs,F',rfl,ga,qa,sF,t⟩:=vr.parts (.inr rfl) hk λb z=>se1.mu b ((ai b).mpr z);cases(show o=_ from qa);refine⟨a,xs,rfl,.of ga,by rw[t.len,hl.1],j7 hl.1 (pin hl.2) (ev.drop sF) (se1.drop sF λb z=>(ev.tmp b z).1) (λb z=>z.imp id (sF b)) t PinOk.refl λg2 σ2 e2 s2 p2=>q σ2 g2 H1 e2 s2 p2⟩
   ·cases h
  ·cases h
 ·cases h
noncomputable def vZ(a:MR):Option Res:=match a with
 |some (kd,d,ρ1)=>if bp (bW kd d)=true then none else some (.rt (bW kd d) d ρ1)
 |none=>none
theorem E2{f:Ro->MR}(hf:a8 X f e):dX X pn (λρ=>vZ (f ρ)) (.Return (some e) pos):=by
 intro ρ r h g σ H Dn se q;dsimp only[vZ] at h;split at h
 ·rename_i kd d ρ1 he;split at h
  ·cases h
  ·cases h;exact cJ (AF au) (hf ρ _ _ _ he g σ H _ se λv g1 H1 F ev se1 vr=>q v σ g1 H1 F ev se1 PinOk.refl (vr.im se1.mu))
 ·cases h
noncomputable def v3(a:MR):Option Res:=match a with
 |some (_,_,ρ1)=>some (.nx ρ1)
 |none=>none
theorem E3{f:Ro->MR}(hn:e6 e=true)(hf:a8 X f e):dX X pn (λρ=>v3 (f ρ)) (.Expr e pos):=by
 intro ρ r h g σ H Dn se q;dsimp only[v3] at h;split at h
 ·rename_i kd d ρ1 he;cases h;refine cJ (xO au (mI hn)) (hf ρ _ _ _ he g σ H _ se λv g1 H1 F ev se1 vr=>q σ g1 H1 (ev.drop λ_ z=>z.elim) ?_ PinOk.refl);have:=se1.drop (F2:=jq) (λ_ z=>z.elim) λb z=>(ev.tmp b z).1;rw[aN λ_ z=>z] at this;exact this
 ·cases h
theorem E4{x:Str}{j:Nat}:dX X pn (λρ=>some (.nx ρ)) (.Expr (.Constant (.str x) j pos) pos'):=by
 intro ρ r h g σ H Dn se q;cases h;exact cJ AE (q σ g H (.refl g H) se PinOk.refl)
noncomputable def v4(t:Option (Bool×Ro))(a b:Ro->Option Res):Option Res:=match t with
 |some (true,ρ)=>a ρ
 |some (false,ρ)=>b ρ
 |none=>none
theorem E5{ft:Ro->Option (Bool×Ro)}(ht:eX X ft t)(ha:jg X pn fa a)(hb:jg X pn fb b):dX X pn (λρ=>v4 (ft ρ) fa fb) (.If t a b pos):=by
 intro ρ r h g σ H Dn se q;dsimp only[v4] at h;split at h
 ·rename_i ρ1 e;exact cJ (zS dN g9 g9) (ht ρ _ _ e g σ H _ se λg1 H1 ev se1=>uu (ha ρ1 r h g1 σ H1 Dn se1 (q.from ev PinOk.refl)))
 ·rename_i ρ1 e;exact cJ (zS dN g9 g9) (ht ρ _ _ e g σ H _ se λg1 H1 ev se1=>ut (hb ρ1 r h g1 σ H1 Dn se1 (q.from ev PinOk.refl)))
 ·cases h
noncomputable def v5(a:Option Res)(b:Ro->Option Res):Option Res:=match a with
 |some (.nx ρ)=>b ρ
 |r=>r
theorem E6:jg X pn (λρ=>some (.nx ρ)) []:=by
 intro ρ r h g σ H Dn se q;cases h;exact vV xM (q σ g H (.refl g H) se PinOk.refl)
theorem Ck{fa fb:Ro->Option Res}(ha:dX X pn fa s)(hb:jg X pn fb st):jg X pn (λρ=>v5 (fa ρ) fb) (s::st):=by
 intro ρ r h g σ H Dn se q;dsimp only at h;refine vV (tZ Ia g9) ?_
 cases e:fa ρ with
 |none=>rw[e] at h;cases h
 |some ra=>
  rw[e] at h
  cases ra with
  |nx ρ1=>exact ha ρ _ e g σ H _ se λσ1 g1 H1 ev se1 pk=>hb ρ1 r h g1 σ1 H1 Dn se1 (q.from ev pk)
  |rt kd d ρ1=>cases h;exact ha ρ _ e g σ H _ se q
  |ct ρ1=>cases h;exact ha ρ _ e g σ H _ se q
  |bk ρ1=>cases h;exact ha ρ _ e g σ H _ se q
theorem Cl:dX X pn (λρ=>some (.nx ρ)) (.Pass pos):=by
 intro ρ r h g σ H Dn se q;cases h;exact cJ xN (q σ g H (.refl g H) se PinOk.refl)
end
noncomputable def v6(c:Cz)(x y a:Str)(px py:Pos):Bool:=decide (a≠"__debug__")&&decide (c.sc.names.lookup x=some .local)&&decide (c.sc.names.lookup y=some .local)&&decide (x≠y)&&(py.line==px.line)&&decide (c.sc.kind=.function)
section
variable {X:Cx} {Γ:gH} {c:Cz} {pn:List Nat}
end
end J
namespace J
open PySem PySem.Spec L2
open Classical in
noncomputable def Gh.lend(g:Gh)(bs:List Nat):Gh:=λb=>if ∃i∈bs,g b=some (some i) then some none else g b
open Classical in
noncomputable def Gh.unlend(g' g:Gh)(bs:List Nat):Gh:=λb=>if ∃i∈bs,g b=some (some i) then g b else g' b
noncomputable def clrN:List Nat->Ro->Ro
 |[],ρ=>ρ
 |i::is,ρ=>clrN is (ρ.set i none)
noncomputable def tO:List Nat->Ro->Ro->Ro
 |[],_,ρ'=>ρ'
 |i::is,ρ,ρ'=>tO is ρ (ρ'.set i (ρ[i]?).join)
section
variable {K:Km} {H H' H1:Hp} {g g' g1:Gh} {F:Pr} {ρ ρ':Ro} {σ σ':L2.St} {bs:List Nat}
theorem pS(b:Addr):Sg (g.lend bs) b↔Sg g b:=by
 unfold Gh.lend Sg;dsimp only;by_cases h:∃i∈bs,g b=some (some i)
 ·rw[if_pos h];obtain⟨i,_,e⟩:=h;simp[e]
 ·rw[if_neg h]
theorem js{j:Nat}(h:g.lend bs b=some (some j)):g b=some (some j)/\j∉bs:=by
 unfold Gh.lend at h;split at h
 ·cases h
 ·rename_i n;exact⟨h,λz=>n ⟨j,z,h⟩⟩
theorem rE{i:Nat}(hi:i∈bs)(h:g b=some (some i)):g.lend bs b=some none:=by
 unfold Gh.lend;rw[if_pos ⟨i,hi,h⟩]
theorem ju(h:∀i∈bs,g b≠some (some i)):g.lend bs b=g b:=by
 unfold Gh.lend;rw[if_neg λ⟨i,hi,e⟩=>h i hi e]
theorem j8:∀{is:List Nat} {ρ:Ro},(clrN is ρ).length=ρ.length
 |[],_=>rfl
 |i::is,ρ=>by unfold clrN;rw[j8];simp
theorem iM:∀{is:List Nat} {ρ:Ro} {j:Nat} {sl:Sl},(clrN is ρ)[j]?=some (some sl)->ρ[j]?=some (some sl)/\j∉is
 |[],_,_,_,h=>⟨h,by simp⟩
 |i::is,ρ,j,sl,h=>by
  unfold clrN at h;obtain⟨h1,h2⟩:=iM h
  have hne:j≠i:=λz=>by
   subst z
   have hlt:j<ρ.length:=by
    have:=(Ky.mp h1).1;simpa using this
   rw[KM hlt] at h1;cases h1
  rw[KJ (Ne.symm hne)] at h1;exact⟨h1,by simp[hne,h2]⟩
theorem rF:∀{is:List Nat} {ρ ρ':Ro},(tO is ρ ρ').length=ρ'.length
 |[],_,_=>rfl
 |i::is,ρ,ρ'=>by unfold tO;rw[rF];simp
theorem n8:∀{is:List Nat} {ρ ρ':Ro} {j:Nat} {sl:Sl},(tO is ρ ρ')[j]?=some (some sl)->(j∈is/\ρ[j]?=some (some sl))\/(j∉is/\ρ'[j]?=some (some sl))
 |[],_,_,_,_,h=>.inr ⟨by simp,h⟩
 |i::is,ρ,ρ',j,sl,h=>by
  unfold tO at h;rcases n8 h with⟨h1,h2⟩|⟨h1,h2⟩
  ·exact .inl ⟨Kx _ h1,h2⟩
  ·by_cases hj:j=i
   ·subst hj
    have hlt:j<ρ'.length:=by
     have:=(Ky.mp h2).1;simpa using this
    rw[KM hlt] at h2;refine .inl ⟨KF,?_⟩;have:(ρ[j]?).join=some sl:=by simpa using h2
    cases q:ρ[j]? with
    |none=>rw[q] at this;cases this
    |some o=>rw[q] at this;have:o=some sl:=this;rw[this]
   ·rw[KJ (Ne.symm hj)] at h2;exact .inr ⟨by simp[hj,h1],h2⟩
theorem SE.clrN(h:SE K g ρ σ H)(is:List Nat):SE K g (clrN is ρ) σ H:=⟨λi sl e=>h.slot i sl (iM e).1,h.mu,by rw[j8];exact h.len⟩
theorem SE.lend(h:SE K g ρ σ H)(bs:List Nat):SE K (g.lend bs) (J.clrN bs ρ) σ H:=by
 refine⟨λi sl e=>?_,λb z=>h.mu b ((pS b).mp z),by rw[j8];exact h.len⟩;obtain⟨e1,hn⟩:=iM e;obtain⟨v,F,q1,q2,q3⟩:=h.slot i sl e1;refine⟨v,F,q1,λb z=>?_,q3.go (λ_ _ _ e=>e) λb o _ n z=>n ((pS b).mp z)⟩;have:=q2 b z;rw[ju λj hj e=>by rw[this] at e;cases e;exact hn hj];exact this
theorem ly(h:∃i∈bs,g b=some (some i)):g'.unlend g bs b=g b:=by unfold Gh.unlend;rw[if_pos h]
theorem cX(h:¬∃i∈bs,g b=some (some i)):g'.unlend g bs b=g' b:=by unfold Gh.unlend;rw[if_neg h]
theorem iX(h:SE K g ρ σ H)(ev:Evo (g.lend bs) H g' H' F)(se:SE K (g'.plus F) ρ' σ' H')(pk:PinOk bs σ σ') :
  Evo g H (g'.unlend g bs) H' F/\SE K ((g'.unlend g bs).plus F) (tO bs ρ ρ') σ' H'/\∀b,Sg (g'.unlend g bs) b->Sg g' b:=by
 have ho:∀b,(∃i∈bs,g b=some (some i))->g' b=some none:=λb ⟨i,hi,e⟩=>(ev.out b).mp (rE hi e)
 have sub:∀b,Sg (g'.unlend g bs) b->Sg g' b:=λb z=>by
  by_cases q:∃i∈bs,g b=some (some i)
  ·rw[Sg,ho b q];simp
  ·rw[Sg,cX q] at z;exact z
 have subp:∀b,Sg ((g'.unlend g bs).plus F) b->Sg (g'.plus F) b:=λb z=>(ai b).mpr (((ai b).mp z).imp (sub b) id);have hFn:∀b,F b->¬∃i∈bs,g b=some (some i):=λb z q=>by have:=ho b q;rw[(ev.tmp b z).1] at this;cases this
 refine⟨⟨λb o n e=>ev.keep b o (λi q=>n i (js q).1) e,λb=>⟨λe=>?_,λe=>?_⟩,λb j e=>?_,λb z=>?_,ev.dom⟩,⟨λj sl e=>?_,λb z=>se.mu b (subp b z),by rw[rF];exact se.len⟩,sub⟩
 ·have n:¬∃i∈bs,g b=some (some i):=λ⟨i,_,q⟩=>by rw[e] at q;cases q
  rw[cX n];exact(ev.out b).mp (by rw[ju λi hi q=>n ⟨i,hi,q⟩];exact e)
 ·by_cases q:∃i∈bs,g b=some (some i)
  ·rw[ly q] at e;exact e
  ·rw[cX q] at e;have:=(ev.out b).mpr e;rw[ju λi hi z=>q ⟨i,hi,z⟩] at this;exact this
 ·by_cases q:∃i∈bs,g b=some (some i)
  ·obtain⟨i,_,q⟩:=q;exact .inl ⟨i,q⟩
  ·rw[cX q] at e;exact(ev.new b j e).imp (λ⟨j,z⟩=>⟨j,(js z).1⟩) id
 ·have t:=ev.tmp b z;exact⟨by rw[cX (hFn b z)];exact t.1,t.2.imp (λ⟨j,z⟩=>⟨j,(js z).1⟩) id⟩
 ·rcases n8 e with⟨hj,e1⟩|⟨hj,e1⟩
  ·obtain⟨v,Fj,q1,q2,q3⟩:=h.slot j sl e1;refine⟨v,Fj,by rw[pk j hj];exact q1,λb z=>?_,q3.go (λb o hb e=>ev.keep b o (λi q=>?_) e) λb o e n z=>?_⟩
   ·have:∃i∈bs,g b=some (some i):=⟨j,hj,q2 b z⟩;exact bI (by rw[ly this];exact q2 b z) λz2=>hFn b z2 this
   ·obtain⟨q,hn⟩:=js q;rcases hb with hb|hb
    ·exact hb (by rw[Sg,q];simp)
    ·rw[q2 b hb] at q;cases q;exact hn hj
   ·have gn:g b=none:=by
     cases q:g b with
     |none=>rfl
     |some x=>exact absurd (by rw[Sg,q];simp) n
    obtain⟨f1,f2⟩:=ev.froz e (by rw[ju λi _ z=>by rw[gn] at z;cases z];exact gn);rcases(ai b).mp z with z|z
    ·exact sub b z f1
    ·exact f2 z
  ·obtain⟨v,Fj,q1,q2,q3⟩:=se.slot j sl e1;refine⟨v,Fj,q1,λb z=>?_,q3.go (λ_ _ _ e=>e) λb o _ n z=>n (subp b z)⟩;have q:=bw (q2 b z);refine bI ?_ λz2=>by rw[(ev.tmp b z2).1] at q;cases q
   rw[cX λz2=>by rw[ho b z2] at q;cases q];exact q
theorem VR1.unlend(hb:bp kd=false)(sub:∀b,Sg g b->Sg g' b)(h:VR1 K H g' F kd d v F):VR1 K H g F kd d v F:=by
 have k2:∀b,Sx g F b->Sx g' F b:=λb z=>z.imp (sub b) id
 cases kd with
 |sh=>exact⟨h.1,h.2.weak k2⟩
 |fr k=>exact Tr.go (λ_ _ _ e=>e) (λb o _ n z=>n (k2 b z)) h
 |bo i k=>cases hb
theorem zc{s:Src}(hp:s.P K g H1)(hf:s.from g H bs)(ev:Evo (g.lend bs) H1 gi Hi jq):s.P K gi Hi:=by
 have fz:∀b o,H1 b=some o->¬Sg g b->Hi b=some o/\¬Sg gi b:=λb o e n=>by
  have n':g.lend bs b=none:=by
   cases q:g.lend bs b with
   |none=>rfl
   |some x=>exact absurd ((pS b).mp (by rw[Sg,q];simp)) n
  obtain⟨f1,f2⟩:=ev.froz e n';exact⟨ev.keep b o (λi q=>by rw[n'] at q;cases q) e,λz=>z f1⟩
 refine Src.mono (g:=g) (H:=H1) (λb o e n=>(fz b o e n).2) (λb o hb e=>?_) (λa e=>hf.from_t e) hp;rcases hb with hb|hb
 ·exact(fz b o e hb).1
 ·rcases hf.from_l hb with hf|⟨i,hm,hf⟩
  ·exact(fz b o e (by rw[Sg,hf];simp)).1
  ·exact ev.keep b o (λj q=>by rw[rE hm hf] at q;cases q) e
end
noncomputable def cx(pn fg:List Nat)(tg:IT)(fb:Ro->Option Res):List D->Ro->Option Res
 |[],ρ=>some (.nx (clrN fg ρ))
 |d::ds,ρ=>match m7 tg d with
  |some ps=>if(ps.all λp=>!pn.contains p.1)=true then(match fb (setAll ps (clrN fg ρ)) with
   |some (.nx ρ2)=>cx pn fg tg fb ds ρ2
   |some (.ct ρ2)=>cx pn fg tg fb ds ρ2
   |some (.bk ρ2)=>some (.nx (clrN fg ρ2))
   |some (.rt k d ρ2)=>some (.rt k d ρ2)
   |none=>none) else none
  |none=>none
noncomputable def Ab(J:It)(g:TG)(tb:TS):TS:=λD σ H1=>∃W:Nat->Nat->L2.St->Hp->Prop,(∃m,W 0 m σ H1)/\∀i m σ H,W i m σ H->
 (J.stop i H/\D.nx σ H)\/(J.go i H/\∃N:L2.St->Hp->Prop,(∀σ' H',N σ' H'->∃m',m'<m/\W (i+1) m' σ' H')/\∀x H',J.yld i H x H'->g x σ H' λσ2 H2=>tb { D with nx:=N,ct:=N,bk:=D.nx } σ2 H2)
section
variable {X:Cx} {Γ:gH} {c:Cz} {pn:List Nat}
theorem v7{ps:List (Nat×D)}(h:RpP K H S ps vs)(hp:(ps.all λp=>!pn.contains p.1)=true):PinOk pn σ (iB vs σ):=λi hi=>jo h λp hp' z=>by
 have:=Lc.mp hp p hp';rw[z] at this;simp[hi] at this
theorem n9(O:al X Γ c){fg:List Nat}{fb:Ro->Option Res}{tg:Expr}{t:IT}{n:Nat}{body:List Stmt}(htg:oV c n tg=some t)(hb:jg X pn fb body){jj:It}{src:Src}{ds:List D}{g g0:Gh}{bs:List Nat}{H H1:Hp}{Dn:i4}{ρ:Ro}{σ:L2.St}{r:Res}
  (se:SE X.K (g.lend bs) ρ σ H1) (jt:jb X.K jj src ds) (sp:src.P X.K g H1) (sf:src.from g H bs) (h:cx pn fg t fb ds ρ=some r) (q:EndM X.K pn (g.lend bs) H1 σ Dn r) :
  Ab jj (wG X tg) (EX X body) Dn σ H1:=by
 refine⟨λi m σ' H'=>m=ds.length-i/\i<=ds.length/\∃ρ' g',SE X.K g' ρ' σ' H'/\Evo (g.lend bs) H1 g' H' jq/\PinOk pn σ σ'/\cx pn fg t fb (ds.drop i) ρ'=some r,
  ⟨ds.length,by simp,K2 _,ρ,g.lend bs,se,.refl _ _,PinOk.refl,by simpa using h⟩,?_⟩
 rintro i m σ' H' ⟨rfl,hi',ρ',g',se',ev',pk',hrest⟩
 obtain⟨j1,j2⟩:=jt i g' H' (zc sp sf ev') se'.mu;by_cases hlt:i<ds.length
 ·have hd:ds[i]?=some ds[i]:=Ko hlt;obtain⟨go,yl⟩:=j2 _ hd;rw[L1 hlt] at hrest;unfold cx at hrest;split at hrest
  ·rename_i ps hps;split at hrest
   ·rename_i hpn;refine .inr ⟨go,λσ2 H2=>ds.length-(i+1)=ds.length-(i+1)/\i+1<=ds.length/\∃ρ' g',SE X.K g' ρ' σ2 H2/\Evo (g.lend bs) H1 g' H2 jq/\PinOk pn σ σ2/\cx pn fg t fb (ds.drop (i+1)) ρ'=some r,λσ2 H2 hN=>⟨ds.length-(i+1),by lia,hN⟩,λx H2 hy=>?_⟩;obtain⟨s2,rx⟩:=yl x H2 hy;refine uG (qS O n htg) (jn hps rx λvs hvs=>?_);have se2:=SE.setAll hvs ((se'.clrN fg).same s2);have ev2:Evo (g.lend bs) H1 g' H2 jq:=bd ev' (cw s2 (λ_ z=>z.elim) λ_ z=>z.elim);have pk2:=pk'.trans (v7 (σ:=σ') hvs hpn);split at hrest
    ·rename_i ρ2 hbody;exact hb _ _ hbody g' _ H2 _ se2 λσ4 g4 H4 ev4 se4 pk4=>⟨rfl,hlt,ρ2,g4,se4,bd ev2 ev4,pk2.trans pk4,hrest⟩
    ·rename_i ρ2 hbody;exact hb _ _ hbody g' _ H2 _ se2 λσ4 g4 H4 ev4 se4 pk4=>⟨rfl,hlt,ρ2,g4,se4,bd ev2 ev4,pk2.trans pk4,hrest⟩
    ·rename_i ρ2 hbody;cases hrest;exact hb _ _ hbody g' _ H2 _ se2 λσ4 g4 H4 ev4 se4 pk4=>q σ4 g4 H4 (bd ev2 ev4) (se4.clrN fg) (pk2.trans pk4)
    ·rename_i k d ρ2 hbody;cases hrest;exact hb _ _ hbody g' _ H2 _ se2 λv σ4 g4 H4 F4 ev4 se4 pk4 r4=>q v σ4 g4 H4 F4 (bd ev2 ev4) se4 (pk2.trans pk4) r4
    ·cases hrest
   ·cases hrest
  ·cases hrest
 ·have e:i=ds.length:=by lia
  subst e;rw[Nl] at hrest;cases hrest;exact .inl ⟨j1 (Kw _),q σ' g' H' ev' (se'.clrN fg) pk'⟩
noncomputable def oe(bs:List Nat)(ρ:Ro)(r:Option Res):Option Res:=match r with
 |some (.nx ρ')=>some (.nx (tO bs ρ ρ'))
 |some (.rt k d ρ')=>if bp k=true then none else some (.rt k d (tO bs ρ ρ'))
 |_=>none
noncomputable def og(pn fg:List Nat)(tg:IT)(fb:List Nat->Ro->Option Res)(it:IR):Option Res:=match it with
 |some (bs,ds,ρ)=>oe bs ρ (cx (pn++bs) fg tg (fb (pn++bs)) ds (clrN bs ρ))
 |none=>none
theorem PinOk.left{a b:List Nat}(h:PinOk (a++b) σ σ'):PinOk a σ σ':=λi hi=>h i (LS _ hi)
theorem PinOk.right{a b:List Nat}(h:PinOk (a++b) σ σ'):PinOk b σ σ':=λi hi=>h i (KH _ hi)
theorem Cm(O:al X Γ c)(hp:PassesOwn (model X.prog X.w) X.A X.env X.xe){fg:List Nat}{fi:Ro->IR}{fb:List Nat->Ro->Option Res}{tg iter:Expr}{t:IT}{n:Nat}{body:List Stmt}{pos:Pos}(htg:oV c n tg=some t)(hi:gX X fi tg iter)(hb:∀pn,jg X pn (fb pn) body)(hs:eA iter=true) :
  dX X pn (λρ=>og pn fg t fb (fi ρ)) (.For tg iter body [] pos):=by
 intro ρ r h g σ H Dn se q;dsimp only[og] at h;split at h
 ·rename_i bs ds ρ0 hit;refine cJ (AM hp O.calm xZ ya g9 (fA hs)) (hi ρ bs ds ρ0 hit g σ H _ se λjj src g1 H1 ev1 se1 jt sp sf=>?_);have q1:=q.from ev1 PinOk.refl;show Ab jj (wG X tg) (EX X body) Dn σ H1;unfold oe at h;split at h
  ·rename_i ρ' hf;cases h;refine n9 (g0:=g1) O htg (hb _) (se1.lend bs) jt sp sf hf λσ' g' H' ev se' pk=>?_;obtain⟨c1,c2,_⟩:=iX (F:=jq) se1 ev (by rw[aN λ_ z=>z];exact se') pk.right;exact q1 σ' _ H' c1 (by rw[aN λ_ z=>z] at c2;exact c2) pk.left
  ·rename_i k d ρ' hf;split at h
   ·cases h
   ·rename_i hk;cases h;refine n9 (g0:=g1) O htg (hb _) (se1.lend bs) jt sp sf hf λv σ' g' H' F ev se' pk vr=>?_;obtain⟨c1,c2,c3⟩:=iX se1 ev se' pk.right;exact q1 v σ' _ H' F c1 c2 pk.left (vr.unlend (by simpa using hk) c3)
  ·cases h
 ·cases h
noncomputable def iN(fg:List Nat)(ft:Ro->Option (Bool×Ro))(fb:Ro->Option Res):Nat->Ro->Option Res
 |0,_=>none
 |n+1,ρ=>match ft (clrN fg ρ) with
  |some (false,ρ1)=>some (.nx ρ1)
  |some (true,ρ1)=>(match fb ρ1 with
   |some (.nx ρ2)=>iN fg ft fb n ρ2
   |some (.ct ρ2)=>iN fg ft fb n ρ2
   |some (.bk ρ2)=>some (.nx (clrN fg ρ2))
   |some (.rt k d ρ2)=>some (.rt k d ρ2)
   |none=>none)
  |none=>none
theorem E7(hp:PassesOwn (model X.prog X.w) X.A X.env X.xe){fg:List Nat}{ft:Ro->Option (Bool×Ro)}{fb:Ro->Option Res}{t:Expr}{body:List Stmt}{pos:Pos}(ht:eX X ft t)(hb:jg X pn fb body)(n:Nat):dX X pn (iN fg ft fb n) (.While t body [] pos):=by
 intro ρ r h g σ H Dn se q;refine cJ (t9 hp dN g9) ⟨λm σ' H'=>∃ρ' g',SE X.K g' ρ' σ' H'/\Evo g H g' H' jq/\PinOk pn σ σ'/\iN fg ft fb m ρ'=some r,⟨n,ρ,g,se,.refl g H,PinOk.refl,h⟩,?_⟩
 rintro m σ' H' ⟨ρ',g',se',ev',pk',hr⟩
 cases m with
 |zero=>cases hr
 |succ m=>
  unfold iN at hr;split at hr
  ·rename_i ρ1 e;cases hr
   exact ht _ _ _ e g' σ' H' _ (se'.clrN fg) λg1 H1 ev1 se1=>by
    rw[if_neg (by decide)];exact q σ' g1 H1 (bd ev' ev1) se1 pk'
  ·rename_i ρ1 e;refine ht _ _ _ e g' σ' H' _ (se'.clrN fg) λg1 H1 ev1 se1=>?_;rw[if_pos rfl];refine⟨λσ2 H2=>∃ρ2 g2,SE X.K g2 ρ2 σ2 H2/\Evo g H g2 H2 jq/\PinOk pn σ σ2/\iN fg ft fb m ρ2=some r,λσ2 H2 hN=>⟨m,Lb m,hN⟩,?_⟩;have ev2:=bd ev' ev1;split at hr
   ·rename_i ρ2 hbody;exact hb _ _ hbody g1 σ' H1 _ se1 λσ4 g4 H4 ev4 se4 pk4=>⟨ρ2,g4,se4,bd ev2 ev4,pk'.trans pk4,hr⟩
   ·rename_i ρ2 hbody;exact hb _ _ hbody g1 σ' H1 _ se1 λσ4 g4 H4 ev4 se4 pk4=>⟨ρ2,g4,se4,bd ev2 ev4,pk'.trans pk4,hr⟩
   ·rename_i ρ2 hbody;cases hr;exact hb _ _ hbody g1 σ' H1 _ se1 λσ4 g4 H4 ev4 se4 pk4=>q σ4 g4 H4 (bd ev2 ev4) (se4.clrN fg) (pk'.trans pk4)
   ·rename_i k d ρ2 hbody;cases hr;exact hb _ _ hbody g1 σ' H1 _ se1 λv σ4 g4 H4 F4 ev4 se4 pk4 r4=>q v σ4 g4 H4 F4 (bd ev2 ev4) se4 (pk'.trans pk4) r4
   ·cases hr
  ·cases hr
noncomputable def Ib(op:Operator)(i j:Int):Option D:=match op with
 |.Add=>some (.int (i+j))
 |_=>none
noncomputable def v8(op:Operator)(x y:D):Option D:=match x with
 |.int i=>(match y with|.int j=>Ib op i j|_=>none)
 |_=>none
noncomputable def iY:D->Option V
 |.int i=>some (.int i)
 |.str x=>some (.str x)
 |.bl b=>some (.bl b)
 |.non=>some .non
 |_=>none
theorem v9(h:iY d=some v):Rp K H S d v:=by
 cases d<;>first|(cases h;unfold Rp;rfl)|cases h
theorem oh(h:iY d=some v)(r:Rp K H S d u):u=v:=by
 cases d<;>first|(cases h;unfold Rp at r;exact r)|cases h
theorem sY(h:v8 op x y=some z):∃u v w,iY x=some u/\iY y=some v/\iY z=some w:=by
 cases x with
 |int i=>cases y with
  |int j=>cases op<;>first|(cases h;exact⟨_,_,_,rfl,rfl,rfl⟩)|(obtain⟨_,e⟩:=uH h;cases e;exact⟨_,_,_,rfl,rfl,rfl⟩)|cases h
  |_=>cases h
 |_=>cases h
noncomputable def Ic(op:Operator):V->V->Hp->VK->Prop:=λx y H Q=>∃dx dy dz u,iY dx=some x/\iY dy=some y/\v8 op dx dy=some dz/\iY dz=some u/\Q u H
theorem Cn(op:Operator):G7 X op (Ic op):=by
 intro pins s σ H x y v u Q I rx ry h;obtain⟨dx,dy,dz,w,hx,hy,hd,hz,q⟩:=h
 cases dx with
 |int i=>cases dy with
  |int j=>cases op with
   |Add=>cases hd;cases hx;cases hy;cases hz;exact xR pins s σ H _ _ v u Q I rx ry ⟨_,_,rfl,rfl,q⟩
   |_=>cases hd
  |_=>cases hd
 |_=>cases hd
noncomputable def wa(op:Operator)(i:Nat)(k:Kd)(d:D)(ρ:Ro):Option Res:=match op with
 |.Add=>(match dF "extend" i (fQ ρ[i]?) (some [(k,d)]) ρ with|some x=>some (.nx x.2.2)|none=>none)
 |_=>none
noncomputable def wb(pn:List Nat)(i:Nat)(op:Operator)(o:Option (Option Sl))(a:MR):Option Res:=match o,a with
 |some (some s),some (ky,dy,ρ1)=>if i∈pn then none else(match v8 op s.d dy with|some dz=>some (.nx (ρ1.set i (some (Df dz))))|none=>wa op i ky dy ρ1)
 |_,_=>none
theorem oj{α:Type}:∀{l:List α} {i:Nat} {x:α},l[i]?=some x->l.set i x=l
 |[],_,_,h=>by cases h
 |y::l,0,x,h=>by cases h;rfl
 |y::l,i+1,x,h=>congrArg (y::·) (oj (l:=l) h)
theorem E8(O:al X Γ c){f:Ro->MR}{x:Str}{i:Nat}{op:Operator}{e:Expr}{p pos:Pos}(hl:l7 c x=true)(hi:bu x c.N=some i)(hf:a8 X f e):dX X pn (λρ=>wb pn i op ρ[i]? (f ρ)) (.AugAssign (.Name x p) op e pos):=by
 intro ρ r h g σ H Dn se q;have l:=jJ O hl;dsimp only[wb] at h;split at h
 ·rename_i sl ky dy ρ1 hs he;split at h
  ·cases h
  ·rename_i hp;split at h
   ·rename_i dz hd;cases h;obtain⟨ux,uy,uz,ax,ay,az⟩:=sY hd;obtain⟨v,F0,e1,e2,e3⟩:=se.slot i _ hs;have ev:=oh ax e3.rd;subst ev;refine cJ (t8 (i:=i) (by rw[O.N];exact O.nd) (by rw[O.N];exact bc hi) l.1 au (Cn op) l.2) ⟨_,e1,hf ρ _ _ _ he g σ H _ se λy g1 H1 F ev1 se1 r1=>?_⟩;have ey:=oh ay r1.rd;subst ey;refine⟨_,_,dz,uz,ax,ay,hd,az,?_⟩;have se2:=se1.drop (F2:=jq) (λ_ z=>z.elim) λb z=>(ev1.tmp b z).1;rw[aN λ_ z=>z] at se2;exact q _ g1 H1 (ev1.drop λ_ z=>z.elim) (se2.set i (v9 az)) (PinOk.set hp)
   ·cases op with
    |Add=>
     dsimp only[wa] at h;obtain⟨v,F0,e1,e2,e3⟩:=se.slot i _ hs
     cases hm:dF "extend" i (fQ ρ1[i]?) (some [(ky,dy)]) ρ1 with
     |none=>rw[hm] at h;cases h
     |some x=>
      rw[hm] at h;cases h;refine cJ (t8 (i:=i) (by rw[O.N];exact O.nd) (by rw[O.N];exact bc hi) l.1 au G.Bc l.2) ⟨_,e1,hf ρ _ _ _ he g σ H _ se λy g1 H1 F1 ev se1 r1=>?_⟩;unfold dF at hm;split at hm
      ·rename_i es r ds up as ep ea;cases ea;split at hm
       ·rename_i d' ds' k dd em ei1;cases hm;have:fQ ρ1[i]?=some (k,dd,id):=by rw[ei1];rfl
        rw[this] at ep;cases ep;obtain⟨w,Fi,w1,w2,w3⟩:=se1.slot i _ ei1;rw[e1] at w1;cases w1;obtain⟨a,o,xs,F',e4,nd⟩:=FP.node (F:=F1) se1 (λb z=>(ev.tmp b z).1) ei1 e1 w2 (.root w3) rfl;cases e4
        have fin:=eZ (Q:=λ_ H'=>Dn.nx (σ.set i (some (.ref a))) H') em nd ev se1 ⟨y,[],F1,λ_=>False,rfl,λb=>⟨.inl,λz=>z.elim id λz=>z.elim⟩,λ_ _ z=>z,r1,rfl,λ_ z=>z⟩ λv2 g2 H2 F2 ev2 se2 r2=>by
         have se3:=se2.drop (F2:=jq) (λ_ z=>z.elim) λb z=>(ev2.tmp b z).1;rw[aN λ_ z=>z] at se3;rw[oj e1];exact q _ g2 H2 (ev2.drop λ_ z=>z.elim) se3 PinOk.refl
        unfold yV at fin;rw[if_neg (by decide),if_pos rfl] at fin;exact fin
       ·cases hm
      ·cases hm
    |_=>cases h
 ·cases h
end
end J
namespace J
open PySem PySem.Spec L2
section
variable {X:Cx} {Γ:gH} {c:Cz} {pn:List Nat}
end
end J
namespace J
open PySem PySem.Spec L2
section
variable {K:Km} {H:Hp} {S:Pr}
theorem TrL.setAt:∀{ds:List D} {es:List Ow} {r:Ow} {xs:List V} {F F2:Pr} {j:Nat} {d:D} {v:V},TrL K H S ds es r xs F->j<ds.length->Tr K H S d (es.getD j r) v F2->(∀b,F b->¬F2 b)->∃F3:Pr,(∀b,F3 b->F b\/F2 b)/\TrL K H S (ds.set j d) es r (xs.set j v) F3
 |[],_,_,_,_,_,_,_,_,_,hj,_,_=>by simp at hj
 |d0::ds,es,r,xs,F,F2,0,d,v,h,hj,t,dj=>by
  unfold TrL at h;obtain⟨y,ys,F1,F3,rfl,hF,dj1,h1,h2⟩:=h;refine⟨λb=>F2 b\/F3 b,λb z=>z.elim .inr λz=>.inl ((hF b).mpr (.inr z)),?_⟩;show TrL K H S (d::ds) es r (v::ys) _;unfold TrL
  exact⟨v,ys,F2,F3,rfl,λb=>Iff.rfl,λb z1 z2=>dj b ((hF b).mpr (.inr z2)) z1,by cases es<;>simpa using t,h2⟩
 |d0::ds,es,r,xs,F,F2,j+1,d,v,h,hj,t,dj=>by
  unfold TrL at h;obtain⟨y,ys,F1,F3,rfl,hF,dj1,h1,h2⟩:=h
  have eg:es.tail.getD j r=es.getD (j+1) r:=by cases es<;>simp
  obtain⟨F4,a1,a2⟩:=TrL.setAt (j:=j) (d:=d) (v:=v) (F2:=F2) h2 (by simpa using hj) (by rw[eg];exact t) λb z=>dj b ((hF b).mpr (.inr z));refine⟨λb=>F1 b\/F4 b,λb z=>z.elim (λz=>.inl ((hF b).mpr (.inl z))) λz=>(a1 b z).imp (λz=>(hF b).mpr (.inr z)) id,?_⟩;show TrL K H S (d0::ds.set j d) es r (y::ys.set j v) _;unfold TrL;refine⟨y,_,F1,F4,rfl,λb=>Iff.rfl,λb z1 z2=>?_,h1,a2⟩;rcases a1 b z2 with z|z
  ·exact dj1 b z1 z
  ·exact dj b ((hF b).mpr (.inl z1)) z
end
noncomputable def mJ(es:List Ow)(r:Ow)(hd:Hd)(ds:List D)(dx:D)(x:KD):Option (Hd×List D):=match hd with
 |.lst=>(match dx with|.int z=>(match ir ds.length z with|some j=>if cP (es.getD j r) x=true then some (.lst,ds.set j x.2) else none|none=>none)|_=>none)
 |_=>none
noncomputable def sZ(i:Nat)(fp:Ro->Option (Ow×D×(D->D)))(fk:Ro->Option KD)(a:MR):Option Res:=match a with
 |some (kd,d,ρ1)=>(match fp ρ1,fk ρ1,ρ1[i]? with
  |some (.own es r,.nd hd ds,up),some (_,dx),some (some ⟨false,k,_⟩)=>(match mJ es r hd ds dx (bW kd d,d) with
   |some (hd',ds')=>some (.nx (ρ1.set i (some ⟨false,k,up (.nd hd' ds')⟩)))
   |none=>none)
  |_,_,_=>none)
 |none=>none
theorem tf{n:Nat}:swapsWithSole [.Subscript o b sp] e n env=pure false:=by
 cases e<;>rfl
theorem zd:swappedStores [.Subscript o b sp] e env=pure none:=by
 cases e<;>rfl
section
variable {X:Cx} {Γ:gH} {c:Cz} {pn:List Nat}
theorem wc{H H0:Hp}{g g0:Gh}{ρ:Ro}{i:Nat}{up:D->D}{xs:List V}{x:KD}{Dn:i4}(hpd:mJ es r hd ds dx x=some (hd',ds'))(nd:mF K H g F ρ σ i k es r hd ds up a o xs F')(ev:Evo g0 H0 g H F)(se:SE K (g.plus F) ρ σ H)(vr:VR1 K H g F x.1 x.2 v F)(ry:Rp K H S dx y)(q:EndM K pn g0 H0 σ Dn (.nx (ρ.set i (some ⟨false,k,up (.nd hd' ds')⟩)))) :
  (∃z j,hd=.lst/\y=.int z/\o=.lst xs/\H a=some o/\ir xs.length z=some j/\Dn.nx σ (upd H a (.lst (xs.set j v)))):=by
 have hF:∀b,F b->g b=none:=λb z=>(ev.tmp b z).1;have mm:MuOk H (Sx g F):=λb z=>se.mu b ((ai b).mpr z);have sub:∀(F2:Pr),(∀b,F2 b->F b)->∀b,Sg (g.give F2 i) b->Sg (g.plus F) b:=λF2 s2 b z=>(ai b).mpr ((give_S.mp z).imp id (s2 b))
 have fin:∀{kc:Ow},cP kc x=true->∃F2:Pr,(∀b,F2 b->F b)/\Tr K H (Sg (g.give F2 i)) x.2 kc v F2/\(∀b,F' b->¬F2 b):=λ{kc} hf=>by
  obtain⟨F2,a1,a2⟩:=VR1.fit (p:=x) hf mm hF (λb z=>z) vr;refine⟨F2,a1,a2 _ λb z=>?_,λb z1 z2=>by have:=nd.lab b z1;rw[hF b (a1 b z2)] at this;cases this⟩;exact(give_S.mp z).elim (λz=>.inr (.inl z)) λz=>.inr (.inr (.inl z))
 have out:∀{o':HO} {F2:Pr},(∀b,F2 b->F b)->SE K (g.give F2 i) (ρ.set i (some ⟨false,k,up (.nd hd' ds')⟩)) σ (upd H a o')->Dn.nx σ (upd H a o'):=λ{o' F2} s2 s=>q σ _ _ (ev.give s2 nd.own) s PinOk.refl;unfold mJ at hpd;split at hpd
 ·split at hpd
  ·rename_i z;split at hpd
   ·rename_i j hj;split at hpd
    ·rename_i hf;cases hpd;obtain⟨F2,b1,b2,b3⟩:=fin hf;have ho:o=.lst xs:=nd.ok;have hlen:=nd.kids.len;have hj':j<ds.length:=(lV hj).2.1;obtain⟨F3,c1,c2⟩:=(nd.kids.go (S':=Sg (g.give F2 i)) (λ_ _ _ e=>e) λb o _ n z=>n (sub F2 b1 b z)).setAt hj' b2 b3;exact⟨z,j,rfl,ry.int,ho,nd.at_,by rw[hlen];exact hj,out b1 (nd.put (.lst (xs.set j v)) .lst _ _ F2 F3 rfl rfl (λxs h=>by cases h) b1 c1 c2)⟩
    ·cases hpd
   ·cases hpd
  ·cases hpd
 ·cases hpd
theorem E9(O:al X Γ c){f:Ro->MR}{i:Nat}{fp:Ro->Option (Ow×D×(D->D))}{fk:Ro->Option KD}{b k e:Expr}{sp pos:Pos}(hf:a8 X f e)(hp:nX X i fp b)(hk:SndE X fk k)(hpl:cQ k=true)(hn:e6 e=true):dX X pn (λρ=>sZ i fp fk (f ρ)) (.Assign [.Subscript b k sp] e pos):=by
 intro ρ r h g σ H Dn se q;dsimp only[sZ] at h;split at h
 ·rename_i kd d ρ1 he;split at h
  ·rename_i es r0 hd ds up kx dx kk d0 ep ek ei;split at h
   ·rename_i hd' ds' hpd;cases h
    have mu:hd.mu=true:=by
     cases hd with
     |tup=>simp[mJ] at hpd
     |_=>rfl
    have core:∀v g1 H1 F,Evo g H g1 H1 F->SE X.K (g1.plus F) ρ1 σ H1->VR1 X.K H1 g1 F kd d v F->∀v1 H2 w Fi k' d',Same H1 H2->ρ1[i]?=some (some ⟨false,k',d'⟩)->σ[i]?=some (some w)->(∀b,Fi b->(g1.plus F) b=some (some i))->FP X.K H2 (Sg (g1.plus F)) k' w Fi (.own es r0) (.nd hd ds) v1 up->∀y H3,Same H2 H3->VR X.K (g1.plus F) H2 H3 kx dx y->
      ∃a o xs F',v1=.ref a/\mF X.K H3 g1 F ρ1 σ i kk es r0 hd ds up a o xs F'/\(∃z j,hd=.lst/\y=.int z/\o=.lst xs/\H3 a=some o/\ir xs.length z=some j/\Dn.nx σ (upd H3 a (.lst (xs.set j v)))):=by
     intro v g1 H1 F ev se1 vr v1 H2 w Fi k' d' s2 ei' ew lb fp1 y H3 s3 ry;rw[ei] at ei';cases ei';have sQ:=s2.trans s3;have se3:=se1.same sQ;have ev3:Evo g H g1 H3 F:=⟨λb o n e=>sQ _ _ (ev.keep b o n e),ev.out,ev.new,ev.tmp,λb o e=>let ⟨o',q1⟩:=ev.dom b o e;⟨o',sQ _ _ q1⟩⟩;obtain⟨a,o,xs,F',rfl,nd⟩:=FP.node se3 (λb z=>(ev.tmp b z).1) ei ew lb (fp1.same s3) mu;exact⟨a,o,xs,F',rfl,nd,wc (x:=(bW kd d,d)) hpd nd ev3 se3 ((vr.im se1.mu).go sQ λ_ _ _ z=>z) ry.rd q⟩
    cases hd with
    |lst=>
     refine cJ (oZ au (AJ au au ui (by intro v;cases k<;>first|rfl|cases hpl)) tf zd) ?_
     refine hf ρ _ _ _ he g σ H _ se λv g1 H1 F ev se1 vr=>hp ρ1 _ _ _ ep (g1.plus F) σ H1 _ se1 λv1 H2 w Fi k' d' s2 ei' ew lb fp1=>hk ρ1 _ _ ek (g1.plus F) σ H2 _ (se1.same s2) λy H3 s3 ry=>?_;obtain⟨a,o,xs,F',rfl,nd,fin⟩:=core v g1 H1 F ev se1 vr v1 H2 w Fi k' d' s2 ei' ew lb fp1 y H3 s3 ry;obtain⟨z,j,_,rfl,rfl,g3,hj,fin⟩:=fin
     ·exact⟨a,xs,z,j,rfl,rfl,g3,hj,fin⟩
    |dic t ks=>simp[mJ] at hpd
    |tup=>cases mu
    |obj c ns=>simp[mJ] at hpd
   ·cases h
  ·cases h
 ·cases h
end
end J
namespace J
open PySem PySem.Spec L2
mutual
inductive IS where
 |asg (i:Nat) (a:ME)
 |unp (is:List Nat) (a:ME)
 |aug (i:Nat) (op:Operator) (a:ME)
 |put (b:BP) (k:IE) (a:ME)
 |putF (c:Str) (b:BP) (f:Str) (a:ME)
 |putM (i:Nat) (as:iL)
 |par (i j:Nat) (es:fN)
 |ret (a:ME)
 |retN
 |ifs (t:MT) (a b:bN)
 |fo (fg:List Nat) (tg:IT) (it:MI) (b:bN)
 |wh (fg:List Nat) (t:MT) (b:bN)
 |pas
 |brk
 |cnt
 |exp (a:ME)
 |pre (is:List Nat) (s:IS)
 |fap (i x:Nat) (v:Int)
 |stk
inductive bN where
 |nil
 |cons (s:IS) (r:bN)
end
mutual
noncomputable def eQ(Γ:GG)(N:Nat):IS->List Nat->Ro->Option Res
 |.asg i a,pn,ρ=>pR pn i (aF Γ a ρ)
 |.unp is a,pn,ρ=>vX pn is (aF Γ a ρ)
 |.aug i op a,pn,ρ=>wb pn i op ρ[i]? (aF Γ a ρ)
 |.put b k a,_,ρ=>sZ b.slot (lr Γ.fn b) (aa Γ.fn k) (aF Γ a ρ)
 |.putF c b f a,_,ρ=>none
 |.putM i as,_,ρ=>none
 |.par i j es,pn,ρ=>none
 |.ret a,_,ρ=>vZ (aF Γ a ρ)
 |.retN,_,ρ=>none
 |.ifs t a b,pn,ρ=>v4 (aU Γ t ρ) (aB Γ N a pn) (aB Γ N b pn)
 |.fo fg tg it b,pn,ρ=>og pn fg tg (aB Γ N b) (bR Γ it ρ)
 |.wh fg t b,pn,ρ=>iN fg (aU Γ t) (aB Γ N b pn) N ρ
 |.pas,_,ρ=>some (.nx ρ)
 |.brk,_,ρ=>none
 |.cnt,_,ρ=>none
 |.exp a,_,ρ=>v3 (aF Γ a ρ)
 |.pre is s,pn,ρ=>none
 |.fap i x v,pn,ρ=>none
 |.stk,_,_=>none
noncomputable def aB(Γ:GG)(N:Nat):bN->List Nat->Ro->Option Res
 |.nil,_,ρ=>some (.nx ρ)
 |.cons s r,pn,ρ=>v5 (eQ Γ N s pn ρ) (aB Γ N r pn)
end
section
theorem ze{N:Nat}:eQ Γ N (.asg i a) pn ρ=pR pn i (aF Γ a ρ):=rfl
theorem rG{N:Nat}:eQ Γ N (.unp is a) pn ρ=vX pn is (aF Γ a ρ):=rfl
theorem rH{N:Nat}:eQ Γ N (.aug i op a) pn ρ=wb pn i op ρ[i]? (aF Γ a ρ):=rfl
theorem zf{Γ:GG}{N:Nat}:eQ Γ N (.put b k a) z0 ρ=sZ b.slot (lr Γ.fn b) (aa Γ.fn k) (aF Γ a ρ):=rfl
theorem zg{N:Nat}:eQ Γ N (.ret a) z0 ρ=vZ (aF Γ a ρ):=rfl
theorem rJ{N:Nat}:eQ Γ N (.ifs t a b) pn ρ=v4 (aU Γ t ρ) (aB Γ N a pn) (aB Γ N b pn):=rfl
theorem pT{N:Nat}:eQ Γ N (.fo fg tg it b) pn ρ=og pn fg tg (aB Γ N b) (bR Γ it ρ):=rfl
theorem Co{N:Nat}:eQ Γ N (.wh fg t b) pn ρ=iN fg (aU Γ t) (aB Γ N b pn) N ρ:=rfl
theorem zh{N:Nat}:eQ Γ N (.exp a) z0 ρ=v3 (aF Γ a ρ):=rfl
end
theorem e9{f:Ro->Option Res}(h:∀ρ,f ρ=none):dX X pn f e:=λρ r hh=>by rw[h] at hh;cases hh
structure An where
 fg:Nat->List Nat:=λ_=>[]
 pz:Nat->List Nat:=λ_=>[]
 fa:Nat->Bool:=λ_=>false
 sk:Nat->Bool:=λ_=>false
noncomputable def pU(f:Stmt->Option IS):List Stmt->Option bN
 |[]=>some .nil
 |s::r=>match f s,pU f r with|some a,some b=>some (.cons a b)|_,_=>none
noncomputable def pV:Stmt->Nat
 |.Assign _ _ p=>p.line
 |.AugAssign _ _ _ p=>p.line
 |.Return _ p=>p.line
 |.Expr _ p=>p.line
 |.If _ _ _ p=>p.line
 |.For _ _ _ _ p=>p.line
 |.While _ _ _ p=>p.line
 |.Raise _ _ p=>p.line
 |.Try _ _ _ _ p=>p.line
 |.Delete _ p=>p.line
 |_=>0
noncomputable def rK:Expr->Bool
 |.ListComp _ gs _ _=>(match gs with|[]=>false|g::gs=>(match gs with|[]=>g.is_async==0|_::_=>false))
 |_=>false
noncomputable def Ac(l:List Nat)(s:Option IS):Option IS:=match l,s with
 |[],s=>s
 |l,some s=>some (.pre l s)
 |_,none=>none
noncomputable def Ad:Expr->Bool
 |.Constant (.str _) _ _=>true
 |_=>false
noncomputable def Ae(f:Str):List (Str×List Str)->Option Str
 |[]=>none
 |(c,fs)::r=>if f∈fs then some c else Ae f r
noncomputable def Af(fns:Nms)(f:Str):Option Str:=match Ae f fns.cls with
 |some c=>(match fns.cls.lookup c with|some fs=>if f∈fs then some c else none|none=>none)
 |none=>none
noncomputable def zi(e:Expr):Option (Str×Pos):=match e with|.Name x p=>some (x,p)|_=>none
theorem rL{p:Str×Pos}(h:zi e=some p):e=.Name p.1 p.2:=by
 cases e with
 |Name x q=>cases h;rfl
 |_=>cases h
noncomputable def Fa(es:List Expr):Option ((Str×Pos)×Str×Pos):=match es with
 |[]=>none
 |a::es=>match es with
  |[]=>none
  |b::es=>match es with
   |_::_=>none
   |[]=>(zi a).bind λx=>(zi b).map λy=>(x,y)
theorem we{p:(Str×Pos)×Str×Pos}(h:Fa es=some p):es=[.Name p.1.1 p.1.2,.Name p.2.1 p.2.2]:=by
 cases es with
 |nil=>cases h
 |cons a es=>cases es with
  |nil=>cases h
  |cons b es=>cases es with
   |cons _ _=>cases h
   |nil=>
    obtain⟨x,e1,h⟩:=Lp.mp (show(zi a).bind _=some p from h);obtain⟨y,e2,rfl⟩:=aH h;rw[rL e1,rL e2]
noncomputable def Fb(e:Expr):Option ((Str×Pos)×Str×Pos):=match e with|.Tuple vs _ _=>Fa vs|_=>none
theorem zj{p:(Str×Pos)×Str×Pos}(h:Fb e=some p):∃k q,e=.Tuple [.Name p.1.1 p.1.2,.Name p.2.1 p.2.2] k q:=by
 cases e with
 |Tuple vs k q=>exact⟨k,q,by rw[we (show Fa vs=some p from h)]⟩
 |_=>cases h
noncomputable def Fc(fns:Nms)(m:Nat)(c:Cz)(es:List Expr)(e:Expr):Option IS:=(Fa es).bind λt=>(Fb e).bind λv=>
 if v6 c t.1.1 t.2.1 v.1.1 t.1.2 t.2.2 then(bu t.1.1 c.N).bind λi=>(bu t.2.1 c.N).bind λj=>(dB (cE fns (m+1) c) [.Name v.1.1 v.1.2,.Name v.2.1 v.2.2]).map λes=>.par i j es else none
theorem zk{m:Nat}{c:Cz}(h:Fc fns m c es e=some a):∃x y z w px py pz pw k p i j ies,es=[.Name x px,.Name y py]/\e=.Tuple [.Name z pz,.Name w pw] k p/\v6 c x y z px py=true/\bu x c.N=some i/\bu y c.N=some j/\dB (cE fns (m+1) c) [.Name z pz,.Name w pw]=some ies/\a=.par i j ies:=by
 obtain⟨t,e1,h⟩:=Lp.mp (show(Fa es).bind _=some a from h);obtain⟨v,e2,h⟩:=Lp.mp h;obtain⟨k,q,e3⟩:=zj e2;by_cases hp:v6 c t.1.1 t.2.1 v.1.1 t.1.2 t.2.2=true
 ·rw[if_pos hp] at h;obtain⟨i,h1,h⟩:=Lp.mp h;obtain⟨j,h2,h⟩:=Lp.mp h;obtain⟨ies,h3,e4⟩:=aH h;exact⟨_,_,_,_,_,_,_,_,k,q,i,j,ies,we e1,e3,hp,h1,h2,h3,e4⟩
 ·rw[if_neg hp] at h;cases h
noncomputable def Ag(fns:Nms)(m:Nat)(c:Cz)(b k e:Expr):Option IS:=match b with
 |.Name z _=>(match d9 c z,lu (cM fns (m+1) c) (cE fns (m+1) c) [e,k] with|some i,some as=>some (.putM i as)|_,_=>none)
 |_=>none
noncomputable def Dm(fns:Nms)(m:Nat)(c:Cz)(ts:List Expr)(e:Expr):Option IS:=match ts with
 |[]=>none
 |t::ts=>match ts with
  |_::_=>none
  |[]=>match t with
   |.Name x _=>if l7 c x&&(e6 e||rK e) then(match bu x c.N,cM fns (m+1) c e with|some i,some a=>some (.asg i a)|_,_=>none) else none
   |.Tuple es _ _=>if vW e then(match vY c es,cM fns (m+1) c e with|some is,some a=>some (.unp is a)|_,_=>none) else Fc fns m c es e
   |.Subscript b k _=>if cQ k&&e6 e then(match z9 c (cE fns (m+1) c) 6 b,cE fns (m+1) c k,cM fns (m+1) c e with|some b,some k,some a=>some (.put b k a)|_,_,_=>Ag fns m c b k e) else none
   |.Attribute b z _=>if e6 e then(match Af fns z,z9 c (cE fns (m+1) c) 6 b,cM fns (m+1) c e with|some cl,some b,some a=>some (.putF cl b z a)|_,_,_=>none) else none
   |_=>none
noncomputable def Ie(fns:Nms)(m:Nat)(c:Cz)(t:Expr)(op:Operator)(e:Expr):Option IS:=match t with
 |.Name x _=>if l7 c x then(match bu x c.N,cM fns (m+1) c e with|some i,some a=>some (.aug i op a)|_,_=>none) else none
 |_=>none
noncomputable def Fd(c:Cz)(tg iter:Expr)(body:List Stmt):Option IS:=none
noncomputable def JE(fns:Nms)(an:An)(m:Nat)(c:Cz)(rec:List Stmt->Option bN)(tg iter:Expr)(body els:List Stmt)(p:Pos):Option IS:=match els with
 |_::_=>none
 |[]=>if an.fa p.line then Fd c tg iter body else if eA iter then(match oV c 4 tg,vU c (cM fns (m+1) c) (BA c (cE fns (m+1) c) tg iter) tg iter,rec body with|some t,some it,some b=>some (.fo (an.fg p.line) t it b)|_,_,_=>none) else none
noncomputable def Do(fns:Nms)(an:An)(m:Nat)(c:Cz)(rec:List Stmt->Option bN):Stmt->Option IS
 |.Assign ts e _=>Dm fns m c ts e
 |.AugAssign t op e _=>Ie fns m c t op e
 |.Return e _=>(match e with|some e=>(cM fns (m+1) c e).map .ret|none=>some .retN)
 |.Expr e _=>if Ad e then some .pas else if e6 e then(cM fns (m+1) c e).map .exp else none
 |.If t a b _=>(match tN fns (m+1) c t,rec a,rec b with|some t,some a,some b=>some (.ifs t a b)|_,_,_=>none)
 |.For tg iter body els p=>JE fns an m c rec tg iter body els p
 |.While t body els p=>(match els with|_::_=>none|[]=>(match tN fns (m+1) c t,rec body with|some t,some b=>some (.wh (an.fg p.line) t b)|_,_=>none))
 |.Pass _=>some .pas
 |.Break _=>some .brk
 |.Continue _=>some .cnt
 |_=>none
noncomputable def cS(fns:Nms)(an:An)(m:Nat)(c:Cz):Nat->Stmt->Option IS
 |0,_=>none
 |n+1,s=>if an.sk (pV s)=true then some .stk else Ac (an.pz (pV s)) (Do fns an m c (pU (cS fns an m c n)) s)
noncomputable abbrev cB(fns:Nms)(an:An)(m:Nat)(c:Cz)(n:Nat):List Stmt->Option bN:=pU (cS fns an m c n)
section
variable {X:Cx} {c:Cz} (fns:Nms) (Γ:GG)
theorem tj{x:Str}{n:Nat}:∃b:Bool,swapsWith (.ListComp elt [⟨tg,iter,ifs,0⟩] scope cp) (some (.Name x p)) n env=pure b:=⟨_,rfl⟩
theorem Cp(O:al X (dc fns Γ) c){m i:Nat}{x:Str}{e:Expr}{a:ME}{p pos:Pos}(hl:l7 c x=true)(hi:bu x c.N=some i)(hc:rK e=true)(ha:cM fns (m+1) c e=some a):dX X pn (λρ=>pR pn i (aF Γ a ρ)) (.Assign [.Name x p] e pos):=by
 have hs:∃elt tg iter ifs scope cp,e=.ListComp elt [⟨tg,iter,ifs,0⟩] scope cp:=by
  cases e with
  |ListComp elt gs scope cp=>cases gs with
   |nil=>cases hc
   |cons g gs=>cases gs with
    |cons _ _=>cases hc
    |nil=>
     cases g with
     |mk tg iter ifs as=>
      have h0:as=0:=eq_of_beq (show(as==0)=true from hc);subst h0;exact⟨_,_,_,_,_,_,rfl⟩
  |_=>cases hc
 obtain⟨elt,tg,iter,ifs,scope,cp,rfl⟩:=hs;have l:=jJ O hl;have hf:=(g8 fns Γ (m+1)).1 X c O _ _ ha;intro ρ r h g σ H Dn se q
 cases hf':aF Γ a ρ with
 |none=>dsimp only at h;rw[hf'] at h;cases h
 |some w=>
  obtain⟨kd,d,ρ1⟩:=w;dsimp only at h;rw[hf'] at h;obtain⟨b,hb⟩:=tj (elt:=elt) (tg:=tg) (iter:=iter) (ifs:=ifs) (scope:=scope) (cp:=cp) (p:=p) (x:=x) (n:=pos.line) (env:=X.env)
  cases b with
  |false=>exact cJ (t7 (i:=i) (by rw[O.N];exact O.nd) (by rw[O.N];exact bc hi) l.1 au hb l.2) (hf ρ kd d ρ1 hf' g σ H _ se λv g1 H1 F ev se1 vr=>j6 h q ev se1 vr)
  |true=>
   have fin:∀{hck:bx c scope=true} {hns:eA iter=true},iu (wI X tg iter) (λv σ H Q=>∀C s H0 ex,wG (aI X (ag scope) scope C s H0 ex) tg v σ H Q) (λσ H Q=>∀C s H0 ex,Dg (aI X (ag scope) scope C s H0 ex) ifs σ H Q) (λσ H Q=>∀C s H0 ex,wE (aI X (ag scope) scope C s H0 ex) elt σ H Q) (aA c scope) σ H (λv H1=>jA i v σ H1 Dn.nx)->Gu X (.Assign [.Name x p] (.ListComp elt [⟨tg,iter,ifs,0⟩] scope cp) pos) Dn σ H:=λ{hck hns} ht=>
    cJ (uF (N':=ag scope) (cap:=aA c scope) O.calm (ge O hck) xZ
     (λC s H0 ex pins s' σ' H' v u Q' I r hh=>ya pins s' σ' H' v u Q' I r (hh C s H0 ex)) (λC s H0 ex pins s' σ' H' Q' I hh=>hh C s H0 ex pins s' I) (λC s H0 ex pins s' σ' H' Q' I hh=>hh C s H0 ex pins s' I) (fA hns)
     (by rw[O.N];exact O.nd) (by rw[O.N];exact bc hi) l.1 l.2 hb) ht
   have post:∀v g' H' F,Evo g H g' H' F->SE X.K (g'.plus F) ρ1 σ H'->VR1 X.K H' g' F kd d v F->jA i v σ H' Dn.nx:=λv g1 H1 F ev se1 vr=>j6 h q ev se1 vr
   cases hce:cE fns m c (.ListComp elt [⟨tg,iter,ifs,0⟩] scope cp) with
   |some ie=>
    have ha2:some (ME.p ie)=some a:=by rw[<- ha];show _=(match cE fns m c _ with|some ie=>some (ME.p ie)|none=>_);rw[hce]
    cases ha2
    cases m with
    |zero=>cases(show(none:Option IE)=some _ from hce)
    |succ m=>
     have hie:EG fns c (cE fns m) (cT fns m) elt [⟨tg,iter,ifs,0⟩] scope cp=some ie:=hce;unfold EG at hie;dsimp only at hie;rw[if_pos rfl] at hie;split at hie
     ·rename_i hn;rw[Kn] at hn;split at hie
      ·rename_i t it ts el ht hit hts hel;cases hie;have pure:=dU (fm:=kP fns Γ) fns Γ.fn m;have CO:=fy O hn.2
       have hv:aa Γ.fn (.comp ((fns.an cp.line cp.col).getD Ow.fz) (aA c scope) t it ts el) ρ=some (kd,d)/\ρ1=ρ:=by
        rw[vS] at hf';unfold Gs at hf';split at hf'
        ·rename_i e';cases hf';exact⟨e',rfl⟩
        ·cases hf'
       obtain⟨hv,rfl⟩:=hv;rw[nQ] at hv
       exact fin (hck:=hn.2) (hns:=hn.1) (vi O hn.2 (vG fns Γ.fn O (pure.1 X c O) hit) ht (λC s H ex=>q8 Γ.fn (pure.2 _ _ (CO C s H ex)) hts) (λC s H ex=>pure.1 _ _ (CO C s H ex) _ _ hel) hv se λv H' s ⟨F,h1,h2⟩=>
        post v g H' F (cw s h1 λb z=>eB se.mu (h1 b z)) (se.plus s h1 h2.dom) h2)
      ·cases hie
     ·cases hie
   |none=>
    have ha2:sW fns c (cM fns m) (cE fns m) (tN fns m) elt [⟨tg,iter,ifs,0⟩] scope cp=some a:=by
     replace ha:(match cE fns m c (.ListComp elt [⟨tg,iter,ifs,0⟩] scope cp) with|some ie=>some (ME.p ie)|none=>sW fns c (cM fns m) (cE fns m) (tN fns m) elt [⟨tg,iter,ifs,0⟩] scope cp)=some a:=ha
     rw[hce] at ha;exact ha
    obtain⟨tg',iter',ifs',t,it,ts,el,hq,hn1,hn2,ht,hit,hts,hel,rfl⟩:=rC fns ha2;cases hq;have pure:=dU (fm:=kP fns Γ) fns Γ.fn m;have CO:=fy O hn2;rw[nZ] at hf'
    first|(cases hf';done)|exact fin (hck:=hn2) (hns:=hn1) (rm O hn2 (pP fns Γ O ((g8 fns Γ m).1 X c O) (pure.1 X c O) hit) ht (λC s H ex=>n4 Γ ((g8 fns Γ m).2 _ _ (CO C s H ex)) hts) (λC s H ex=>(g8 fns Γ m).1 _ _ (CO C s H ex) _ _ hel) hf' se post)
theorem mK{f:Stmt->Option IS}{N:Nat}(hf:∀s a,f s=some a->∀pn,dX X pn (eQ Γ N a pn) s):∀{st:List Stmt} {b:bN},pU f st=some b->∀pn,jg X pn (aB Γ N b pn) st
 |[],b,h,pn=>by
  cases h;rw[show aB Γ N .nil pn=λρ=>some (.nx ρ) by funext ρ;rw[aB]];exact E6
 |s::st,b,h,pn=>by
  unfold pU at h;split at h
  ·rename_i a r ha hr;cases h
   rw[show aB Γ N (.cons a r) pn=λρ=>v5 (eQ Γ N a pn ρ) (aB Γ N r pn) by funext ρ;conv=>lhs;rw[aB]]
   exact Ck (hf s a ha pn) (mK hf hr pn)
  ·cases h
theorem Ig(O:al X (dc fns Γ) c){m N:Nat}{ts:List Expr}{e:Expr}{pos:Pos}{a:IS}(h:Dm fns m c ts e=some a)(pn:List Nat):dX X pn (eQ Γ N a pn) (.Assign ts e pos):=by
 have hM:=(g8 fns Γ (m+1)).1 X c O;have hE:=(dU (fm:=kP fns Γ) fns Γ.fn (m+1)).1 X c O
 cases ts with
 |nil=>cases h
 |cons t ts=>cases ts with
  |cons _ _=>cases h
  |nil=>cases t with
   |Name x p=>
    dsimp only[Dm] at h;split at h
    ·rename_i hl;rw[Kn,K8] at hl;split at h
     ·rename_i i a' hi ha;cases h;rw[show eQ Γ N (.asg i a') pn=λρ=>pR pn i (aF Γ a' ρ) from funext λ_=>rfl];rcases hl.2 with hc|hc
      ·exact EZ O hl.1 hi hc (hM _ _ ha)
      ·exact Cp fns Γ O hl.1 hi hc ha
     ·cases h
    ·cases h
   |Tuple es k p=>
    dsimp only[Dm] at h;split at h
    ·rename_i hn;split at h
     ·rename_i is a' his ha;cases h
      first|(exact e9 λ_=>rfl)|(rw[show eQ Γ N (.unp is a') pn=λρ=>vX pn is (aF Γ a' ρ) from funext λ_=>rfl];exact E1 O (hM _ _ ha) his hn)
     ·cases h
    ·obtain⟨x,y,z,w,px,py,pz,pw,k2,p2,i,j,ies,rfl,rfl,hp,h1,h2,h3,rfl⟩:=zk h
     first|(exact e9 λ_=>rfl)|(rw[show eQ Γ N (.par i j ies) pn=λρ=>oPar pn i j (aG Γ.fn ies ρ) ρ from funext λ_=>rfl];exact s_par O (fC Γ.fn hE h3).1 h1 h2 hp)
   |Subscript b k p=>
    dsimp only[Dm] at h;split at h
    ·rename_i hn;rw[Kn] at hn;split at h
     ·rename_i b' k' a' hb hk ha;cases h
      first|(exact e9 λ_=>rfl)|(rw[show eQ Γ N (.put b' k' a') pn=λρ=>sZ b'.slot (lr Γ.fn b') (aa Γ.fn k') (aF Γ a' ρ) from funext λ_=>rfl];exact E9 O (hM _ _ ha) (sX Γ O hE _ hb) (hE _ _ hk) hn.1 hn.2)
     ·unfold Ag at h;split at h
      ·split at h
       ·rename_i i as hi has;cases h
        first|(exact e9 λ_=>rfl)|(rw[show eQ Γ N (.putM i as) pn=λρ=>oPutM i ρ[i]? (aX Γ as ρ) from funext λ_=>rfl];exact s_putM O (lx Γ hM hE has) hi hn.1 hn.2)
       ·cases h
      ·cases h
    ·cases h
   |Attribute b z p=>
    dsimp only[Dm] at h;split at h
    ·rename_i hn;split at h
     ·rename_i cl b' a' hcl hb ha;cases h
      have hok:∀C,Mu X.K mainGlobals cl=some (some (.ref C))->Hj X.K C/\o8 X.K C z:=λC hC=>by
       unfold Af at hcl;split at hcl
       ·split at hcl
        ·rename_i fs hfs;split at hcl
         ·rename_i hz;cases hcl;obtain⟨h1,h2⟩:=O.tab.cf cl fs C hfs hC;exact⟨h1,h2 z hz⟩
         ·cases hcl
        ·cases hcl
       ·cases hcl
      first|(exact e9 λ_=>rfl)|(rw[show eQ Γ N (.putF cl b' z a') pn=λρ=>oPutF b'.slot cl z (lr Γ.fn b') (aF Γ a' ρ) from funext λ_=>rfl];exact s_putF hok (hM _ _ ha) (sX Γ O hE _ hb) (mI hn))
     ·cases h
    ·cases h
   |_=>cases h
theorem Ih(O:al X (dc fns Γ) c){m N:Nat}{t:Expr}{op:Operator}{e:Expr}{pos:Pos}{a:IS}(h:Ie fns m c t op e=some a)(pn:List Nat):dX X pn (eQ Γ N a pn) (.AugAssign t op e pos):=by
 have hM:=(g8 fns Γ (m+1)).1 X c O
 cases t with
 |Name x p=>
  dsimp only[Ie] at h;split at h
  ·rename_i hl;split at h
   ·rename_i i a' hi ha;cases h
    first|(exact e9 λ_=>rfl)|(rw[show ∀op,eQ Γ N (.aug i op a') pn=λρ=>wb pn i op ρ[i]? (aF Γ a' ρ) by intro op;exact funext λ_=>rfl];exact E8 O hl hi (hM _ _ ha))
   ·cases h
  ·cases h
 |_=>cases h
theorem Cq(O:al X Γt c)(hp:PassesOwn (model X.prog X.w) X.A X.env X.xe){N:Nat}{tg iter:Expr}{body:List Stmt}{pos:Pos}{a:IS}(h:Fd c tg iter body=some a)(pn:List Nat):dX X pn (eQ Γ N a pn) (.For tg iter body [] pos):=by cases h
theorem wf(O:al X (dc fns Γ) c)(hp:PassesOwn (model X.prog X.w) X.A X.env X.xe){an:An}{m N:Nat}:∀(n:Nat) {s:Stmt} {a:IS},cS fns an m c n s=some a->∀pn,dX X pn (eQ Γ N a pn) s
 |0,s,a,h,pn=>by cases h
 |n+1,s,a,h,pn=>by
  have hM:=(g8 fns Γ (m+1)).1 X c O;have hT:=(g8 fns Γ (m+1)).2 X c O;have hE:=(dU (fm:=kP fns Γ) fns Γ.fn (m+1)).1 X c O;have hB:∀{st:List Stmt} {b:bN},pU (cS fns an m c n) st=some b->∀pn,jg X pn (aB Γ N b pn) st:=λh=>mK Γ (λs a h=>wf O hp n h) h
  have main:∀{a:IS},Do fns an m c (pU (cS fns an m c n)) s=some a->dX X pn (eQ Γ N a pn) s:=λ{a} h=>by
   cases s with
   |Assign ts e pos=>exact Ig fns Γ O h pn
   |AugAssign t op e pos=>exact Ih fns Γ O h pn
   |Return e pos=>cases e with
    |some e=>
     obtain⟨a',ha,rfl⟩:=aH (show(cM fns (m+1) c e).map .ret=some a from h)
     first|(exact e9 λ_=>rfl)|(rw[show eQ Γ N (.ret a') pn=λρ=>vZ (aF Γ a' ρ) from funext λ_=>rfl];exact E2 (hM _ _ ha))
    |none=>
     cases h
     first|(exact e9 λ_=>rfl)|(rw[show eQ Γ N .retN pn=λρ=>some (.rt .sh .non ρ) from funext λ_=>rfl];exact s_retN)
   |Expr e pos=>
    dsimp only[Do] at h;split at h
    ·rename_i hd;cases h;rw[show eQ Γ N .pas pn=λρ=>some (.nx ρ) from funext λ_=>rfl];unfold Ad at hd;split at hd
     ·exact E4
     ·cases hd
    ·split at h
     ·rename_i hn;obtain⟨a',ha,rfl⟩:=aH h
      first|(exact e9 λ_=>rfl)|(rw[show eQ Γ N (.exp a') pn=λρ=>v3 (aF Γ a' ρ) from funext λ_=>rfl];exact E3 hn (hM _ _ ha))
     ·cases h
   |If t x y pos=>
    dsimp only[Do] at h;split at h
    ·rename_i t' a' b' ht ha hb;cases h
     first|(exact e9 λ_=>rfl)|(rw[show eQ Γ N (.ifs t' a' b') pn=λρ=>v4 (aU Γ t' ρ) (aB Γ N a' pn) (aB Γ N b' pn) by exact funext λ_=>rfl];exact E5 (hT _ _ ht) (hB ha pn) (hB hb pn))
    ·cases h
   |For tg iter body els pos=>cases els with
    |cons _ _=>cases h
    |nil=>
     dsimp only[Do,JE] at h;split at h
     ·exact Cq Γ O hp h pn
     ·split at h
      ·rename_i hn;split at h
       ·rename_i t' it' b' ht hit hb;cases h
        first|(exact e9 λ_=>rfl)|(rw[show ∀fg,eQ Γ N (.fo fg t' it' b') pn=λρ=>og pn fg t' (aB Γ N b') (bR Γ it' ρ) by intro fg;exact funext λ_=>rfl];exact Cm O hp ht (pP fns Γ O hM hE hit) (hB hb) hn)
       ·cases h
      ·cases h
   |While t body els pos=>cases els with
    |cons _ _=>cases h
    |nil=>
     dsimp only[Do] at h;split at h
     ·rename_i t' b' ht hb;cases h
      first|(exact e9 λ_=>rfl)|(rw[show ∀fg,eQ Γ N (.wh fg t' b') pn=iN fg (aU Γ t') (aB Γ N b' pn) N by intro fg;exact funext λ_=>rfl];exact E7 hp (hT _ _ ht) (hB hb pn) N)
     ·cases h
   |Pass pos=>
    cases h
    first|(exact e9 λ_=>rfl)|(rw[show eQ Γ N .pas pn=λρ=>some (.nx ρ) from funext λ_=>rfl];exact Cl)
   |Break pos=>
    cases h
    first|(exact e9 λ_=>rfl)|(rw[show eQ Γ N .brk pn=λρ=>some (.bk ρ) from funext λ_=>rfl];exact s_brk)
   |Continue pos=>
    cases h
    first|(exact e9 λ_=>rfl)|(rw[show eQ Γ N .cnt pn=λρ=>some (.ct ρ) from funext λ_=>rfl];exact s_cont)
   |_=>cases h
  unfold cS at h;by_cases hk:an.sk (pV s)=true
  ·rw[if_pos hk] at h;cases h;exact e9 λρ=>rfl
  rw[if_neg hk] at h;unfold Ac at h;split at h
  ·exact main h
  ·rename_i a' ha _;cases h
   first|(exact e9 λ_=>rfl)|(rw[show ∀l,eQ Γ N (.pre l a') pn=λρ=>eQ Γ N a' pn (frzN l ρ) by intro l;exact funext λ_=>rfl];exact s_pre _ (main ha))
  ·cases h
end
end J
namespace J
open PySem PySem.Spec L2
noncomputable def Le{α:Type}(a b:Option α):Prop:=∀r,a=some r->b=some r
theorem Le.refl{α:Type}(a:Option α):Le a a:=λ_ h=>h
structure TabF(P:Program)(w:World)(K:Km)(mg:Str->Option Value)(base:Heap)(Γ:gH)(k:Nat):Prop where
 fn:∀x φ,Γ.fn x=some φ->(∃f fd ps,FnOk P w K mg base qE k f fd ps (xG K φ)/\mg x=some (.ref f)/\Lo K (.ref f)=true/\Binds K fd ps []/\(x==("__debug__":Str))=false)\/
  False
 cf:∀c fs C,Γ.cf c=some fs->Mu K mainGlobals c=some (some (.ref C))->Hj K C/\∀a∈fs,o8 K C a
 fm:∀x sp,Γ.fm x=some sp->∃f fd ps,FnOk P w K mg base qE k f fd ps (sp K)/\mg x=some (.ref f)/\Lo K (.ref f)=true/\Binds K fd ps []/\(x==("__debug__":Str))=false
 bl:∀x∈aq,mg x=none
 cst:∀x d,Γ.cst x=some d->∃u v,mg x=some u/\RelV v u/\(∀H S,Rp K H S d v)/\(x==("__debug__":Str))=false
noncomputable def mM(k:Nat)(ks:List jf):Ro:=ks.map Dh++List.replicate (k-ks.length) none
noncomputable def Fe(d:D):jf:=(.fz,d)
noncomputable def hJ(r:Option Res):Option KD:=match r with
 |some (.rt kd d _)=>if bp kd=true then none else some (kd,d)
 |some (.nx _)=>some (.sh,.non)
 |_=>none
noncomputable def cy(Γ:GG)(N m k:Nat)(body:bN)(ds:List D):Option KD:=if ds.length=m then hJ (aB Γ N body [] (mM k (ds.map Fe))) else none
noncomputable def outs(m:Nat)(pn:List Nat)(ρ:Ro):List (Option jf):=(KG m).map λj=>if j∈pn then(match ρ[j]? with|some (some ⟨false,k,d⟩)=>some (k,d)|_=>none) else none
noncomputable def j9(m:Nat)(pn:List Nat)(r:Option Res):Option (Kd×D×List (Option jf)):=match r with
 |some (.rt kd d ρ)=>if bp kd=true then none else some (kd,d,outs m pn ρ)
 |some (.nx ρ)=>some (.sh,.non,outs m pn ρ)
 |_=>none
noncomputable def hU(Γ:GG)(N m k:Nat)(pn:List Nat)(body:bN)(ks:List jf):Option (Kd×D×List (Option jf)):=if ks.length=m then j9 m pn (aB Γ N body pn (mM k ks)) else none
noncomputable def bL(fns:Nms)(an:An)(n:Nat)(N:List Str)(st:Stmt):Option bN:=cB fns an n ⟨ab st,N,λ_=>true⟩ n (bH st)
theorem lz{vs:List V}{i:Nat}(h:i<vs.length):(cm N vs)[i]?=(vs.map some)[i]?:=by
 unfold L2.cm;rw[LZ (by simpa using h)]
theorem wg{N:List Str}{ks:List jf}{vs:List V}(se:SE K g (ks.map Dh) (vs.map some) H)(hl:ks.length<=N.length):SE K g (mM N.length ks) (cm N vs) H:=by
 have hv:ks.length=vs.length:=by simpa using se.len
 refine⟨λi sl e=>?_,se.mu,?_⟩
 ·unfold mM at e;by_cases hi:i<ks.length
  ·rw[LZ (by simpa using hi)] at e;obtain⟨v,F,q1,q2,q3⟩:=se.slot i sl e;exact⟨v,F,by rw[lz (by rw[<- hv];exact hi)];exact q1,q2,q3⟩
  ·rw[Mn (by simpa using hi),Mv] at e
   split at e<;>cases e
 ·unfold mM L2.cm;simp only[K9,Kp,ML]
  lia
theorem Ff{ds:List D}{vs:List V}(r:RpL K H (Sg g) ds vs)(m:MuOk H (Sg g)):SE K g ((ds.map Fe).map Dh) (vs.map some) H:=by
 refine⟨λi sl e=>?_,m,by simp[r.len]⟩;rw[Kr,Kr] at e
 cases q:ds[i]? with
 |none=>rw[q] at e;cases e
 |some d=>
  rw[q] at e;cases e;obtain⟨v,e1,e2⟩:=r.getD q;exact⟨v,jq,by rw[Kr,e1];rfl,λ_ z=>z.elim,.fz e2⟩
theorem rM{g:Gh}{i:Nat}:g.re (λ_=>none) b≠some (some i):=λe=>by
 unfold Gh.re at e
 cases q:g b with
 |none=>rw[q] at e;cases e
 |some x=>cases x<;>(rw[q] at e;cases e)
theorem zm{g:Gh}(h:g b≠none):g.re (λ_=>none) b=some none:=by
 unfold Gh.re
 cases q:g b with
 |none=>exact absurd q h
 |some x=>cases x<;>rfl
theorem lA{K:Km}{g g':Gh}{H H':Hp}{F:Pr}(ev:Evo (g.re λ_=>none) H g' H' F):Same H H'/\(∀b,F b->H b=none)/\∀b,Sg g b->Sg g' b:=
 ⟨λb o e=>ev.keep b o (λi q=>rM q) e,λb z=>(ev.tmp b z).2.elim (λ⟨j,q⟩=>absurd q rM) id,λb z=>by rw[Sg,(ev.out b).mp (zm z)];simp⟩
section
variable {P:Program} {w:World} {K:Km} {mg:Str->Option Value} {base:Heap} {fns:Nms} {Γ:GG} {x qual:Str} {st:Stmt} {f:Addr} {fd:FuncData} {N ps:List Str} {k n M:Nat} {an:An} {body:bN}
theorem rN(F:Fun K x qual st f fd)(S:am N ps (ab st))(T:TabF P w K mg base (dc fns Γ) k)(hc:bL fns an n N st=some body) :
  FnOk P w K mg base qE (k+1) f fd ps (xG K (cy Γ M ps.length N.length body)):=by
 have hN:ps.length<=N.length:=by
  have:=congrArg LY S.pre;rw[La] at this
  lia
 refine F.ok S (λvs H Q E h=>?_) (λcdv A outer s H vs Q E hr h=>?_)
 ·obtain⟨ds,g,k',d,r,dm,hφ,q⟩:=h;unfold cy at hφ;split at hφ
  ·rename_i hl;rw[r.len,hl]
  ·cases hφ
 ·obtain⟨ds,g,k',d,r,dm,hφ,q⟩:=h;unfold cy at hφ;split at hφ
  ·rename_i hl
   have O:al (nh qE P w K mg base N qual (ab st) f cdv A outer s H E).nox (dc fns Γ) ⟨ab st,N,λ_=>true⟩:=
    ⟨rfl,rfl,λ_ _=>rfl,rfl,S.nd,⟨λy φ hy=>by
     rcases T.fn y φ hy with⟨g,gd,qs,h1,h2,h3,h4,h5⟩|z
     ·exact .inl ⟨k,g,gd,qs,h1,hr,h2,h3,h4,h5⟩
     ·exact z.elim,T.cf,λy φ hy=>by
     obtain⟨g,gd,qs,h1,h2,h3,h4,h5⟩:=T.fm y φ hy;exact⟨k,g,gd,qs,h1,hr,h2,h3,h4,h5⟩,T.bl,(by have h:=hr.un;exact Lw (KN (MZ (by decide:100<=200) _) (MU (LN _ _) 200)) h),hr.gd,T.cst⟩⟩
   have m0:MuOk H (Sg (g.re λ_=>none)):=λb z=>dm b ((nO b).mp z);have r0:RpL K H (Sg (g.re λ_=>none)) ds vs:=r.weak λb z=>(nO b).mp z;have se:=wg (N:=N) (Ff r0 m0) (by simpa[hl] using hN);have sb:jg _ [] (aB Γ M body []) (bH st):=mK Γ (λs is h=>wf fns Γ O PassesOwn.never n h) hc [];refine⟨_,g9,?_⟩;unfold hJ at hφ;split at hφ
   ·rename_i k2 d2 ρ2 hex;split at hφ
    ·cases hφ
    ·rename_i hb;cases hφ;refine sb _ _ hex _ (cm N vs) H _ se λv σ' g' H' F ev se' pk vr=>?_;obtain⟨p1,p2,p3⟩:=lA (K:=K) ev;exact q v H' p1 ⟨F,p2,vr.unlend (by simpa using hb) p3⟩
   ·rename_i ρ' hex;cases hφ;refine sb _ _ hex _ (cm N vs) H _ se λσ' g' H' ev se' pk=>?_;obtain⟨p1,p2,p3⟩:=lA (K:=K) ev;exact q .non H' p1 D0
   ·cases hφ
  ·cases hφ
theorem tq{m:Nat}{pn:List Nat}{ρ:Ro}{j:Nat}(h:((outs m pn ρ).map Di)[j]?=some (some sl)):j<m/\j∈pn/\ρ[j]?=some (some sl):=by
 unfold outs at h;rw[Kr,Kr] at h;by_cases hj:j<m
 ·rw[Mg hj] at h;simp only[Nr,Option.some.injEq] at h;split at h
  ·rename_i hp;split at h
   ·rename_i k d e;cases h;exact⟨hj,hp,e⟩
   ·cases h
  ·cases h
 ·rw[Lk (by simpa using hj)] at h;cases h
theorem wj{m:Nat}:(outs m pn ρ).length=m:=by simp[outs]
theorem zn(F:Fun K x qual st f fd)(S:am N ps (ab st))(T:TabF P w K mg base (dc fns Γ) k)(hc:bL fns an n N st=some body) :
  FnOk P w K mg base qE (k+1) f fd ps (z6 K (hU Γ M ps.length N.length pn body)):=by
 have hN:ps.length<=N.length:=by
  have:=congrArg LY S.pre;rw[La] at this
  lia
 refine F.ok S (λvs H Q E h=>?_) (λcdv A outer s H vs Q E hr h=>?_)
 ·obtain⟨ks,g,k',d,os,se,hφ,q⟩:=h;unfold hU at hφ;split at hφ
  ·rename_i hl;have:=se.len;simp only[Kp] at this;rw[<- this,hl]
  ·cases hφ
 ·obtain⟨ks,g,k',d,os,se,hφ,q⟩:=h;unfold hU at hφ;split at hφ
  ·rename_i hl;have hv:ks.length=vs.length:=by simpa using se.len
   have O:al (nh qE P w K mg base N qual (ab st) f cdv A outer s H E).nox (dc fns Γ) ⟨ab st,N,λ_=>true⟩:=
    ⟨rfl,rfl,λ_ _=>rfl,rfl,S.nd,⟨λy φ hy=>by
     rcases T.fn y φ hy with⟨g,gd,qs,h1,h2,h3,h4,h5⟩|z
     ·exact .inl ⟨k,g,gd,qs,h1,hr,h2,h3,h4,h5⟩
     ·exact z.elim,T.cf,λy φ hy=>by
     obtain⟨g,gd,qs,h1,h2,h3,h4,h5⟩:=T.fm y φ hy;exact⟨k,g,gd,qs,h1,hr,h2,h3,h4,h5⟩,T.bl,(by have h:=hr.un;exact Lw (KN (MZ (by decide:100<=200) _) (MU (LN _ _) 200)) h),hr.gd,T.cst⟩⟩
   have se0:=wg (N:=N) se (by rw[hl];exact hN);have sb:jg _ pn (aB Γ M body pn) (bH st):=mK Γ (λs is h=>wf fns Γ O PassesOwn.never n h) hc pn
   have fin:∀{g':Gh} {H':Hp} {F:Pr} {σ':L2.St} {ρ':Ro},SE K (g'.plus F) ρ' σ' H'->PinOk pn (cm N vs) σ'->SE K (g'.plus F) ((outs ps.length pn ρ').map Di) (vs.map some) H':=λ{g' H' F σ' ρ'} s1 pk=>by
    refine⟨λj sl e=>?_,s1.mu,by simp[wj,<- hv,hl]⟩;obtain⟨h1,h2,h3⟩:=tq e;obtain⟨v,Fj,q1,q2,q3⟩:=s1.slot j sl h3;exact⟨v,Fj,by rw[<- q1,pk j h2,lz (by rw[<- hv,hl];exact h1)],q2,q3⟩
   refine⟨_,g9,?_⟩;unfold j9 at hφ;split at hφ
   ·rename_i k2 d2 ρ2 hex;split at hφ
    ·cases hφ
    ·rename_i hb;cases hφ;exact sb _ _ hex _ (cm N vs) H _ se0 λv σ' g' H' F ev se' pk vr=>q v g' H' F ev (fin se' pk) vr
   ·rename_i ρ' hex;cases hφ;refine sb _ _ hex _ (cm N vs) H _ se0 λσ' g' H' ev se' pk=>q .non g' H' jq ev (fin (by rw[aN λ_ z=>z];exact se') pk) ⟨λ_ z=>z,by unfold Rp;rfl⟩
   ·cases hφ
  ·cases hφ
end
noncomputable def om{α:Type}(Γ:Nat->Option α)(i:Nat)(φ:α):Nat->Option α:=λj=>if j=i then some φ else Γ j
noncomputable abbrev GG.addI(Γ:GG)(i:Nat)(φ:Fn):GG:=⟨om Γ.fn i φ,Γ.fm⟩
noncomputable abbrev GG.addM(Γ:GG)(i:Nat)(φ:Fm):GG:=⟨Γ.fn,om Γ.fm i φ⟩
theorem wl{φ ψ:Fn}(h:∀ds,Le (ψ ds) (φ ds)){vs:List V}{H:Hp}{Q:VK}{E:XK}(s:xG K ψ vs H Q E):xG K φ vs H Q E:=by
 obtain⟨ds,S,k,d,h1,h2,h3,h4⟩:=s;exact⟨ds,S,k,d,h1,h2,h ds _ h3,h4⟩
theorem Cr{φ ψ:Fm}(h:∀ds,Le (ψ ds) (φ ds)){vs:List V}{H:Hp}{Q:VK}{E:XK}(s:z6 K ψ vs H Q E):z6 K φ vs H Q E:=by
 obtain⟨ks,g,kd,d,os,h1,h2,h3⟩:=s;exact⟨ks,g,kd,d,os,h1,h ks _ h2,h3⟩
section
variable {P:Program} {w:World} {K:Km} {mg:Str->Option Value} {base:Heap} {fns:Nms} {Γ:GG} {x qual:Str} {st:Stmt} {f:Addr} {fd:FuncData} {N ps:List Str} {k n M i:Nat} {an:An} {body:bN}
theorem TabF.up(T:TabF P w K mg base (dc fns Γ) k):TabF P w K mg base (dc fns Γ) (k+1):=
  ⟨λy φ hy=>by
    rcases T.fn y φ hy with⟨g,gd,qs,h1,h2,h3,h4,h5⟩|z
    · exact .inl ⟨g,gd,qs,h1.mono (LD k),h2,h3,h4,h5⟩
    · exact z.elim,T.cf,
   λy φ hy=>by obtain⟨g,gd,qs,h1,h2,h3,h4,h5⟩:=T.fm y φ hy;exact⟨g,gd,qs,h1.mono (LD k),h2,h3,h4,h5⟩,T.bl,T.cst⟩
theorem TabF.addI{ψ:Fn}(T:TabF P w K mg base (dc fns Γ) k)(F:Fun K x qual st f fd)(S:am N ps (ab st))(hm:mg x=some (.ref f))(hb:Binds K fd ps [])(hd:(x==("__debug__":Str))=false)
  (hi:fns.fns[i]?=some x) (hc:bL fns an n N st=some body) (hψ:∀ds,Le (ψ ds) (cy Γ M ps.length N.length body ds)):TabF P w K mg base (dc fns (Γ.addI i ψ)) (k+1):=by
 refine⟨λy φ hy=>?_,T.cf,T.up.fm,T.bl,T.cst⟩;have hy:(bu y fns.fns).bind (om Γ.fn i ψ)=some φ:=hy
 cases hj:bu y fns.fns with
 |none=>rw[hj] at hy;cases hy
 |some j=>
  rw[hj] at hy;have hy':om Γ.fn i ψ j=some φ:=hy;unfold om at hy';split at hy'
  ·rename_i e;subst e;cases hy'
   have hyx:y=x:=by
    have:=bc hj;rw[hi] at this;exact(Option.some.inj this).symm
   subst hyx;exact .inl ⟨f,fd,ps,(rN (n:=n) (an:=an) (M:=M) F S T hc).imp λvs H Q E s=>wl hψ s,hm,F.kp,hb,hd⟩
  ·exact T.up.fn y φ (by show(bu y fns.fns).bind Γ.fn=_;rw[hj];exact hy')
theorem TabF.addM{ψ:Fm}(T:TabF P w K mg base (dc fns Γ) k)(F:Fun K x qual st f fd)(S:am N ps (ab st))(hm:mg x=some (.ref f))(hb:Binds K fd ps [])(hd:(x==("__debug__":Str))=false)(hi:fns.fns[i]?=some x)(hc:bL fns an n N st=some body)(hψ:∀ds,Le (ψ ds) (hU Γ M ps.length N.length pn body ds)):TabF P w K mg base (dc fns (Γ.addM i ψ)) (k+1):=by
 refine⟨T.up.fn,T.cf,λy sp hy=>?_,T.bl,T.cst⟩;have hy:(bu y fns.fns).bind (λj=>(om Γ.fm i ψ j).map λφ=>λK=>z6 K φ)=some sp:=hy
 cases hj:bu y fns.fns with
 |none=>rw[hj] at hy;cases hy
 |some j=>
  rw[hj] at hy;obtain⟨φ,hy',rfl⟩:=aH (show(om Γ.fm i ψ j).map _=some sp from hy);unfold om at hy';split at hy'
  ·rename_i e;subst e;cases hy'
   have hyx:y=x:=by
    have:=bc hj;rw[hi] at this;exact(Option.some.inj this).symm
   subst hyx;exact⟨f,fd,ps,(zn (n:=n) (an:=an) (M:=M) (pn:=pn) F S T hc).imp λvs H Q E s=>Cr hψ s,hm,F.kp,hb,hd⟩
  ·exact T.up.fm y _ (by show kP fns Γ y=_;unfold kP;rw[hj,Lr,hy'];rfl)
end
theorem Cs{ns:List Int}(hS:SqL K H a (ns.map V.int))(h:φ [.scr ns]=some (.sh,.bl true)):xG K φ [.ref a] H (λv _=>v=.bl true) λ_ _ _=>False:=by
 refine⟨[.scr ns],λ_=>none,.sh,.bl true,.cons ?_ .nil,λb z=>absurd rfl z,h,λv H' _ r=>r.rd.bl⟩;unfold Rp;refine⟨a,rfl,?_⟩;rcases hS with h|h
 ·exact .inl ⟨λz=>z rfl,h⟩
 ·exact .inr h
theorem Fg{P:List Value->Prop}(h:∀a,P [a]):∀us:List Value,us.length=1->P us
 |[a],_=>h a
theorem tP{P:List Value->Prop}(h:∀a b,P [a,b]):∀us:List Value,us.length=2->P us
 |[a,b],_=>h a b
theorem Dp{P:List Value->Prop}(h:∀a b c,P [a,b,c]):∀us:List Value,us.length=3->P us
 |[a,b,c],_=>h a b c
theorem Gv{P:List Value->Prop}(h:∀a b c d,P [a,b,c,d]):∀us:List Value,us.length=4->P us
 |[a,b,c,d],_=>h a b c d
end J
namespace J
open PySem PySem.Spec L2
section
variable {P:Program} {w:World} {K:Km} {mg:Str->Option Value} {base:Heap} {fns:Nms} {Γ:GG} {x qual:Str} {st:Stmt} {f:Addr} {fd:FuncData} {N ps:List Str} {k n M i:Nat} {an:An} {body:bN}
end
section
variable {P:Program} {w:World} {K:Km} {mg:Str->Option Value} {base:Heap} {fns:Nms} {Γ:GG} {x y qual:Str} {st:Stmt} {f C:Addr} {fd:FuncData} {N ps:List Str} {k n M i:Nat} {an:An} {body:bN}
end
end J
namespace J
open PySem PySem.Spec L2
noncomputable def Wp{α:Type}(a:Option α)(Q:α->Prop):Prop:=∃r,a=some r/\Q r
theorem Wp.mono{α:Type}{a:Option α}{Q R:α->Prop}(h:Wp a Q)(k:∀r,Q r->R r):Wp a R:=let ⟨r,e,q⟩:=h;⟨r,e,k r q⟩
theorem mN{α:Type}{r:α}{Q:α->Prop}(q:Q r):Wp (some r) Q:=⟨r,rfl,q⟩
section
variable {Γ:Nat->Option Fn} {ρ:Ro} {Q:KD->Prop}
theorem ao{i:Nat}(h:ρ[i]?=some (some s))(q:Q (fX i s)):Wp (aa Γ (.var i) ρ) Q:=⟨_,by rw[mx,h];rfl,q⟩
theorem ar(q:Q (.sh,d)):Wp (aa Γ (.lit d) ρ) Q:=⟨_,by rw[qU],q⟩
theorem aV(h:Wp (aa Γ a ρ) λx=>Wp (aa Γ b ρ) λy=>Wp (eR op x y) Q):Wp (aa Γ (.bin op a b) ρ) Q:=by
 obtain⟨x,ex,y,ey,z,ez,q⟩:=h;exact⟨z,by rw[yD,ex,ey];exact ez,q⟩
theorem wm(h:Wp (aa Γ a ρ) λx=>Wp (nA x.2) λb=>Q (.sh,.bl (!b))):Wp (aa Γ (.not a) ρ) Q:=by
 obtain⟨x,ex,b,eb,q⟩:=h;exact⟨_,by rw[yF,ex];show bV ((nA x.2).map _)=_;rw[eb];rfl,q⟩
theorem wn(h:Wp (av Γ t ρ) λr=>(r=true->Wp (aa Γ a ρ) Q)/\(r=false->Wp (aa Γ b ρ) Q)):Wp (aa Γ (.ifx t a b) ρ) Q:=by
 obtain⟨r,er,q1,q2⟩:=h
 cases r with
 |true=>obtain⟨x,ex,q⟩:=q1 rfl;exact⟨x,by rw[qV,er];exact ex,q⟩
 |false=>obtain⟨x,ex,q⟩:=q2 rfl;exact⟨x,by rw[qV,er];exact ex,q⟩
theorem de(h:Wp (aG Γ es ρ) λkds=>Wp (gJ k (some kds)) Q):Wp (aa Γ (.lst k es) ρ) Q:=by
 obtain⟨x,ex,z,ez,q⟩:=h;exact⟨z,by rw[yG,ex];exact ez,q⟩
theorem pW(h:Wp (aG Γ es ρ) λkds=>Wp (gK k (some kds)) Q):Wp (aa Γ (.tup k es) ρ) Q:=by
 obtain⟨x,ex,z,ez,q⟩:=h;exact⟨z,by rw[yH,ex];exact ez,q⟩
theorem rO(h:Wp (aa Γ a ρ) λx=>Wp (aa Γ b ρ) λy=>Wp (pq (some x) (some y)) Q):Wp (aa Γ (.ix a b) ρ) Q:=by
 obtain⟨x,ex,y,ey,z,ez,q⟩:=h;exact⟨z,by rw[my,ex,ey];exact ez,q⟩
theorem wq{i:Nat}(hΓ:Γ i=some φ)(h:Wp (aG Γ es ρ) λkds=>Wp (By φ kds) Q):Wp (aa Γ (.fn i es) ρ) Q:=by
 obtain⟨x,ex,z,ez,q⟩:=h;exact⟨z,by rw[vn,ex,hΓ];exact ez,q⟩
theorem cH{x:Str}(h:Wp (aG Γ es ρ) λkds=>Wp (dQ x kds) Q):Wp (aa Γ (.blt x es) ρ) Q:=by
 obtain⟨y,ey,z,ez,q⟩:=h;exact⟨z,by rw[qX,ey];exact ez,q⟩
theorem pX{T:Str}(h:Wp (aa Γ a ρ) λx=>Wp (eV T x.2) λb=>Q (.sh,.bl b)):Wp (aa Γ (.isi T a) ρ) Q:=by
 obtain⟨y,ey,z,ez,q⟩:=h;exact⟨_,by rw[qW,ey];show bV (eV T y.2)=_;rw[ez];rfl,q⟩
theorem oo(h:Wp (aa Γ a ρ) Q):Wp (aa Γ (.bool op (.cons a .nil)) ρ) Q:=by
 obtain⟨y,ey,q⟩:=h;exact⟨y,by rw[gR,jV];exact ey,q⟩
theorem kf(h:Wp (aa Γ a ρ) λx=>∃z,x.2=.bl z/\((op==.And)=z->Wp (aa Γ (.bool op (.cons b r)) ρ) Q)/\((op==.And)≠z->Q (.sh,.bl z))):Wp (aa Γ (.bool op (.cons a (.cons b r))) ρ) Q:=by
 obtain⟨⟨k,d⟩,ey,z,hz,q1,q2⟩:=h;have hz:d=.bl z:=hz;subst hz;by_cases hh:(op==.And)=z
 ·obtain⟨y,e2,q⟩:=q1 hh;rw[gR] at e2;exact⟨y,by rw[gR,jV,ey];exact(if_pos hh).trans e2,q⟩
 ·exact⟨_,by rw[gR,jV,ey];exact if_neg hh,q2 hh⟩
theorem hV(h:Wp (cV Γ it ρ) λp=>p.2.length<=100000/\Wp (aO r (dk tg (cI Γ ts) (aa Γ elt) (bP ρ cap)) p.2) λys=>Q (.fr (.own [] r),.lst ys)):Wp (aa Γ (.comp r cap tg it ts elt) ρ) Q:=by
 obtain⟨p,ep,hl,ys,ey,q⟩:=h;obtain⟨bs,ds⟩:=p
 exact⟨_,by rw[nQ,ep];show(if ds.length<=100000 then _ else _)=_;rw[if_pos hl,ey],q⟩
variable {T:Bool->Prop}
theorem wt(h:Wp (aa Γ a ρ) λx=>Wp (aa Γ b ρ) λy=>Wp (bf op x.2 y.2) T):Wp (av Γ (.cmp op a b) ρ) T:=by
 obtain⟨x,ex,y,ey,z,ez,q⟩:=h;exact⟨_,by rw[nR,ex,ey];exact ez,q⟩
theorem oq(h:Wp (av Γ a ρ) T):Wp (av Γ (.bool op (.cons a .nil)) ρ) T:=by
 obtain⟨y,ey,q⟩:=h;exact⟨y,by rw[fB,eW];exact ey,q⟩
theorem kg(h:Wp (av Γ a ρ) λz=>((op==.And)=z->Wp (av Γ (.bool op (.cons b r)) ρ) T)/\((op==.And)≠z->T z)):Wp (av Γ (.bool op (.cons a (.cons b r))) ρ) T:=by
 obtain⟨z,ey,q1,q2⟩:=h;by_cases hh:(op==.And)=z
 ·obtain⟨y,e2,q⟩:=q1 hh;rw[fB] at e2;exact⟨y,by rw[fB,eW,ey];exact(if_pos hh).trans e2,q⟩
 ·exact⟨_,by rw[fB,eW,ey];exact if_neg hh,q2 hh⟩
variable {L:List KD->Prop}
theorem ah(q:L []):Wp (aG Γ .nil ρ) L:=⟨_,by rw[aG],q⟩
theorem ae(h:Wp (aa Γ a ρ) λx=>Wp (aG Γ r ρ) λxs=>L (x::xs)):Wp (aG Γ (.cons a r) ρ) L:=by
 obtain⟨x,ex,xs,exs,q⟩:=h;exact⟨_,by rw[aG,ex,exs];rfl,q⟩
variable {P:List Nat×List D->Prop}
theorem Ct(h:Wp (aa Γ a ρ) λx=>Wp (jc (some x)) P):Wp (cV Γ (.e a) ρ) P:=by
 obtain⟨x,ex,z,ez,q⟩:=h;exact⟨z,by rw[cV,ex];exact ez,q⟩
theorem wu(h:Wp (aa Γ a ρ) λx=>Wp (pF (some x)) P):Wp (cV Γ (.enm a) ρ) P:=by
 obtain⟨x,ex,z,ez,q⟩:=h;exact⟨z,by rw[cV,ex];exact ez,q⟩
theorem df(h:Wp (aa Γ a ρ) λx=>Wp (aa Γ b ρ) λy=>Wp (gQ (some x) (some y)) P):Wp (cV Γ (.rng a b) ρ) P:=by
 obtain⟨x,ex,y,ey,z,ez,q⟩:=h;exact⟨z,by rw[cV,ex,ey];exact ez,q⟩
end
section
variable {Q:KD->Prop} {k k':Kd} {i j:Int}
theorem dG(q:Q (.sh,.int (i+j))):Wp (eR .Add (k,.int i) (k',.int j)) Q:=mN q
theorem kh(q:Q (.sh,.int (i-j))):Wp (eR .Sub (k,.int i) (k',.int j)) Q:=mN q
theorem ki(h:i.natAbs<lim/\j.natAbs<lim)(q:Q (.sh,.int (i*j))):Wp (eR .Mult (k,.int i) (k',.int j)) Q:=⟨_,gG (if_pos h),q⟩
theorem mO(h:0<j/\j.natAbs<lim)(q:Q (.sh,.int (i / j))):Wp (eR .FloorDiv (k,.int i) (k',.int j)) Q:=⟨_,gG (if_pos h),q⟩
theorem gr(h:0<j)(q:Q (.sh,.int (i%j))):Wp (eR .Mod (k,.int i) (k',.int j)) Q:=⟨_,gG (if_pos h),q⟩
theorem ww(h:0<=j/\j<=1000000/\i.natAbs<2^64)(q:Q (.sh,.int (i^j.toNat))):Wp (eR .Pow (k,.int i) (k',.int j)) Q:=⟨_,gG (if_pos h),q⟩
theorem wx(h:0<=j/\j<=1000000/\i.natAbs<lim)(q:Q (.sh,.int (i*2^j.toNat))):Wp (eR .LShift (k,.int i) (k',.int j)) Q:=⟨_,gG (if_pos h),q⟩
theorem pY{xs ys:List D}(h:ip k xs=true/\ip k' ys=true/\xs.length+ys.length<=100000)(q:Q (.fr aZ,.lst (xs++ys))):Wp (eR .Add (k,.lst xs) (k',.lst ys)) Q:=⟨_,if_pos h,q⟩
variable {T:Bool->Prop}
theorem wy(q:T (decide (j<i))):Wp (bf .Gt (.int i) (.int j)) T:=mN q
theorem Cu(h:cC 90 x=true/\cC 90 y=true)(q:T (iU x y)):Wp (bf .Eq x y) T:=⟨_,if_pos h,q⟩
theorem Cv(h:cC 90 x=true/\cC 90 y=true)(q:T (!iU x y)):Wp (bf .NotEq x y) T:=⟨_,if_pos h,q⟩
theorem jv:iU (.int i) (.int j)=decide (i=j):=by
 unfold iU py;simp[PyData.eqv]
 try rfl
theorem rP(q:T (decide (i=j))):Wp (bf .Eq (.int i) (.int j)) T:=Cu ⟨rfl,rfl⟩ (by rw[jv];exact q)
theorem wz(q:T (!decide (i=j))):Wp (bf .NotEq (.int i) (.int j)) T:=Cv ⟨rfl,rfl⟩ (by rw[jv];exact q)
variable {xs:List D} {d:D} {n:Nat}
theorem Cw{z:Int}(hj:ir xs.length z=some n)(hd:xs[n]?=some d)(q:Q (oU k n,d)):Wp (pq (some (k,.nd .lst xs)) (some (k',.int z))) Q:=⟨_,by show(match ir xs.length z with|some j=>(xs[j]?).map (λd=>(oU k j,d))|none=>none)=_;rw[hj];show(xs[n]?).map _=_;rw[hd];rfl,q⟩
theorem Cy{z:Int}(hj:ir xs.length z=some n)(hd:xs[n]?=some d)(q:Q (oU k n,d)):Wp (pq (some (k,.nd .tup xs)) (some (k',.int z))) Q:=⟨_,by show(match ir xs.length z with|some j=>(xs[j]?).map (λd=>(oU k j,d))|none=>none)=_;rw[hj];show(xs[n]?).map _=_;rw[hd];rfl,q⟩
theorem mP{m:Nat}{z:Int}(h0:0<=z)(h1:z<m):ir m z=some z.toNat:=by unfold ir;rw[if_pos h0,if_pos h1]
end
theorem CA{Q:KD->Prop}{n:Nat}(h:yr d=some n)(q:Q (.sh,.int n)):Wp (dQ "len" [(k,d)]) Q:=by
 refine⟨(.sh,.int n),?_,q⟩;have e:dQ "len" = u7:=by unfold dQ;rw[if_pos rfl]
 rw[e];unfold u7;dsimp only;rw[h];rfl
theorem wB{Q:KD->Prop}{i j:Int}(q:Q (.sh,.int (if j<i then j else i))):Wp (dQ "min" [(k,.int i),(k',.int j)]) Q:=⟨_,rfl,q⟩
theorem mQ{Q:KD->Prop}(h:ip k ds=true)(q:Q (.fr aZ,.lst ds)):Wp (dQ "list" [(k,.nd .lst ds)]) Q:=⟨_,if_pos h,q⟩
theorem kj{Q:KD->Prop}(h:ip k ds=true)(q:Q (Bi k,.tup ds)):Wp (dQ "tuple" [(k,.nd .lst ds)]) Q:=⟨_,if_pos h,q⟩
theorem CB{Q:KD->Prop}{bs:List Bool}(q:Q (.sh,.bl (bs.all id))):Wp (dQ "all" [(k,.nd .lst (bs.map D.bl))]) Q:=by
 refine⟨(.sh,.bl (bs.all id)),?_,q⟩;have e:dQ "all" [(k,.nd .lst (bs.map D.bl))]=(bJ (bs.map D.bl)).map λbs=>(Kd.sh,D.bl (bs.all id)):=rfl;rw[e,eT];rfl
theorem wC{φ:Fn}{kds:List KD}{Q:KD->Prop}(h:Wp (φ (kds.map (·.2))) λr=>bp r.1=false/\((kds.all λp=>ph p.1 p.2)=true\/mt r.1 r.2=true)/\Q r):Wp (By φ kds) Q:=by
 obtain⟨⟨kd,d⟩,e,hb,ho,q⟩:=h;refine⟨(kd,d),?_,q⟩;unfold By;rw[e];dsimp only;by_cases ha:(kds.all λp=>ph p.1 p.2)=true
 ·rw[if_pos ha,if_neg (by simpa using hb)]
 ·rw[if_neg ha,if_pos (ho.resolve_left ha)]
section
variable {Γ:GG} {ρ:Ro} {Q:Kd×D×Ro->Prop}
theorem a9(h:Wp (aa Γ.fn e ρ) λx=>Q (x.1,x.2,ρ)):Wp (aF Γ (.p e) ρ) Q:=by
 obtain⟨x,ex,q⟩:=h;exact⟨_,by rw[vS,ex];rfl,q⟩
theorem ff{i:Nat}(h:ρ[i]?=some (some ⟨false,.own es r,d⟩))(q:Q (.fr (.own es r),d,ρ.set i none)):Wp (aF Γ (.mv i) ρ) Q:=⟨_,by rw[BZ];unfold sS;rw[h];rfl,q⟩
theorem hZ{i:Nat}(h:ρ[i]?=some (some ⟨false,k,d⟩))(q:Q (.sh,d,ρ.set i (some ⟨false,.fz,d⟩))):Wp (aF Γ (.fz i) ρ) Q:=⟨_,by rw[Ca];unfold sT;rw[h],q⟩
theorem iZ{f:Nat}{φ:Fm}(hφ:Γ.fm f=some φ)(h:Wp (cW Γ as ρ) λp=>(bU p.1).Nodup/\∃ks,eC p.2 p.1=some ks/\Wp (φ ks) λo=>bp o.1=false/\o.2.2.length=p.1.length/\Q (o.1,o.2.1,c8 p.1 (o.2.2.map Di) p.2)):Wp (aF Γ (.io f as) ρ) Q:=by
 obtain⟨⟨ras,ρ1⟩,ea,hn,ks,hk,⟨kd,d,os⟩,eo,hb,hl,q⟩:=h;refine⟨_,?_,q⟩;rw[pO,hφ,ea];unfold BL;dsimp only;rw[if_pos hn,hk];dsimp only;rw[eo];dsimp only;exact if_neg (by rw[hb];simpa using hl)
theorem lB{f:List KD->Option KD}(h:Wp a λp=>Wp (f p.1) λr=>Q (r.1,r.2,p.2)):Wp (oS f a) Q:=by
 obtain⟨⟨kds,ρ1⟩,ea,r,er,q⟩:=h
 exact⟨_,by rw[ea];show(match f kds with|some (kd,d)=>some (kd,d,ρ1)|none=>none)=_;rw[er],q⟩
theorem wD{x:Str}(h:Wp (aX Γ as ρ) λp=>Wp (dQ x p.1) λr=>Q (r.1,r.2,p.2)):Wp (aF Γ (.blt x as) ρ) Q:=by rw[yX];exact lB h
theorem kl(h:Wp (aX Γ as ρ) λp=>Wp (gK k (some p.1)) λr=>Q (r.1,r.2,p.2)):Wp (aF Γ (.tup k as) ρ) Q:=by rw[yY];exact lB h
theorem fj(h:Wp (aX Γ as ρ) λp=>Wp (gJ k (some p.1)) λr=>Q (r.1,r.2,p.2)):Wp (aF Γ (.lst k as) ρ) Q:=by rw[yZ];exact lB h
theorem dg(h:Wp (aX Γ as ρ) λp=>∃x y,p.1=[x,y]/\Wp (eR op x y) λr=>Q (r.1,r.2,p.2)):Wp (aF Γ (.bin op as) ρ) Q:=by
 rw[y9];exact lB (h.mono λp ⟨x,y,e,w⟩=>by rw[e];exact w)
theorem ou(h:Wp (aX Γ as ρ) λp=>∃x y,p.1=[x,y]/\Wp (pq (some x) (some y)) λr=>Q (r.1,r.2,p.2)):Wp (aF Γ (.ix as) ρ) Q:=by
 rw[Cb];exact lB (h.mono λp ⟨x,y,e,w⟩=>by rw[e];exact w)
theorem jw{cap:List (Option Nat)}(h:Wp (bR Γ it ρ) λp=>p.1=[]/\p.2.1.length<=100000/\Wp (aw r (gh cap tg (mH Γ ts) (aF Γ elt)) p.2.1 (bP p.2.2 cap)) λz=>z.2.length=cap.length/\Q (.fr (.own [] r),.lst z.1,c8 (gY cap) z.2 p.2.2)):Wp (aF Γ (.comp r cap tg it ts elt) ρ) Q:=by
 obtain⟨⟨bs,ds,ρ1⟩,ep,hb,hl,⟨ys,ρc⟩,ey,hz,q⟩:=h;refine⟨_,?_,q⟩;rw[nZ,ep];unfold gq;dsimp only at hb hl ey hz⊢;rw[if_pos ⟨hb,hl⟩,ey];dsimp only;rw[if_pos hz]
theorem CC{i:Nat}(h0:ρ[i]?=some (some ⟨false,.own es0 r0,.nd .lst ds0⟩))(h:Wp (aF Γ a ρ) λp=>∃es r ds,p.2.2[i]?=some (some ⟨false,.own es r,.nd .lst ds⟩)/\(es.length<=ds.length/\cP r (bW p.1 p.2.1,p.2.1)=true/\ds.length<100000)/\Q (.sh,.non,p.2.2.set i (some ⟨false,.own es r,.lst (ds++[p.2.1])⟩))):Wp (aF Γ (.mutM "append" i a) ρ) Q:=by
 obtain⟨⟨kd,d,ρ1⟩,ea,es,r,ds,h1,h2,q⟩:=h;refine⟨_,?_,q⟩;rw[vT,ea,h0];show dF "append" i (fQ ρ1[i]?) (some [(bW kd d,d)]) ρ1=_;dsimp only at h1 h2;rw[h1]
 show(match j4 "append" es r ds [(bW kd d,d)],ρ1[i]? with|some (d',ds'),some (some ⟨false,k,_⟩)=>some (Kd.sh,d',ρ1.set i (some ⟨false,k,id (.lst ds')⟩))|_,_=>none)=_
 have:j4 "append" es r ds [(bW kd d,d)]=some (.non,ds++[d]):=if_pos h2;rw[this,h1];rfl
theorem mR{i:Nat}(h:Wp (aa Γ.fn e ρ) λx=>∃es r ds,ρ[i]?=some (some ⟨false,.own es r,.nd .lst ds⟩)/\(es.length<=ds.length/\cP r x=true/\ds.length<100000)/\Q (.sh,.non,ρ.set i (some ⟨false,.own es r,.lst (ds++[x.2])⟩))):Wp (aF Γ (.mut "append" (.nm i) (.cons e .nil)) ρ) Q:=by
 obtain⟨x,ex,es,r,ds,h1,h2,q⟩:=h;refine⟨_,?_,q⟩;rw[fD,aG,aG,ex];show dF "append" i (lr Γ.fn (.nm i) ρ) (some [x]) ρ=_;rw[lr,h1]
 show(match j4 "append" es r ds [x],ρ[i]? with|some (d',ds'),some (some ⟨false,k,_⟩)=>some (Kd.sh,d',ρ.set i (some ⟨false,k,id (.lst ds')⟩))|_,_=>none)=_
 have:j4 "append" es r ds [x]=some (.non,ds++[x.2]):=if_pos h2;rw[this,h1];rfl
variable {A:List RA×Ro->Prop}
theorem eE(q:A ([],ρ)):Wp (cW Γ .nil ρ) A:=⟨_,by rw[cW],q⟩
theorem eG{i:Nat}(hs:ρ[i]?=some (some s))(h:Wp (cW Γ r ρ) λp=>A (.ref i::p.1,p.2)):Wp (cW Γ (.ref i r) ρ) A:=by
 obtain⟨⟨ras,ρ1⟩,ea,q⟩:=h;exact⟨_,by rw[cW,hs,ea];rfl,q⟩
theorem bM(h:Wp (aF Γ a ρ) λx=>bp (bW x.1 x.2.1)=false/\Wp (cW Γ r x.2.2) λp=>A (.val (bW x.1 x.2.1) x.2.1::p.1,p.2)):Wp (cW Γ (.val a r) ρ) A:=by
 obtain⟨⟨kd,d,ρ1⟩,ea,hb,⟨ras,ρ2⟩,er,q⟩:=h;refine⟨_,?_,q⟩;rw[cW,ea]
 show(if bp (bW kd d)=true then none else _)=_
 dsimp only at hb er;rw[if_neg (by rw[hb];decide),er]
variable {S:List KD×Ro->Prop}
theorem aJ(h:Wp (aF Γ a ρ) λx=>Wp (aG Γ.fn r x.2.2) λxs=>S ((x.1,x.2.1)::xs,x.2.2)):Wp (aX Γ (.fin a r) ρ) S:=by
 obtain⟨⟨kd,d,ρ1⟩,ea,xs,ex,q⟩:=h;refine⟨_,?_,q⟩;rw[aX,ea]
 show(match aG Γ.fn r ρ1 with|some kds=>some ((kd,d)::kds,ρ1)|none=>none)=_
 dsimp only at ex;rw[ex]
theorem aL(h:Wp (aF Γ a ρ) λx=>bp (bW x.1 x.2.1)=false/\Wp (aX Γ r x.2.2) λp=>S ((bW x.1 x.2.1,x.2.1)::p.1,p.2)):Wp (aX Γ (.cons a r) ρ) S:=by
 obtain⟨⟨kd,d,ρ1⟩,ea,hb,⟨kds,ρ2⟩,er,q⟩:=h;refine⟨_,?_,q⟩;rw[aX,ea]
 show(if bp (bW kd d)=true then none else _)=_
 dsimp only at hb er;rw[if_neg (by rw[hb];decide),er]
variable {T:Bool×Ro->Prop}
theorem ox(h:Wp (av Γ.fn e ρ) λb=>T (b,ρ)):Wp (aU Γ (.p e) ρ) T:=by
 obtain⟨x,ex,q⟩:=h;exact⟨_,by rw[aU,ex];rfl,q⟩
theorem rQ(h:Wp (aX Γ as ρ) λp=>∃x y,p.1=[x,y]/\Wp (bf op x.2 y.2) λb=>T (b,p.2)):Wp (aU Γ (.cmp op as) ρ) T:=by
 obtain⟨⟨kds,ρ1⟩,ea,x,y,e,b,eb,q⟩:=h;dsimp only at e;subst e
 exact⟨_,by rw[aU,ea];show(match bf op x.2 y.2 with|some b=>some (b,ρ1)|none=>none)=_;rw[eb],q⟩
theorem lC(h:Wp (aU Γ t ρ) T):Wp (aU Γ (.bool op (.one t)) ρ) T:=by
 obtain⟨y,ey,q⟩:=h;exact⟨y,by rw[aU,g7];exact ey,q⟩
theorem lE(h:Wp (aU Γ t ρ) λz=>((op==.And)=z.1->Wp (aU Γ (.bool op r) z.2) T)/\((op==.And)≠z.1->T z)):Wp (aU Γ (.bool op (.cons t r)) ρ) T:=by
 obtain⟨⟨b,ρ1⟩,ey,q1,q2⟩:=h;by_cases hh:(op==.And)=b
 ·obtain⟨y,e2,q⟩:=q1 hh;rw[aU] at e2;exact⟨y,by rw[aU,g7,ey];exact(if_pos hh).trans e2,q⟩
 ·exact⟨_,by rw[aU,g7,ey];exact if_neg hh,q2 hh⟩
variable {I:List Nat×List D×Ro->Prop}
theorem fR(h:Wp (cV Γ.fn it ρ) λp=>I (p.1,p.2,ρ)):Wp (bR Γ (.p it) ρ) I:=by
 obtain⟨x,ex,q⟩:=h;exact⟨_,by rw[bR,ex];rfl,q⟩
theorem wF{g:Option KD->Option (List Nat×List D)}(h:Wp a λx=>Wp (g (some (bW x.1 x.2.1,x.2.1))) λp=>I (p.1,p.2,x.2.2)):Wp (xH g a) I:=by
 obtain⟨⟨kd,d,ρ1⟩,ea,p,ep,q⟩:=h;exact⟨_,by rw[ea];show BM (g (some (bW kd d,d))) ρ1=_;dsimp only at ep;rw[ep];rfl,q⟩
theorem rR(h:Wp (aF Γ a ρ) λx=>Wp (gQ (some (.sh,.int 0)) (some (bW x.1 x.2.1,x.2.1))) λp=>I (p.1,p.2,x.2.2)):Wp (bR Γ (.rng a) ρ) I:=by rw[bR];exact wF h
theorem Ah(h:Wp (aF Γ a ρ) λx=>Wp (jc (some (bW x.1 x.2.1,x.2.1))) λp=>I (p.1,p.2,x.2.2)):Wp (bR Γ (.e a) ρ) I:=by rw[bR];exact wF h
end
theorem dh{i j:Int}{P:List Nat×List D->Prop}(h:eh i j=true)(q:P ([],cb i j)):Wp (gQ (some (k,.int i)) (some (k',.int j))) P:=⟨_,if_pos h,q⟩
theorem a6{i j:Int}(h1:-100000<=i)(h2:i<=100000)(h3:-100000<=j)(h4:j<=100000)(h5:j-i<=100000):eh i j=true:=by
 simp only[eh,Kn,decide_eq_true_eq]
 lia
theorem ib{i j:Int}{n:Nat}(h:(cb i j)[n]?=some d):d=.int (i+n)/\i+n<j:=by
 unfold cb at h;rw[Kr] at h;obtain⟨m,hm,rfl⟩:=aH h;have hl:=(Ky.mp hm).1;rw[K5] at hl;rw[Mg hl] at hm;cases hm;exact⟨rfl,by lia⟩
theorem km{i j:Int}:(cb i j).length=(j-i).toNat:=by simp[cb]
theorem pZ{P:List Nat×List D->Prop}(h:ip k ds=true)(q:P (vd k,ds)):Wp (jc (some (k,.nd .lst ds))) P:=⟨_,if_pos h,q⟩
theorem CD{P:List Nat×List D->Prop}(h:ip k ds=true)(q:P ([],ds)):Wp (jc (some (k,.nd .tup ds))) P:=⟨_,if_pos h,q⟩
noncomputable def Kt(Γ:GG)(N:Nat)(rest:bN)(pn:List Nat)(Q:Res->Prop):Res->Prop
 |.nx ρ=>Wp (aB Γ N rest pn ρ) Q
 |r=>Q r
section
variable {Γ:GG} {N:Nat} {pn:List Nat} {ρ:Ro} {Q:Res->Prop} {rest:bN}
theorem cK(h:Wp (aB Γ N rest pn ρ) Q):Kt Γ N rest pn Q (.nx ρ):=h
theorem bG(h:Q (.rt k d ρ)):Kt Γ N rest pn Q (.rt k d ρ):=h
theorem bX(q:Q (.nx ρ)):Wp (aB Γ N .nil pn ρ) Q:=⟨_,by rw[aB],q⟩
theorem bS(h:Wp (eQ Γ N s pn ρ) (Kt Γ N rest pn Q)):Wp (aB Γ N (.cons s rest) pn ρ) Q:=by
 obtain⟨r,er,q⟩:=h
 cases r with
 |nx ρ1=>obtain⟨z,ez,q⟩:=q;exact⟨z,by rw[aB,er];exact ez,q⟩
 |rt k d ρ1=>exact⟨_,by rw[aB,er];rfl,q⟩
 |ct ρ1=>exact⟨_,by rw[aB,er];rfl,q⟩
 |bk ρ1=>exact⟨_,by rw[aB,er];rfl,q⟩
theorem bY{i:Nat}(h:Wp (aF Γ a ρ) λx=>(bp (bW x.1 x.2.1)=false/\i∉pn)/\Wp (aB Γ N rest pn (x.2.2.set i (some ⟨false,Aa (bW x.1 x.2.1),x.2.1⟩))) Q):Wp (aB Γ N (.cons (.asg i a) rest) pn ρ) Q:=by
 obtain⟨⟨kd,d,ρ1⟩,ea,hb,w⟩:=h;refine bS ⟨.nx _,?_,cK w⟩;rw[ze,ea];exact if_neg (by dsimp only at hb;rw[hb.1];simpa using hb.2)
theorem CF{is:List Nat}(h:Wp (aF Γ a ρ) λx=>∃ds es r,x.2.1=.nd .tup ds/\e7 x.1 ds=some (es,r)/\(is.length=ds.length/\(is.all λi=>!pn.contains i)=true)/\Wp (aB Γ N rest pn (n6 is ds es r x.2.2)) Q):Wp (aB Γ N (.cons (.unp is a) rest) pn ρ) Q:=by
 obtain⟨⟨kd,d,ρ1⟩,ea,ds,es,r,hd,hk,hl,w⟩:=h;dsimp only at hd hk;subst hd;refine bS ⟨.nx _,?_,cK w⟩;rw[rG,ea]
 show(match e7 kd ds with|some (es,r)=>if is.length=ds.length/\(is.all λi=>!pn.contains i)=true then some (Res.nx (n6 is ds es r ρ1)) else none|none=>none)=_
 rw[hk];exact if_pos hl
theorem CG{is:List Nat}(h:Wp (aF Γ a ρ) λx=>∃ds es r,x.2.1=.nd .lst ds/\e7 x.1 ds=some (es,r)/\(is.length=ds.length/\(is.all λi=>!pn.contains i)=true)/\Wp (aB Γ N rest pn (n6 is ds es r x.2.2)) Q):Wp (aB Γ N (.cons (.unp is a) rest) pn ρ) Q:=by
 obtain⟨⟨kd,d,ρ1⟩,ea,ds,es,r,hd,hk,hl,w⟩:=h;dsimp only at hd hk;subst hd;refine bS ⟨.nx _,?_,cK w⟩;rw[rG,ea]
 show(match e7 kd ds with|some (es,r)=>if is.length=ds.length/\(is.all λi=>!pn.contains i)=true then some (Res.nx (n6 is ds es r ρ1)) else none|none=>none)=_
 rw[hk];exact if_pos hl
theorem Fh{i:Nat}{s:Sl}(hs:ρ[i]?=some (some s))(h:Wp (aF Γ a ρ) λx=>i∉pn/\Wp (v8 op s.d x.2.1) λz=>Wp (aB Γ N rest pn (x.2.2.set i (some (Df z)))) Q):Wp (aB Γ N (.cons (.aug i op a) rest) pn ρ) Q:=by
 obtain⟨⟨kd,d,ρ1⟩,ea,hb,z,ez,w⟩:=h;refine bS ⟨.nx _,?_,cK w⟩;rw[rH,ea,hs]
 show(if i∈pn then none else _)=_
 dsimp only at ez;rw[if_neg hb,ez]
theorem CH{i:Nat}{s:Sl}(hs:ρ[i]?=some (some s))(h:Wp (aF Γ a ρ) λx=>i∉pn/\v8 .Add s.d x.2.1=none/\Wp (dF "extend" i (fQ x.2.2[i]?) (some [(x.1,x.2.1)]) x.2.2) λz=>Wp (aB Γ N rest pn z.2.2) Q):Wp (aB Γ N (.cons (.aug i .Add a) rest) pn ρ) Q:=by
 obtain⟨⟨kd,d,ρ1⟩,ea,hb,en,z,ez,w⟩:=h;refine bS ⟨.nx _,?_,cK w⟩;rw[rH,ea,hs]
 show(if i∈pn then none else _)=_
 dsimp only at en ez;rw[if_neg hb,en];dsimp only[wa];rw[ez]
theorem wH{b:BP}(h:Wp (aF Γ a ρ) λx=>Wp (lr Γ.fn b x.2.2) λp=>Wp (aa Γ.fn k x.2.2) λy=>∃es r hd ds kk d0,p.1=.own es r/\p.2.1=.nd hd ds/\x.2.2[b.slot]?=some (some ⟨false,kk,d0⟩)/\Wp (mJ es r hd ds y.2 (bW x.1 x.2.1,x.2.1)) λz=>Wp (aB Γ N rest pn (x.2.2.set b.slot (some ⟨false,kk,p.2.2 (.nd z.1 z.2)⟩))) Q):Wp (aB Γ N (.cons (.put b k a) rest) pn ρ) Q:=by
 obtain⟨⟨kd,d,ρ1⟩,ea,⟨pk,pd,up⟩,ep,⟨ky,dy⟩,ey,es,r,hd,ds,kk,d0,e1,e2,e3,⟨hd',ds'⟩,ez,w⟩:=h;dsimp only at e1 e2 e3 ep ey ez;subst e1 e2;refine bS ⟨.nx _,?_,cK w⟩;rw[zf,ea];unfold sZ;dsimp only;rw[ep,ey,e3];dsimp only;rw[ez]
theorem aS(h:Wp (aF Γ a ρ) λx=>bp (bW x.1 x.2.1)=false/\Q (.rt (bW x.1 x.2.1) x.2.1 x.2.2)):Wp (aB Γ N (.cons (.ret a) rest) pn ρ) Q:=by
 obtain⟨⟨kd,d,ρ1⟩,ea,hb,q⟩:=h;refine bS ⟨.rt _ _ _,?_,bG q⟩;rw[zg,ea];exact if_neg (by dsimp only at hb;rw[hb];decide)
theorem lF(h:Wp (aF Γ a ρ) λx=>Wp (aB Γ N rest pn x.2.2) Q):Wp (aB Γ N (.cons (.exp a) rest) pn ρ) Q:=by
 obtain⟨⟨kd,d,ρ1⟩,ea,w⟩:=h;refine bS ⟨.nx _,?_,cK w⟩;rw[zh,ea];rfl
theorem rS(h:Wp (aU Γ t ρ) λp=>(p.1=true->Wp (aB Γ N a pn p.2) (Kt Γ N rest pn Q))/\(p.1=false->Wp (aB Γ N b pn p.2) (Kt Γ N rest pn Q))):Wp (aB Γ N (.cons (.ifs t a b) rest) pn ρ) Q:=by
 obtain⟨⟨r,ρ1⟩,er,q1,q2⟩:=h
 cases r with
 |true=>obtain⟨x,ex,q⟩:=q1 rfl;exact bS ⟨x,by rw[rJ,er];exact ex,q⟩
 |false=>obtain⟨x,ex,q⟩:=q2 rfl;exact bS ⟨x,by rw[rJ,er];exact ex,q⟩
theorem oy{fb:Ro->Option Res}(I:Nat->Ro->Prop):∀(ds:List D) (j:Nat) (ρ:Ro),I j ρ->(∀(i:Nat) d ρ,ds[i]?=some d->I (j+i) ρ->∃ps,m7 tg d=some ps/\(ps.all λp=>!pn.contains p.1)=true/\Wp (fb (setAll ps (clrN fg ρ))) λr=>∃ρ',(r=.nx ρ'\/r=.ct ρ')/\I (j+i+1) ρ')->
  ∃ρ',cx pn fg tg fb ds ρ=some (.nx (clrN fg ρ'))/\I (j+ds.length) ρ'
 |[],j,ρ,h0,_=>⟨ρ,rfl,h0⟩
 |d::ds,j,ρ,h0,hs=>by
  obtain⟨ps,e1,e2,r,er,ρ1,hr,h1⟩:=hs 0 d ρ rfl h0
  obtain⟨ρ2,e3,h2⟩:=oy I ds (j+1) ρ1 h1 λi d' ρ' e hI=>by
   have:=hs (i+1) d' ρ' (by simpa using e) (by rw[show j+(i+1)=j+1+i by lia];exact hI);rw[show j+(i+1)+1=j+1+i+1 by lia] at this;exact this
  refine⟨ρ2,?_,by rw[KS,show j+(ds.length+1)=j+1+ds.length by lia];exact h2⟩;unfold cx;rw[e1];dsimp only;rw[if_pos e2,er];rcases hr with rfl|rfl
  ·exact e3
  ·exact e3
theorem oz(h:Wp (bR Γ it ρ) λp=>∃I:Nat->Ro->Prop,I 0 (clrN p.1 p.2.2)/\(∀(i:Nat) d ρ,p.2.1[i]?=some d->I i ρ->∃ps,m7 tg d=some ps/\(ps.all λq=>!(pn++p.1).contains q.1)=true/\Wp (aB Γ N b (pn++p.1) (setAll ps (clrN fg ρ))) λr=>∃ρ',(r=.nx ρ'\/r=.ct ρ')/\I (i+1) ρ')/\
  ∀ρ',I p.2.1.length ρ'->Wp (aB Γ N rest pn (tO p.1 p.2.2 (clrN fg ρ'))) Q):Wp (aB Γ N (.cons (.fo fg tg it b) rest) pn ρ) Q:=by
 obtain⟨⟨bs,ds,ρ0⟩,ep,I,h0,hs,hq⟩:=h
 obtain⟨ρ',e1,h1⟩:=oy (pn:=pn++bs) I ds 0 (clrN bs ρ0) h0 λi d ρ e hI=>by
  have:=hs i d ρ e (by simpa using hI);simpa using this
 refine bS ⟨.nx _,?_,cK (hq ρ' (by simpa using h1))⟩;rw[pT,ep];show oe bs ρ0 (cx (pn++bs) fg tg (aB Γ N b (pn++bs)) ds (clrN bs ρ0))=_;rw[e1];rfl
end
theorem Ii{f:D->Option (Option KD)}{Q:List D->Prop}{ds:List D}(P:Nat->D->Prop)(hs:∀(i:Nat) d,ds[i]?=some d->Wp (f d) λo=>∃kd,o=some kd/\cP r kd=true/\P i kd.2)(hq:∀ys,ys.length=ds.length->(∀(i:Nat) y,ys[i]?=some y->P i y)->Q ys):Wp (aO r f ds) Q:=by
 have key:∀(ds:List D) (j:Nat),(∀(i:Nat) d,ds[i]?=some d->Wp (f d) λo=>∃kd,o=some kd/\cP r kd=true/\P (j+i) kd.2)->∃ys,aO r f ds=some ys/\ys.length=ds.length/\∀(i:Nat) y,ys[i]?=some y->P (j+i) y:=by
  intro ds
  induction ds with
  |nil=>intro j _;exact⟨[],rfl,rfl,λi y e=>by simp at e⟩
  |cons d ds ih=>
   intro j h;obtain⟨o,eo,kd,rfl,hf,hp⟩:=h 0 d rfl
   obtain⟨ys,e1,e2,e3⟩:=ih (j+1) λi d' e=>by
    have:=h (i+1) d' (by simpa using e);rw[show j+(i+1)=j+1+i by lia] at this;exact this
   refine⟨kd.2::ys,by simp[aO,eo,e1,hf],by simp[e2],λi y e=>?_⟩
   cases i with
   |zero=>simp at e;subst e;exact hp
   |succ i=>
    rw[show j+(i+1)=j+1+i by lia];exact e3 i y (by simpa using e)
 obtain⟨ys,e1,e2,e3⟩:=key ds 0 λi d e=>by simpa using hs i d e
 exact⟨ys,e1,hq ys e2 λi y e=>by simpa using e3 i y e⟩
theorem wJ{ft:Ro->Option Bool}{fe:Ro->Option KD}{Q:Option KD->Prop}(h1:m7 tg d=some ps)(h2:c6 ps ρ0=true)(ht:ft (setAll ps ρ0)=some true)(h:Wp (fe (setAll ps ρ0)) λx=>Q (some x)):Wp (dk tg ft fe ρ0 d) Q:=by
 obtain⟨x,ex,q⟩:=h;refine⟨_,?_,q⟩;unfold dk;rw[h1];dsimp only;rw[if_pos h2,ht];dsimp only;rw[ex];rfl
theorem wK{ft:Ro->Option (Bool×Ro)}{fe:Ro->MR}{Q:Option KD×Ro->Prop}(h1:m7 tg d=some ps)(h2:c6 ps ρ0=true/\vK cap ps=true)(h:Wp (ft (setAll ps ρ0)) λb=>(b.1=true->Wp (fe b.2) λx=>Q (some (bW x.1 x.2.1,x.2.1),clr ps x.2.2))/\(b.1=false->Q (none,clr ps b.2))):Wp (gh cap tg ft fe d ρ0) Q:=by
 obtain⟨⟨b,ρt⟩,et,q1,q2⟩:=h
 cases b with
 |true=>
  obtain⟨⟨kd,d',ρ1⟩,ex,q⟩:=q1 rfl;refine⟨_,?_,q⟩;unfold gh;rw[h1];dsimp only;rw[if_pos h2,et];dsimp only at ex⊢;rw[ex]
 |false=>
  refine⟨_,?_,q2 rfl⟩;unfold gh;rw[h1];dsimp only;rw[if_pos h2,et]
theorem p6{ft:Ro->Option (Bool×Ro)}{fe:Ro->MR}{Q:Option KD×Ro->Prop}(h1:m7 tg d=some ps)(h2:c6 ps ρ0=true/\vK cap ps=true)(ht:ft (setAll ps ρ0)=some (true,setAll ps ρ0))(h:Wp (fe (setAll ps ρ0)) λx=>Q (some (bW x.1 x.2.1,x.2.1),clr ps x.2.2)):Wp (gh cap tg ft fe d ρ0) Q:=
 wK h1 h2 ⟨_,ht,λ_=>h,λe=>by cases e⟩
theorem CI{N m k:Nat}{ds:List D}(hl:ds.length=m)(h:Wp (aB Γ N body [] (mM k (ds.map Fe))) λr=>Wp (hJ (some r)) Q):Wp (cy Γ N m k body ds) Q:=by
 obtain⟨r,er,z,ez,q⟩:=h;exact⟨z,by unfold cy;rw[if_pos hl,er];exact ez,q⟩
theorem oA{N m k:Nat}{ks:List jf}(hl:ks.length=m)(h:Wp (aB Γ N body pn (mM k ks)) λr=>Wp (j9 m pn (some r)) Q):Wp (hU Γ N m k pn body ks) Q:=by
 obtain⟨r,er,z,ez,q⟩:=h;exact⟨z,by unfold hU;rw[if_pos hl,er];exact ez,q⟩
theorem fU{Q:KD->Prop}(hb:bp kd=false)(q:Q (kd,d)):Wp (hJ (some (.rt kd d ρ))) Q:=⟨_,if_neg (by rw[hb];decide),q⟩
theorem bD{m:Nat}{Q:Kd×D×List (Option jf)->Prop}(hb:bp kd=false)(q:Q (kd,d,outs m pn ρ)):Wp (j9 m pn (some (.rt kd d ρ))) Q:=⟨_,if_neg (by rw[hb];decide),q⟩
end J
namespace J
open PySem PySem.Spec L2
theorem p7{p1:Ow}{p2:D}{o:Option (Option Sl)}{es:List Ow}{r:Ow}{hd:Hd}{ds:List D}{kk:Ow}{d0:D}{P:List Ow->Ow->Hd->List D->Ow->D->Prop}(e1:p1=.own es r)(e2:p2=.nd hd ds)(e3:o=some (some ⟨false,kk,d0⟩))(h:P es r hd ds kk d0):∃es r hd ds kk d0,p1=.own es r/\p2=.nd hd ds/\o=some (some ⟨false,kk,d0⟩)/\P es r hd ds kk d0:=⟨es,r,hd,ds,kk,d0,e1,e2,e3,h⟩
theorem CJ{Q:Ow×D×(D->D)->Prop}(h:lr Γ b ρ=some r)(q:Q r):Wp (lr Γ b ρ) Q:=⟨r,h,q⟩
theorem p8{Q:Hd×List D->Prop}(h:mJ es k hd ds d x=some r)(q:Q r):Wp (mJ es k hd ds d x) Q:=⟨r,h,q⟩
theorem bv{Q:KD->Prop}(h:gJ k a=some r)(q:Q r):Wp (gJ k a) Q:=⟨r,h,q⟩
theorem gu{Q:KD->Prop}(h:gK k a=some r)(q:Q r):Wp (gK k a) Q:=⟨r,h,q⟩
end J
namespace J
open PySem PySem.Spec L2
mutual
theorem rT:∀{d:D} {n:Nat},cC n d=true->(py d).canLay0=true
 |.non,_,_=>by simp[py,PyData.canLay0]
 |.bl _,_,_=>by simp[py,PyData.canLay0]
 |.int _,_,_=>by simp[py,PyData.canLay0]
 |.str x,_,h=>by simpa[py,PyData.canLay0,cC] using h
 |.scr ns,_,_=>by simpa[py,PyData.canLay0] using(jl ns).1
 |.nd .lst ds,n,h=>by
  simp only[cC,Kn] at h;simpa[py,PyData.canLay0] using kq h.2
 |.nd .tup ds,n,h=>by
  simp only[cC,Kn] at h;simpa[py,PyData.canLay0] using kq h.2
 |.nd (.dic _ _) _,n,h=>by simp[cC] at h
 |.nd (.obj _ _) _,n,h=>by simp[cC] at h
theorem kq:∀{ds:List D} {n:Nat},bF n ds=true->PyData.canLayAll0 (m6 ds)=true
 |[],_,_=>by simp[m6,PyData.canLayAll0]
 |d::ds,n,h=>by
  simp only[bF,Kn] at h;simp[m6,PyData.canLayAll0,rT h.1,kq h.2]
end
theorem ig{n:Nat}(h:cC n d=true):iU d d=true:=by unfold iU;exact PySem.SeqAt.eqv_refl _ (rT h)
theorem lG{pn fg:List Nat}{fb:Ro->Option Res}(I:Nat->Ro->Prop)(R:Kd->D->Ro->Prop):∀(ds:List D) (j:Nat) (ρ:Ro),I j ρ->(∀(i:Nat) d ρ,ds[i]?=some d->I (j+i) ρ->∃ps,m7 tg d=some ps/\(ps.all λp=>!pn.contains p.1)=true/\Wp (fb (setAll ps (clrN fg ρ))) λr=>(∃ρ',(r=.nx ρ'\/r=.ct ρ')/\I (j+i+1) ρ')\/∃k d ρ',r=.rt k d ρ'/\R k d ρ')->
  (∃ρ',cx pn fg tg fb ds ρ=some (.nx (clrN fg ρ'))/\I (j+ds.length) ρ')\/∃k d ρ',cx pn fg tg fb ds ρ=some (.rt k d ρ')/\R k d ρ'
 |[],j,ρ,h0,_=>.inl ⟨ρ,rfl,h0⟩
 |d::ds,j,ρ,h0,hs=>by
  obtain⟨ps,e1,e2,r,er,hr⟩:=hs 0 d ρ rfl h0;rcases hr with⟨ρ1,hr,h1⟩|⟨k,d',ρ1,rfl,hR⟩
  ·rcases lG I R ds (j+1) ρ1 h1 λi d' ρ' e hI=>(by
    have:=hs (i+1) d' ρ' (by simpa using e) (by rw[show j+(i+1)=j+1+i by lia];exact hI);rw[show j+(i+1)+1=j+1+i+1 by lia] at this;exact this) with⟨ρ2,e3,h2⟩|⟨k,d',ρ2,e3,h2⟩
   ·refine .inl ⟨ρ2,?_,by rw[KS,show j+(ds.length+1)=j+1+ds.length by lia];exact h2⟩;unfold cx;rw[e1];dsimp only;rw[if_pos e2,er];rcases hr with rfl|rfl
    ·exact e3
    ·exact e3
   ·refine .inr ⟨k,d',ρ2,?_,h2⟩;unfold cx;rw[e1];dsimp only;rw[if_pos e2,er];rcases hr with rfl|rfl
    ·exact e3
    ·exact e3
  ·refine .inr ⟨k,d',ρ1,?_,hR⟩;unfold cx;rw[e1];dsimp only;rw[if_pos e2,er]
theorem wL{Γ:GG}{N:Nat}{pn:List Nat}{ρ:Ro}{Q:Res->Prop}{rest:bN}{fg:List Nat}{tg:IT}{it:MI}{b:bN}(h:Wp (bR Γ it ρ) λp=>∃(I:Nat->Ro->Prop) (R:Kd->D->Ro->Prop),I 0 (clrN p.1 p.2.2)/\(∀(i:Nat) d ρ,p.2.1[i]?=some d->I i ρ->∃ps,m7 tg d=some ps/\(ps.all λq=>!(pn++p.1).contains q.1)=true/\Wp (aB Γ N b (pn++p.1) (setAll ps (clrN fg ρ))) λr=>(∃ρ',(r=.nx ρ'\/r=.ct ρ')/\I (i+1) ρ')\/∃k d ρ',r=.rt k d ρ'/\R k d ρ')/\
  (∀ρ',I p.2.1.length ρ'->Wp (aB Γ N rest pn (tO p.1 p.2.2 (clrN fg ρ'))) Q)/\∀k d ρ',R k d ρ'->bp k=false/\Q (.rt k d (tO p.1 p.2.2 ρ'))):Wp (aB Γ N (.cons (.fo fg tg it b) rest) pn ρ) Q:=by
 obtain⟨⟨bs,ds,ρ0⟩,ep,I,R,h0,hs,hq,hR⟩:=h
 rcases lG (pn:=pn++bs) I R ds 0 (clrN bs ρ0) h0 (λi d ρ e hI=>by
  have:=hs i d ρ e (by simpa using hI);simpa using this) with⟨ρ',e1,h1⟩|⟨k,d,ρ',e1,h1⟩
 ·refine bS ⟨.nx _,?_,cK (hq ρ' (by simpa using h1))⟩;rw[pT,ep];show oe bs ρ0 (cx (pn++bs) fg tg (aB Γ N b (pn++bs)) ds (clrN bs ρ0))=_;rw[e1];rfl
 ·obtain⟨hb,q⟩:=hR k d ρ' h1;refine bS ⟨.rt _ _ _,?_,bG q⟩;rw[pT,ep];show oe bs ρ0 (cx (pn++bs) fg tg (aB Γ N b (pn++bs)) ds (clrN bs ρ0))=_;rw[e1];exact if_neg (by rw[hb];decide)
end J
section
open PySem L2 J
local macro_rules | `(tactic| walk_at "nm")=>`(tactic| simp only [fX,pi,oU,Ow.ch,List.getD_nil,List.getD_cons_zero,List.getD_cons_succ,KA,List.getElem?_nil,Mt,bW,pf,xY,Hd.mu,Aa,bp,mM,Dh,Di,Fe,Df,c8,setAll,clrN,tO,bP,gY,clr,List.foldl,KS,Mz,Nat.sub_self,Nat.reduceSub,Nat.reduceAdd,Nr,Option.map_none,Lr,Option.bind_none,Option.join,List.getElem?_cons_zero,List.getElem?_cons_succ,K6,List.map_nil,List.set_cons_zero,List.set_cons_succ,List.set_nil,List.replicate_succ,List.replicate_zero,LV,List.nil_append,reduceIte,L5,Int.reduceToNat,Int.reducePow,Int.reduceMul,Int.reduceAdd,Int.reduceSub,Int.reduceNeg,BP.slot,id,true_and])
local macro_rules | `(tactic| walk_at "fsc")=>`(tactic| exact ⟨rfl,rfl,rfl,by decide +kernel,rfl,by decide +kernel,by decide +kernel⟩)
namespace K73
open PySem L2 J
noncomputable def iO(i:Nat):Stmt:=PySem.Challenge.pw_gatepapers_k73_ways_that_show.main.body.getD i (.Pass ⟨0,0,0,0⟩)
noncomputable def fns:Nms:=⟨["is_whole","is_below","is_tuple","gate_at","led_back","step_back","steps_of","is_open","are_marks","block_sizes","shows","_law_next","_law_state","_law_many","_law_place","_law_circuit","_law_whole","_law_back","_law_is_thing","_law_blocks","_law_shows","_law_kept","_law_way","_law_marks","_law_odd","_law_spoilt","law"],[],λ_ _=>none,λl c=>match l,c with|104,22=>some true|104,38=>some true|104,50=>some true|127,11=>some true|153,15=>some false|154,16=>some false|160,19=>some true|163,19=>some false|163,34=>some false|164,11=>some true|169,11=>some true|173,11=>some false|200,21=>some false|201,25=>some false|201,84=>some false|43,11=>some true|56,11=>some true|_,_=>none,λi=>match i with|11=>some [true,false]|13=>some [true,false,false]|14=>some [true,false,false,false]|15=>some [true,false,false,false]|22=>some [true,false]|23=>some [true,false]|24=>some [true,false]|25=>some [true,false,false]|_=>none,λ_ _=>[],[]⟩
noncomputable def an:An:=⟨λl=>match l with|38=>[2,4]|79=>[2]|98=>[6,7,8]|136=>[4]|155=>[6,7,8]|198=>[4,5,6,7]|201=>[7,8,9,10]|204=>[10,11]|_=>[],λ_=>[],λ_=>false,λ_=>false⟩
noncomputable abbrev s0:Stmt:=iO 1
section
local macro_rules | `($a :: $b) => `(.cons $a $b)
noncomputable def b0:bN:=.ret (.p (.bool .And (.isi "int" (.var 0)::.not (.isi "bool" (.var 0))::.nil)))::.nil
theorem JX:bL fns an 60 ["thing"] s0=some b0:=by rfl
theorem JY:am ["thing"] ["thing"] (ab s0):=by walk_at "fsc"
noncomputable abbrev s1:Stmt:=iO 2
noncomputable def b1:bN:=.ret (.p (.bool .And (.fn 0 (.var 0::.nil)::.chain .LtE .Lt (.lit (.int 0)) (.var 0) (.var 1)::.nil)))::.nil
theorem JZ:bL fns an 60 ["thing","bound"] s1=some b1:=by rfl
theorem J1:am ["thing","bound"] ["thing","bound"] (ab s1):=by walk_at "fsc"
noncomputable abbrev s2:Stmt:=iO 4
noncomputable def b2:bN:=.ret (.p (.bool .And (.isi "tuple" (.var 0)::.cmp .Eq (.blt "len" (.var 0::.nil)) (.var 1)::.nil)))::.nil
theorem J2:bL fns an 60 ["thing","many"] s2=some b2:=by rfl
theorem J3:am ["thing","many"] ["thing","many"] (ab s2):=by walk_at "fsc"
noncomputable abbrev s3:Stmt:=iO 6
noncomputable def b3:bN:=.asg 2 (.p (.bin .Add (.ix (.var 0) (.lit (.int 0))) (.blt "len" (.ix (.var 0) (.lit (.int 1))::.nil))))::.ret (.p (.ifx (.cmp .GtE (.var 1) (.var 2)) (.ix (.ix (.var 0) (.lit (.int 2))) (.bin .Sub (.var 1) (.var 2))) (.lit .non)))::.nil
theorem J4:bL fns an 60 ["circuit","place","ahead"] s3=some b3:=by rfl
theorem J5:am ["circuit","place","ahead"] ["circuit","place"] (ab s3):=by walk_at "fsc"
noncomputable abbrev s4:Stmt:=iO 7
noncomputable def b4:bN:=.unp [2,3,4,5] (.p (.var 0))::.asg 6 (.p (.lit (.int 0)))::.wh [] (.p (.chain .LtE .Lt (.var 2) (.var 1) (.bin .Add (.var 2) (.blt "len" (.var 3::.nil))))) (.ifs (.p (.cmp .Eq (.var 6) (.blt "len" (.var 3::.nil)))) (.ret (.p (.lit .non))::.nil) .nil::.asg 1 (.p (.ix (.ix (.var 3) (.bin .Sub (.var 1) (.var 2))) (.lit (.int 1))))::.aug 6 .Add (.p (.lit (.int 1)))::.nil)::.ifs (.p (.bool .And (.cmp .GtE (.var 1) (.var 2)::.not (.ix (.fn 3 (.var 0::.var 1::.nil)) (.lit (.int 1)))::.nil))) (.ret (.p (.lit .non))::.nil) .nil::.ret (.p (.tup .fz (.var 1::.var 6::.nil)))::.nil
noncomputable abbrev JF:List Str:=["circuit","place","ins","memories","gates","outs","many"]
theorem J6:bL fns an 60 JF s4=some b4:=by rfl
theorem J7:am JF ["circuit","place"] (ab s4):=by walk_at "fsc"
noncomputable abbrev s5:Stmt:=iO 8
noncomputable def b5:bN:=.asg 2 (.p (.bin .Add (.bin .Add (.ix (.var 0) (.lit (.int 0))) (.blt "len" (.ix (.var 0) (.lit (.int 1))::.nil))) (.blt "len" (.ix (.var 0) (.lit (.int 2))::.nil))))::.ifs (.p (.bool .Or (.not (.fn 2 (.var 1::.lit (.int 2)::.nil))::.not (.fn 1 (.ix (.var 1) (.lit (.int 0))::.var 2::.nil))::.nil))) (.ret (.p (.lit .non))::.nil) .nil::.asg 3 (.p (.fn 3 (.var 0::.ix (.var 1) (.lit (.int 0))::.nil)))::.ifs (.p (.bool .Or (.cmp .Is (.var 3) (.lit .non)::.not (.fn 1 (.ix (.var 1) (.lit (.int 1))::.blt "len" (.ix (.var 3) (.lit (.int 1))::.nil)::.nil))::.nil))) (.ret (.p (.lit .non))::.nil) .nil::.ret (.p (.fn 4 (.var 0::.ix (.ix (.var 3) (.lit (.int 1))) (.ix (.var 1) (.lit (.int 1)))::.nil)))::.nil
noncomputable abbrev JG:List Str:=["circuit","thing","many","gate"]
theorem J8:bL fns an 60 JG s5=some b5:=by rfl
theorem J9:am JG ["circuit","thing"] (ab s5):=by walk_at "fsc"
noncomputable abbrev s6:Stmt:=iO 9
noncomputable def b6:bN:=.ifs (.p (.bool .Or (.not (.isi "list" (.var 1))::.not (.var 1)::.nil))) (.ret (.p (.lit .non))::.nil) .nil::.asg 3 (.p (.comp .fz [none,none,none,some 0] (.nm 1) (.e (.var 1)) .non (.fn 5 (.var 3::.var 1::.nil))))::.ifs (.p (.blt "any" (.comp .fz [none,none] (.nm 1) (.e (.var 3)) .non (.cmp .Is (.var 1) (.lit .non))::.nil))) (.ret (.p (.lit .non))::.nil) .nil::.fo [2,4] (.tp [.nm 2,.nm 4]) (.p (.zp (.sl (.var 1) .non (.som (.neg (.lit (.int 1))))) (.sl (.var 3) (.som (.lit (.int 1))) .non))) (.ifs (.p (.cmp .NotEq (.ix (.var 4) (.lit (.int 0))) (.ix (.var 2) (.lit (.int 0))))) (.ret (.p (.lit .non))::.nil) .nil::.nil)::.ifs (.p (.bool .And (.not (.fn 7 (.var 0::.var 3::.nil))::.cmp .NotEq (.ix (.ix (.var 3) (.lit (.int 0))) (.lit (.int 0))) (.ix (.ix (.var 1) (.neg (.lit (.int 1)))) (.lit (.int 0)))::.nil))) (.ret (.p (.lit .non))::.nil) .nil::.ret (.mv 3)::.nil
noncomputable abbrev JH:List Str:=["circuit","way","thing","steps","step"]
theorem Ka:bL fns an 60 JH s6=some b6:=by rfl
theorem Kb:am JH ["circuit","way"] (ab s6):=by walk_at "fsc"
noncomputable abbrev s7:Stmt:=iO 10
noncomputable def b7:bN:=.ret (.p (.cmp .Lt (.ix (.ix (.var 1) (.lit (.int 0))) (.lit (.int 0))) (.ix (.var 0) (.lit (.int 0)))))::.nil
theorem Kc:bL fns an 60 ["circuit","steps"] s7=some b7:=by rfl
theorem Ke:am ["circuit","steps"] ["circuit","steps"] (ab s7):=by walk_at "fsc"
noncomputable abbrev s8:Stmt:=iO 11
noncomputable def b8:bN:=.ifs (.p (.bool .Or (.not (.isi "list" (.var 0))::.cmp .Lt (.blt "len" (.var 0::.nil)) (.lit (.int 2))::.not (.blt "all" (.comp .fz [none,none,none,some 1] (.nm 1) (.e (.var 0)) .non (.fn 1 (.var 1::.var 3::.nil))::.nil))::.nil))) (.ret (.p (.lit (.bl false)))::.nil) .nil::.ifs (.p (.not (.blt "all" (.comp .fz [none,none,none] (.tp [.nm 1,.nm 2]) (.zp (.sl (.var 0) .non (.som (.neg (.lit (.int 1))))) (.sl (.var 0) (.som (.lit (.int 1))) .non)) .non (.cmp .Lt (.var 1) (.var 2))::.nil)))) (.ret (.p (.lit (.bl false)))::.nil) .nil::.ret (.p (.bool .Or (.not (.var 2)::.bool .And (.cmp .Eq (.ix (.var 0) (.lit (.int 0))) (.lit (.int 0))::.cmp .Eq (.ix (.var 0) (.neg (.lit (.int 1)))) (.bin .Sub (.var 1) (.lit (.int 1)))::.nil)::.nil)))::.nil
theorem Kf:bL fns an 60 ["marks","many","ends"] s8=some b8:=by rfl
theorem Kg:am ["marks","many","ends"] ["marks","many","ends"] (ab s8):=by walk_at "fsc"
noncomputable abbrev s9:Stmt:=iO 12
noncomputable def b9:bN:=.asg 3 (.p (.comp .fz [none,none,none] (.tp [.nm 1,.nm 2]) (.zp (.sl (.var 0) .non (.som (.neg (.lit (.int 1))))) (.sl (.var 0) (.som (.lit (.int 1))) .non)) .non (.bin .Add (.bin .Sub (.var 2) (.var 1)) (.lit (.int 1)))))::.ifs (.p (.not (.var 2))) (.exp (.mut "append" (.nm 3) (.bin .Add (.bin .Add (.bin .Sub (.var 1) (.ix (.var 0) (.neg (.lit (.int 1))))) (.ix (.var 0) (.lit (.int 0)))) (.lit (.int 1))::.nil))::.nil) .nil::.ret (.mv 3)::.nil
noncomputable abbrev JI:List Str:=["marks","many","ends","sizes"]
theorem Kh:bL fns an 60 JI s9=some b9:=by rfl
theorem Ki:am JI ["marks","many","ends"] (ab s9):=by walk_at "fsc"
noncomputable abbrev Gw:Stmt:=iO 14
noncomputable def Fk:bN:=.asg 4 (.p (.fn 6 (.var 0::.var 1::.nil)))::.ifs (.p (.bool .Or (.cmp .Is (.var 4) (.lit .non)::.not (.fn 0 (.var 3::.nil))::.nil))) (.ret (.p (.lit (.bl false)))::.nil) .nil::.asg 5 (.p (.fn 7 (.var 0::.var 4::.nil)))::.ifs (.p (.not (.fn 8 (.var 2::.blt "len" (.var 1::.nil)::.var 5::.nil)))) (.ret (.p (.lit (.bl false)))::.nil) .nil::.asg 6 (.p (.fn 9 (.var 2::.blt "len" (.var 1::.nil)::.var 5::.nil)))::.ret (.p (.bool .And (.blt "all" (.comp .fz [none,none,some 3] (.nm 1) (.e (.var 6)) .non (.cmp .Gt (.var 1) (.var 2))::.nil)::.cmp .Lt (.blt "sum" (.comp .fz [none,none,none] (.tp [.nm 1,.nm 2]) (.e (.var 4)) .non (.var 2)::.nil)) (.blt "len" (.var 6::.nil))::.nil)))::.nil
noncomputable abbrev Fl:List Str:=["circuit","way","marks","d","steps","ends","sizes"]
theorem Ij:bL fns an 60 Fl Gw=some Fk:=by rfl
theorem Ik:am Fl ["circuit","way","marks","d"] (ab Gw):=by walk_at "fsc"
noncomputable abbrev Gx:Stmt:=iO 16
noncomputable def Il:bN:=.ifs (.p (.cmp .Gt (.blt "len" (.var 0::.nil)) (.lit (.int 1)))) (.asg 2 (.p (.bin .Mod (.ix (.var 0) (.lit (.int 0))) (.var 1)))::.put (.nm 0) (.lit (.int 0)) (.p (.bin .FloorDiv (.ix (.var 0) (.lit (.int 0))) (.var 1)))::.ifs (.p (.cmp .In (.ix (.var 0) (.lit (.int 0))) (.tup .fz (.lit (.int 0)::.neg (.lit (.int 1))::.nil)))) (.exp (.mut "pop" (.nm 0) (.lit (.int 0)::.nil))::.nil) .nil::.ret (.p (.var 2))::.nil) .nil::.put (.nm 0) (.lit (.int 0)) (.p (.bin .Mod (.bin .Add (.bin .Mult (.ix (.var 0) (.lit (.int 0))) (.lit (.int 1181783497276652981))) (.lit (.int 12345678910987))) (.lit (.int 2305843009213693951))))::.ret (.p (.bin .Mod (.bin .FloorDiv (.bin .Mod (.bin .Mult (.ix (.var 0) (.lit (.int 0))) (.ix (.var 0) (.lit (.int 0)))) (.lit (.int 2305843009213693921))) (.lit (.int 65537))) (.var 1)))::.nil
noncomputable abbrev Fo:List Str:=["_law_state_here","_law_many_here","_law_found"]
theorem Im:bL fns an 60 Fo Gx=some Il:=by rfl
theorem Io:am Fo ["_law_state_here","_law_many_here"] (ab Gx):=by walk_at "fsc"
noncomputable abbrev Gy:Stmt:=iO 17
noncomputable def Ip:bN:=.asg 1 (.p (.lit (.int 1000003)))::.fo [2] (.nm 2) (.p (.e (.sl (.var 0) .non (.som (.lit (.int 200)))))) (.asg 1 (.p (.bin .Mod (.bin .Add (.bin .Add (.bin .Mult (.var 1) (.lit (.int 7368787))) (.bin .Mod (.var 2) (.bin .Pow (.lit (.int 10)) (.lit (.int 30))))) (.lit (.int 11))) (.lit (.int 2305843009213693951))))::.nil)::.ifs (.p (.bool .And (.cmp .Gt (.blt "len" (.var 0::.nil)) (.lit (.int 0))::.cmp .Eq (.bin .Mod (.ix (.var 0) (.lit (.int 0))) (.lit (.int 2))) (.lit (.int 1))::.nil))) (.ret (.p (.bin .Add (.bin .Add (.lst (.own [] .fz) (.bin .FloorDiv (.ix (.var 0) (.lit (.int 0))) (.lit (.int 2))::.nil)) (.sl (.var 0) (.som (.lit (.int 1))) (.som (.lit (.int 63))))) (.lst (.own [] .fz) (.var 1::.nil))))::.nil) .nil::.ret (.p (.lst (.own [] .fz) (.var 1::.nil)))::.nil
noncomputable abbrev Fp:List Str:=["_law_script","_law_seed","_law_cell"]
theorem Iq:bL fns an 60 Fp Gy=some Ip:=by rfl
theorem Ir:am Fp ["_law_script"] (ab Gy):=by walk_at "fsc"
noncomputable abbrev Gz:Stmt:=iO 18
noncomputable def Iu:bN:=.ifs (.cmp .Eq (.fin (.io 11 (.ref 0 (.val (.p (.lit (.int 8))) .nil))) (.lit (.int 0)::.nil))) (.ret (.io 11 (.ref 0 (.val (.p (.bin .Add (.var 2) (.lit (.int 1)))) .nil)))::.nil) .nil::.ret (.io 11 (.ref 0 (.val (.p (.bin .Add (.var 1) (.lit (.int 1)))) .nil)))::.nil
noncomputable abbrev Fs:List Str:=["_law_state_here","_law_few","_law_most"]
theorem Iv:bL fns an 60 Fs Gz=some Iu:=by rfl
theorem Iw:am Fs ["_law_state_here","_law_few","_law_most"] (ab Gz):=by walk_at "fsc"
noncomputable abbrev GA:Stmt:=iO 19
noncomputable def Ix:bN:=.asg 4 (.io 11 (.ref 0 (.val (.p (.lit (.int 3))) .nil)))::.ifs (.p (.bool .And (.cmp .Eq (.var 4) (.lit (.int 0))::.cmp .Lt (.var 1) (.var 2)::.nil))) (.ret (.bin .Add (.p (.var 1)::.fin (.io 11 (.ref 0 (.val (.p (.bin .Sub (.var 2) (.var 1))) .nil))) .nil))::.nil) .nil::.ifs (.p (.cmp .Eq (.var 4) (.lit (.int 1)))) (.ret (.bin .Sub (.p (.bin .Sub (.var 3) (.lit (.int 1)))::.fin (.io 11 (.ref 0 (.val (.p (.blt "min" (.lit (.int 3)::.var 3::.nil))) .nil))) .nil))::.nil) .nil::.ret (.io 11 (.ref 0 (.val (.p (.var 3)) .nil)))::.nil
noncomputable abbrev Fu:List Str:=["_law_state_here","_law_ins","_law_first","_law_below","_law_way_here"]
theorem Iy:bL fns an 60 Fu GA=some Ix:=by rfl
theorem Iz:am Fu ["_law_state_here","_law_ins","_law_first","_law_below"] (ab GA):=by walk_at "fsc"
noncomputable abbrev GB:Stmt:=iO 20
noncomputable def GC:bN:=.asg 4 (.p (.bin .Add (.var 1) (.var 2)))::.asg 5 (.p (.lst (.own [] .fz) .nil))::.fo [6,7,8] (.nm 6) (.p (.rng (.lit (.int 0)) (.var 3))) (.asg 7 (.bin .Mult (.fin (.ix (.p (.lst (.own [] .fz) (.lit (.int 2)::.lit (.int 1)::.lit (.int 3)::.lit (.int 0)::.lit (.int 2)::.nil))::.fin (.io 11 (.ref 0 (.val (.p (.lit (.int 5))) .nil))) .nil)) (.blt "int" (.cmp .Gt (.bin .Add (.var 4) (.var 6)) (.lit (.int 0))::.nil)::.nil)))::.asg 8 (.blt "tuple" (.fin (.comp .fz [none,none,none,some 4,some 1,some 6,some 0] (.nm 1) (.p (.rng (.lit (.int 0)) (.var 7))) .non (.io 14 (.ref 6 (.val (.p (.var 4)) (.val (.p (.var 3)) (.val (.p (.bin .Add (.var 3) (.var 5))) .nil)))))) .nil))::.exp (.mutM "append" 5 (.tup .fz (.fin (.io 11 (.ref 0 (.val (.p (.bin .LShift (.lit (.int 1)) (.bin .LShift (.lit (.int 1)) (.var 7)))) .nil))) (.var 8::.nil))))::.nil)::.asg 9 (.comp .fz [none,none,none,some 4,some 3,some 0] (.nm 1) (.p (.rng (.lit (.int 0)) (.var 2))) .non (.tup .fz (.io 11 (.ref 5 (.val (.p (.lit (.int 2))) .nil))::.fin (.io 11 (.ref 5 (.val (.p (.bin .Add (.var 3) (.var 4))) .nil))) .nil)))::.asg 10 (.comp .fz [none,none,none,some 4,some 3,some 0] (.nm 1) (.rng (.bin .Mult (.fin (.io 13 (.ref 0 (.val (.p (.lit (.int 3))) (.val (.p (.lit (.int 9))) .nil)))) (.blt "int" (.cmp .Gt (.bin .Add (.var 4) (.var 3)) (.lit (.int 0))::.nil)::.nil)))) .non (.io 11 (.ref 5 (.val (.p (.bin .Add (.var 3) (.var 4))) .nil))))::.ret (.tup .fz (.p (.var 1)::.mv 9::.mv 5::.fin (.mv 10) .nil))::.nil
noncomputable abbrev Fw:List Str:=["_law_state_here","_law_ins","_law_memories","_law_many_here","_law_first","_law_gates","_law_k","_law_size","_law_places","_law_kept_here","_law_outs"]
theorem IA:bL fns an 60 Fw GB=some GC:=by rfl
theorem IB:am Fw ["_law_state_here","_law_ins","_law_memories","_law_many_here"] (ab GB):=by walk_at "fsc"
noncomputable abbrev GD:Stmt:=iO 21
noncomputable def JJ:bN:=.ret (.p (.bool .And (.isi "int" (.var 0)::.not (.isi "bool" (.var 0))::.nil)))::.nil
theorem IC:bL fns an 60 ["_law_thing"] GD=some JJ:=by rfl
theorem ID:am ["_law_thing"] ["_law_thing"] (ab GD):=by walk_at "fsc"
noncomputable abbrev GE:Stmt:=iO 22
noncomputable def IF:bN:=.asg 3 (.p (.ix (.var 0) (.lit (.int 0))))::.asg 4 (.p (.bin .Add (.var 3) (.blt "len" (.ix (.var 0) (.lit (.int 1))::.nil))))::.asg 5 (.p (.ix (.ix (.ix (.ix (.var 0) (.lit (.int 2))) (.bin .Sub (.var 1) (.var 4))) (.lit (.int 1))) (.var 2)))::.asg 6 (.p (.lst (.own [] .fz) .nil))::.wh [] (.p (.bool .And (.chain .LtE .Lt (.var 3) (.var 5) (.var 4)::.cmp .NotIn (.var 5) (.var 6)::.nil))) (.exp (.mut "append" (.nm 6) (.var 5::.nil))::.asg 5 (.p (.ix (.ix (.ix (.var 0) (.lit (.int 1))) (.bin .Sub (.var 5) (.var 3))) (.lit (.int 1))))::.nil)::.ifs (.p (.bool .Or (.chain .LtE .Lt (.var 3) (.var 5) (.var 4)::.bool .And (.cmp .GtE (.var 5) (.var 4)::.cmp .Eq (.ix (.ix (.ix (.var 0) (.lit (.int 2))) (.bin .Sub (.var 5) (.var 4))) (.lit (.int 1))) (.tup .fz .nil)::.nil)::.nil))) (.ret (.p (.tup .fz (.lit .non::.lit (.int 0)::.nil)))::.nil) .nil::.ret (.p (.tup .fz (.var 5::.blt "len" (.var 6::.nil)::.nil)))::.nil
noncomputable abbrev Fx:List Str:=["_law_circuit_here","_law_gate","_law_k","_law_ins","_law_first","_law_place_here","_law_passed"]
theorem IG:bL fns an 60 Fx GE=some IF:=by rfl
theorem IH:am Fx ["_law_circuit_here","_law_gate","_law_k"] (ab GE):=by walk_at "fsc"
noncomputable abbrev GF:Stmt:=iO 23
noncomputable def GH:bN:=.ifs (.p (.bool .Or (.not (.isi "tuple" (.var 1))::.cmp .NotEq (.blt "len" (.var 1::.nil)) (.lit (.int 2))::.not (.fn 16 (.ix (.var 1) (.lit (.int 0))::.nil))::.not (.fn 16 (.ix (.var 1) (.lit (.int 1))::.nil))::.nil))) (.ret (.p (.lit (.bl false)))::.nil) .nil::.asg 2 (.p (.bin .Add (.ix (.var 0) (.lit (.int 0))) (.blt "len" (.ix (.var 0) (.lit (.int 1))::.nil))))::.ret (.p (.bool .And (.chain .LtE .Lt (.var 2) (.ix (.var 1) (.lit (.int 0))) (.bin .Add (.var 2) (.blt "len" (.ix (.var 0) (.lit (.int 2))::.nil)))::.chain .LtE .Lt (.lit (.int 0)) (.ix (.var 1) (.lit (.int 1))) (.blt "len" (.ix (.ix (.ix (.var 0) (.lit (.int 2))) (.bin .Sub (.ix (.var 1) (.lit (.int 0))) (.var 2))) (.lit (.int 1))::.nil))::.nil)))::.nil
noncomputable abbrev Fz:List Str:=["_law_circuit_here","_law_thing","_law_first"]
theorem IJ:bL fns an 60 Fz GF=some GH:=by rfl
theorem IK:am Fz ["_law_circuit_here","_law_thing"] (ab GF):=by walk_at "fsc"
noncomputable abbrev GI:Stmt:=iO 24
noncomputable def IL:bN:=.asg 3 (.p (.comp .fz [none,none,some 0] (.nm 1) (.rng (.lit (.int 0)) (.bin .Sub (.blt "len" (.var 0::.nil)) (.lit (.int 1)))) .non (.bin .Add (.bin .Sub (.ix (.var 2) (.bin .Add (.var 1) (.lit (.int 1)))) (.ix (.var 2) (.var 1))) (.lit (.int 1)))))::.ifs (.p (.var 2)) (.ret (.p (.bin .Add (.var 3) (.lst (.own [] .fz) (.bin .Add (.bin .Add (.bin .Sub (.var 1) (.ix (.var 0) (.neg (.lit (.int 1))))) (.ix (.var 0) (.lit (.int 0)))) (.lit (.int 1))::.nil))))::.nil) .nil::.ret (.mv 3)::.nil
noncomputable abbrev FA:List Str:=["_law_marks_here","_law_size","_law_ring","_law_blocks_here"]
theorem IM:bL fns an 60 FA GI=some IL:=by rfl
theorem IN:am FA ["_law_marks_here","_law_size","_law_ring"] (ab GI):=by walk_at "fsc"
noncomputable abbrev GJ:Stmt:=iO 25
noncomputable def GK:bN:=.ifs (.p (.bool .Or (.not (.isi "list" (.var 1))::.not (.isi "list" (.var 2))::.not (.fn 16 (.var 3::.nil))::.cmp .Lt (.blt "len" (.var 2::.nil)) (.lit (.int 2))::.nil))) (.ret (.p (.lit (.bl false)))::.nil) .nil::.ifs (.p (.bool .Or (.not (.blt "all" (.comp .fz [none,none,none,some 0] (.nm 1) (.e (.var 1)) .non (.fn 18 (.var 3::.var 1::.nil))::.nil))::.not (.blt "all" (.comp .fz [none,none,none] (.nm 1) (.e (.var 2)) .non (.fn 16 (.var 1::.nil))::.nil))::.nil))) (.ret (.p (.lit (.bl false)))::.nil) .nil::.ifs (.p (.bool .Or (.cmp .NotEq (.sset (.var 2)) (.var 2)::.cmp .Lt (.ix (.var 2) (.lit (.int 0))) (.lit (.int 0))::.cmp .GtE (.ix (.var 2) (.neg (.lit (.int 1)))) (.blt "len" (.var 1::.nil))::.nil))) (.ret (.p (.lit (.bl false)))::.nil) .nil::.asg 5 (.p (.comp .fz [none,none,none,none,some 0] (.tp [.nm 1,.nm 2]) (.e (.var 1)) .non (.fn 17 (.var 4::.var 1::.var 2::.nil))))::.fo [4] (.nm 4) (.p (.rng (.lit (.int 1)) (.blt "len" (.var 1::.nil)))) (.ifs (.p (.cmp .NotEq (.ix (.ix (.var 5) (.var 4)) (.lit (.int 0))) (.ix (.ix (.var 1) (.bin .Sub (.var 4) (.lit (.int 1)))) (.lit (.int 0))))) (.ret (.p (.lit (.bl false)))::.nil) .nil::.nil)::.asg 6 (.p (.ix (.ix (.var 5) (.lit (.int 0))) (.lit (.int 0))))::.ifs (.p (.bool .Or (.cmp .Is (.var 6) (.lit .non)::.bool .And (.cmp .GtE (.var 6) (.ix (.var 0) (.lit (.int 0)))::.cmp .NotEq (.var 6) (.ix (.ix (.var 1) (.neg (.lit (.int 1)))) (.lit (.int 0)))::.nil)::.nil))) (.ret (.p (.lit (.bl false)))::.nil) .nil::.ifs (.p (.bool .And (.cmp .Lt (.var 6) (.ix (.var 0) (.lit (.int 0)))::.bool .Or (.cmp .NotEq (.ix (.var 2) (.lit (.int 0))) (.lit (.int 0))::.cmp .NotEq (.ix (.var 2) (.neg (.lit (.int 1)))) (.bin .Sub (.blt "len" (.var 1::.nil)) (.lit (.int 1)))::.nil)::.nil))) (.ret (.p (.lit (.bl false)))::.nil) .nil::.asg 7 (.p (.fn 19 (.var 2::.blt "len" (.var 1::.nil)::.cmp .GtE (.var 6) (.ix (.var 0) (.lit (.int 0)))::.nil)))::.ret (.p (.bool .And (.cmp .Gt (.blt "min" (.var 7::.nil)) (.var 3)::.cmp .Lt (.blt "sum" (.comp .fz [none,none,none] (.tp [.nm 1,.nm 2]) (.e (.var 5)) .non (.var 2)::.nil)) (.blt "len" (.var 7::.nil))::.nil)))::.nil
noncomputable abbrev FB:List Str:=["_law_circuit_here","_law_way_here","_law_marks_here","_law_d","_law_k","_law_sources","_law_start","_law_blocks_here"]
theorem IP:bL fns an 60 FB GJ=some GK:=by rfl
theorem IQ:am FB ["_law_circuit_here","_law_way_here","_law_marks_here","_law_d"] (ab GJ):=by walk_at "fsc"
noncomputable abbrev GL:Stmt:=iO 26
noncomputable def IU:bN:=.ret (.p (.tup .fz (.ix (.var 0) (.lit (.int 0))::.blt "list" (.ix (.var 0) (.lit (.int 1))::.nil)::.blt "list" (.ix (.var 0) (.lit (.int 2))::.nil)::.blt "list" (.ix (.var 0) (.lit (.int 3))::.nil)::.nil)))::.nil
theorem IV:bL fns an 60 ["_law_circuit_here"] GL=some IU:=by rfl
theorem IW:am ["_law_circuit_here"] ["_law_circuit_here"] (ab GL):=by walk_at "fsc"
noncomputable abbrev GM:Stmt:=iO 27
noncomputable def GN:bN:=.asg 2 (.p (.bin .Add (.ix (.var 1) (.lit (.int 0))) (.blt "len" (.ix (.var 1) (.lit (.int 1))::.nil))))::.asg 3 (.p (.comp .fz [none,none,some 1,some 2] (.nm 1) (.rng (.var 2) (.bin .Add (.var 2) (.blt "len" (.ix (.var 1) (.lit (.int 2))::.nil)))) (.som (.cmp .NotEq (.ix (.ix (.ix (.var 2) (.lit (.int 2))) (.bin .Sub (.var 1) (.var 3))) (.lit (.int 1))) (.tup .fz .nil))) (.var 1)))::.asg 4 (.p (.lst (.own [] .fz) .nil))::.ifs (.p (.cmp .Eq (.var 3) (.lst (.own [] .fz) .nil))) (.ret (.fz 4)::.nil) .nil::.asg 5 (.ix (.fz 3::.fin (.io 11 (.ref 0 (.val (.p (.blt "len" (.var 3::.nil))) .nil))) .nil))::.fo [6,7,8] (.nm 6) (.p (.rng (.lit (.int 0)) (.lit (.int 9)))) (.asg 7 (.io 11 (.ref 0 (.val (.p (.blt "len" (.ix (.ix (.ix (.var 1) (.lit (.int 2))) (.bin .Sub (.var 5) (.var 2))) (.lit (.int 1))::.nil))) .nil)))::.exp (.mut "insert" (.nm 4) (.lit (.int 0)::.tup .fz (.var 5::.var 7::.nil)::.nil))::.asg 5 (.p (.ix (.fn 17 (.var 1::.var 5::.var 7::.nil)) (.lit (.int 0))))::.ifs (.p (.bool .Or (.cmp .Is (.var 5) (.lit .non)::.cmp .Lt (.var 5) (.ix (.var 1) (.lit (.int 0)))::.nil))) (.ret (.mv 4)::.nil) .nil::.asg 8 (.p (.comp .fz [none,none,none,some 5] (.tp [.nm 1,.nm 2]) (.enm (.var 4)) (.som (.cmp .Eq (.ix (.var 2) (.lit (.int 0))) (.var 3))) (.var 1)))::.ifs (.bool .And (.p (.cmp .NotEq (.var 8) (.lst (.own [] .fz) .nil))::.one (.cmp .Gt (.fin (.io 11 (.ref 0 (.val (.p (.lit (.int 3))) .nil))) (.lit (.int 0)::.nil))))) (.ret (.slh (.fz 4::.fin (.bin .Add (.fin (.ix (.fz 8::.fin (.io 11 (.ref 0 (.val (.p (.blt "len" (.var 8::.nil))) .nil))) .nil)) (.lit (.int 1)::.nil))) .nil))::.nil) .nil::.nil)::.ret (.mv 4)::.nil
noncomputable abbrev FC:List Str:=["_law_state_here","_law_circuit_here","_law_first","_law_some","_law_way_here","_law_gate","_law_go","_law_k","_law_passed"]
theorem IX:bL fns an 60 FC GM=some GN:=by rfl
theorem IY:am FC ["_law_state_here","_law_circuit_here"] (ab GM):=by walk_at "fsc"
noncomputable abbrev sQ:Stmt:=iO 28
noncomputable def IZ:bN:=.asg 2 (.comp .fz [none,none,none,some 0] (.nm 1) (.p (.rng (.lit (.int 0)) (.var 1))) (.som (.cmp .Eq (.fin (.io 11 (.ref 3 (.val (.p (.lit (.int 3))) .nil))) (.lit (.int 0)::.nil)))) (.p (.var 1)))::.ifs (.cmp .Gt (.fin (.io 11 (.ref 0 (.val (.p (.lit (.int 4))) .nil))) (.lit (.int 0)::.nil))) (.asg 2 (.p (.sset (.bin .Add (.bin .Add (.lst (.own [] .fz) (.lit (.int 0)::.nil)) (.var 2)) (.lst (.own [] .fz) (.bin .Sub (.var 1) (.lit (.int 1))::.nil)))))::.nil) .nil::.ret (.mv 2)::.nil
noncomputable abbrev FD:List Str:=["_law_state_here","_law_size","_law_marks_here"]
theorem I0:bL fns an 60 FD sQ=some IZ:=by rfl
theorem I9:am FD ["_law_state_here","_law_size"] (ab sQ):=by walk_at "fsc"
noncomputable abbrev z4:Stmt:=iO 29
noncomputable def Ja:bN:=.asg 2 (.p (.lst (.own [] .fz) (.lit .non::.lit (.bl true)::.lit (.str "way")::.tup .fz .nil::.lst (.own [] .fz) .nil::.lst (.own [] .fz) (.tup .fz .nil::.nil)::.neg (.lit (.int 1))::.bin .Pow (.lit (.int 10)) (.lit (.int 20))::.lst (.own [] .fz) (.lit (.bl true)::.nil)::.lst (.own [] .fz) (.tup .fz (.var 1::.nil)::.nil)::.lst (.own [] .fz) (.tup .fz (.var 1::.lit (.int 0)::.lit (.int 0)::.nil)::.nil)::.lst (.own [] .fz) (.lst (.own [] .fz) (.var 1::.lit (.int 0)::.nil)::.nil)::.nil)))::.aug 2 .Add (.p (.lst (.own [] .fz) (.lst (.own [] .fz) (.tup .fz (.var 1::.lit (.bl true)::.nil)::.nil)::.lst (.own [] .fz) (.tup .fz (.lit (.bl true)::.lit (.int 0)::.nil)::.nil)::.lst (.own [] .fz) (.tup .fz (.neg (.lit (.int 1))::.lit (.int 0)::.nil)::.nil)::.lst (.own [] .fz) (.tup .fz (.var 1::.neg (.lit (.int 1))::.nil)::.nil)::.lst (.own [] .fz) (.tup .fz (.var 1::.lit (.str "0")::.nil)::.nil)::.lst (.own [] .fz) (.tup .fz (.var 1::.lit (.int 3)::.nil)::.nil)::.lst (.own [] .fz) (.lit .non::.nil)::.dnew 0 .fz::.nil)))::.ret (.ix (.fz 2::.fin (.io 11 (.ref 0 (.val (.p (.lit (.int 20))) .nil))) .nil))::.nil
noncomputable abbrev FE:List Str:=["_law_state_here","_law_first","_law_some"]
theorem Jb:bL fns an 60 FE z4=some Ja:=by rfl
theorem Jc:am FE ["_law_state_here","_law_first"] (ab z4):=by walk_at "fsc"
noncomputable abbrev GO:Stmt:=iO 30
noncomputable def Jd:bN:=.unp [3,4,5] (.p (.var 2))::.asg 6 (.p (.bin .Add (.ix (.var 1) (.lit (.int 0))) (.blt "len" (.ix (.var 1) (.lit (.int 1))::.nil))))::.asg 7 (.io 11 (.ref 0 (.val (.p (.lit (.int 8))) .nil)))::.ifs (.p (.cmp .Eq (.var 7) (.lit (.int 0)))) (.ret (.lst (.own [] .fz) (.fin (.io 24 (.ref 0 (.val (.p (.var 6)) .nil))) (.var 4::.var 5::.nil)))::.nil) .nil::.ifs (.p (.cmp .Eq (.var 7) (.lit (.int 1)))) (.ret (.lst (.own [] .fz) (.p (.var 3)::.fin (.io 24 (.ref 0 (.val (.p (.var 6)) .nil))) (.var 5::.nil)))::.nil) .nil::.ifs (.p (.cmp .Eq (.var 7) (.lit (.int 2)))) (.ret (.lst (.own [] .fz) (.p (.var 3)::.p (.var 4)::.fin (.io 24 (.ref 0 (.val (.p (.var 6)) .nil))) .nil))::.nil) .nil::.asg 8 (.io 11 (.ref 0 (.val (.p (.bin .Add (.blt "len" (.var 3::.nil)) (.lit (.int 1)))) .nil)))::.ifs (.p (.cmp .Eq (.var 7) (.lit (.int 3)))) (.ret (.lst (.own [] .fz) (.fin (.bin .Add (.fin (.bin .Add (.p (.sl (.var 3) .non (.som (.var 8)))::.fin (.lst (.own [] .fz) (.fin (.tup .fz (.bin .Add (.p (.var 6)::.fin (.io 11 (.ref 0 (.val (.p (.lit (.int 9))) .nil))) .nil)::.fin (.io 11 (.ref 0 (.val (.p (.lit (.int 3))) .nil))) .nil)) .nil)) .nil)) (.sl (.var 3) (.som (.bin .Add (.var 8) (.lit (.int 1)))) .non::.nil))) (.var 4::.var 5::.nil)))::.nil) .nil::.ifs (.p (.cmp .Eq (.var 7) (.lit (.int 4)))) (.ret (.p (.lst (.own [] .fz) (.bin .Add (.sl (.var 3) .non (.som (.var 8))) (.sl (.var 3) (.som (.bin .Add (.var 8) (.lit (.int 1)))) .non)::.var 4::.var 5::.nil)))::.nil) .nil::.ifs (.p (.cmp .Eq (.var 7) (.lit (.int 5)))) (.ret (.p (.lst (.own [] .fz) (.var 3::.bin .Add (.var 4) (.sl (.var 4) (.som (.neg (.lit (.int 1)))) .non)::.var 5::.nil)))::.nil) .nil::.ifs (.p (.cmp .Eq (.var 7) (.lit (.int 6)))) (.ret (.p (.lst (.own [] .fz) (.var 3::.ix (.ix (.lst (.own [] .fz) (.lst (.own [] .fz) (.blt "tuple" (.var 4::.nil)::.sl (.var 4) (.som (.lit (.int 1))) .non::.nil)::.lst (.own [] .fz) (.sl (.var 4) .non (.som (.neg (.lit (.int 1))))::.lrev (.var 4)::.nil)::.nil)) (.bin .Mod (.var 8) (.lit (.int 2)))) (.bin .Mod (.var 5) (.lit (.int 2)))::.var 5::.nil)))::.nil) .nil::.ret (.p (.lst (.own [] .fz) (.var 3::.comp .fz [none,none] (.nm 1) (.e (.var 4)) .non (.bin .Add (.var 1) (.lit (.int 1)))::.var 5::.nil)))::.nil
noncomputable abbrev FF:List Str:=["_law_state_here","_law_circuit_here","_law_handed","_law_way_here","_law_marks_here","_law_d","_law_first","_law_how","_law_at"]
theorem Je:bL fns an 60 FF GO=some Jd:=by rfl
theorem Jf:am FF ["_law_state_here","_law_circuit_here","_law_handed"] (ab GO):=by walk_at "fsc"
noncomputable abbrev wM:Stmt:=iO 31
noncomputable def GQ:bN:=.asg 1 (.p (.fn 12 (.var 0::.nil)))::.asg 2 (.io 15 (.ref 1 (.val (.io 13 (.ref 1 (.val (.p (.lit (.int 2))) (.val (.p (.lit (.int 9))) .nil)))) (.val (.io 13 (.ref 1 (.val (.p (.lit (.int 4))) (.val (.p (.lit (.int 9))) .nil)))) (.val (.bin .Add (.p (.lit (.int 1))::.fin (.io 13 (.ref 1 (.val (.p (.lit (.int 8))) (.val (.p (.lit (.int 24))) .nil)))) .nil)) .nil)))))::.asg 3 (.p (.fn 21 (.var 2::.nil)))::.fo [4,5,6,7] (.nm 4) (.p (.rng (.lit (.int 0)) (.lit (.int 6)))) (.asg 5 (.io 22 (.ref 1 (.val (.p (.var 2)) .nil)))::.asg 6 (.lst (.own [] .fz) (.fz 5::.io 23 (.ref 1 (.val (.p (.blt "len" (.var 5::.nil))) .nil))::.fin (.bin .Sub (.fin (.io 11 (.ref 1 (.val (.p (.lit (.int 7))) .nil))) (.lit (.int 1)::.nil))) .nil))::.fo [7,8,9,10] (.nm 7) (.e (.lst (.own [] .fz) (.fz 6::.fin (.io 25 (.ref 1 (.val (.p (.var 2)) (.val (.fz 6) .nil)))) .nil))) (.asg 8 (.p (.fn 20 (.var 2::.ix (.var 7) (.lit (.int 0))::.ix (.var 7) (.lit (.int 1))::.ix (.var 7) (.lit (.int 2))::.nil)))::.asg 9 (.p (.comp .fz [none,none,none,none] (.nm 1) (.e (.var 7)) .non (.ifx (.isi "list" (.var 1)) (.blt "list" (.var 1::.nil)) (.var 1))))::.fo [10,11] (.nm 10) (.p (.rng (.lit (.int 0)) (.lit (.int 2)))) (.asg 11 (.p (.fn 10 (.var 3::.ix (.var 9) (.lit (.int 0))::.ix (.var 9) (.lit (.int 1))::.ix (.var 9) (.lit (.int 2))::.nil)))::.ifs (.p (.bool .Or (.not (.isi "bool" (.var 11))::.cmp .NotEq (.var 11) (.var 8)::.cmp .NotEq (.var 9) (.var 7)::.cmp .NotEq (.var 3) (.var 2)::.nil))) (.ret (.p (.lit (.bl false)))::.nil) .nil::.nil)::.nil)::.nil)::.ret (.p (.lit (.bl true)))::.nil
end
noncomputable abbrev FG:List Str:=["_law_script","_law_state_here","_law_circuit_here","_law_handed","_law_go","_law_way_here","_law_some","_law_one","_law_due","_law_given","_law_asking","_law_found"]
theorem Jg:bL fns an 60 FG wM=some GQ:=by rfl
theorem Jh:am FG ["_law_script"] (ab wM):=by walk_at "fsc"
noncomputable def Γ0:GG:=⟨λ_=>none,λ_=>none⟩
noncomputable def ψ0:Fn:=cy Γ0 1000 1 1 b0
noncomputable def Γ_0:GG:=Γ0.addI 0 ψ0
noncomputable def ψ1:Fn:=cy Γ_0 1000 2 2 b1
noncomputable def Γ_1:GG:=Γ_0.addI 1 ψ1
noncomputable def ψ2:Fn:=cy Γ_1 1000 2 2 b2
noncomputable def Γ_2:GG:=Γ_1.addI 2 ψ2
noncomputable def ψ3:Fn:=cy Γ_2 1000 2 3 b3
noncomputable def Γ_3:GG:=Γ_2.addI 3 ψ3
noncomputable def ψ4:Fn:=cy Γ_3 1000 2 7 b4
noncomputable def Γ_4:GG:=Γ_3.addI 4 ψ4
noncomputable def ψ5:Fn:=cy Γ_4 1000 2 4 b5
noncomputable def Γ_5:GG:=Γ_4.addI 5 ψ5
noncomputable def ψ7:Fn:=cy Γ_5 1000 2 2 b7
noncomputable def Γ_7:GG:=Γ_5.addI 7 ψ7
noncomputable def ψ6:Fn:=cy Γ_7 1000 2 5 b6
noncomputable def Γ_6:GG:=Γ_7.addI 6 ψ6
noncomputable def ψ8:Fn:=cy Γ_6 1000 3 3 b8
noncomputable def Γ_8:GG:=Γ_6.addI 8 ψ8
noncomputable def ψ9:Fn:=cy Γ_8 1000 3 4 b9
noncomputable def Γ_9:GG:=Γ_8.addI 9 ψ9
noncomputable def CK:Fn:=cy Γ_9 1000 4 7 Fk
noncomputable def Γ_10:GG:=Γ_9.addI 10 CK
noncomputable def Dq:Fm:=hU Γ_10 1000 2 3 [0] Il
noncomputable def Γ_11:GG:=Γ_10.addM 11 Dq
noncomputable def FH:Fn:=cy Γ_11 1000 1 3 Ip
noncomputable def Γ_12:GG:=Γ_11.addI 12 FH
noncomputable def Dr:Fm:=hU Γ_12 1000 3 3 [0] Iu
noncomputable def Γ_13:GG:=Γ_12.addM 13 Dr
noncomputable def Ds:Fm:=hU Γ_13 1000 4 5 [0] Ix
noncomputable def Γ_14:GG:=Γ_13.addM 14 Ds
noncomputable def Dt:Fm:=hU Γ_14 1000 4 11 [0] GC
noncomputable def Γ_15:GG:=Γ_14.addM 15 Dt
noncomputable def CL:Fn:=cy Γ_15 1000 1 1 JJ
noncomputable def Γ_16:GG:=Γ_15.addI 16 CL
noncomputable def CM:Fn:=cy Γ_16 1000 3 7 IF
noncomputable def Γ_17:GG:=Γ_16.addI 17 CM
noncomputable def FI:Fn:=cy Γ_17 1000 2 3 GH
noncomputable def Γ_18:GG:=Γ_17.addI 18 FI
noncomputable def FJ:Fn:=cy Γ_18 1000 3 4 IL
noncomputable def Γ_19:GG:=Γ_18.addI 19 FJ
noncomputable def FK:Fn:=cy Γ_19 1000 4 8 GK
noncomputable def Γ_20:GG:=Γ_19.addI 20 FK
noncomputable def FL:Fn:=cy Γ_20 1000 1 1 IU
noncomputable def Γ_21:GG:=Γ_20.addI 21 FL
noncomputable def FM:Fm:=hU Γ_21 1000 2 9 [0] GN
noncomputable def Γ_22:GG:=Γ_21.addM 22 FM
noncomputable def FN:Fm:=hU Γ_22 1000 2 3 [0] IZ
noncomputable def Γ_23:GG:=Γ_22.addM 23 FN
noncomputable def FO:Fm:=hU Γ_23 1000 2 3 [0] Ja
noncomputable def Γ_24:GG:=Γ_23.addM 24 FO
noncomputable def FQ:Fm:=hU Γ_24 1000 3 9 [0] Jd
noncomputable def kQ:GG:=Γ_24.addM 25 FQ
noncomputable def FR:Fn:=cy kQ 1000 1 12 GQ
noncomputable abbrev k0:Ow:=.own [] .fz
noncomputable abbrev iD(n:Nat):D:=.int (n:Int)
noncomputable abbrev fS(d:D):Option Sl:=some ⟨false,.fz,d⟩
noncomputable abbrev bh(d:D):Option Sl:=some ⟨false,k0,d⟩
theorem aC(h:Wp φ λx=>x=r):φ=some r:=by obtain⟨x,e,rfl⟩:=h;exact e
theorem tQ{α:Type}{φ:Option α}{r:α}(h:Wp φ λx=>x=r):φ=some r:=by obtain⟨x,e,rfl⟩:=h;exact e
theorem wv{α:Type}{a:Option α}{r:α}{Q:α->Prop}(h:a=some r)(q:Q r):Wp a Q:=⟨r,h,q⟩
section
variable {Γ:Nat->Option Fn} {ρ:Ro} {a b c:IE} {r:fN} {k k' k'':Kd} {i j l:Int} {x y z:Bool} {d d':D} {xs:List D} {hd:Hd}
theorem bE(ha:aa Γ a ρ=some (k,.int i))(hb:aa Γ b ρ=some (k',.int j)):aa Γ (.bin .Add a b) ρ=some (.sh,.int (i+j)):=aC (aV (wv ha (wv hb (dG rfl))))
theorem cz(ha:aa Γ a ρ=some (k,.int i))(hb:aa Γ b ρ=some (k',.int j)):aa Γ (.bin .Sub a b) ρ=some (.sh,.int (i-j)):=aC (aV (wv ha (wv hb (kh rfl))))
theorem wN(h:0<j)(ha:aa Γ a ρ=some (k,.int i))(hb:aa Γ b ρ=some (k',.int j)):aa Γ (.bin .Mod a b) ρ=some (.sh,.int (i%j)):=aC (aV (wv ha (wv hb (gr h rfl))))
theorem kr{xs ys:List D}(h:ip k xs=true/\ip k' ys=true/\xs.length+ys.length<=100000)(ha:aa Γ a ρ=some (k,.lst xs))(hb:aa Γ b ρ=some (k',.lst ys)):aa Γ (.bin .Add a b) ρ=some (.fr aZ,.lst (xs++ys)):=aC (aV (wv ha (wv hb (pY h rfl))))
theorem wP{z:Int}{n:Nat}(hh:hd=.lst\/hd=.tup)(hz:ir xs.length z=some n)(hx:xs[n]?=some d):pq (some (k,.nd hd xs)) (some (k',.int z))=some (oU k n,d):=by
 rcases hh with rfl|rfl
 ·exact aC (Cw hz hx rfl)
 ·exact aC (Cy hz hx rfl)
theorem Ai{m n:Nat}{z:Int}(hz:z=n)(h:n<m):ir m z=some n:=by subst hz;rw[mP (by lia) (by lia)];rfl
theorem FS{m:Nat}(h:0<m):ir m (-1)=some (m-1):=by
 unfold ir;rw[if_neg (by decide),if_pos (by lia)];congr 1
 lia
theorem aY{n:Nat}{z:Int}(ha:aa Γ a ρ=some (k,.nd hd xs))(hb:aa Γ b ρ=some (k',.int z))(hh:hd=.lst\/hd=.tup)(hz:z=n)(hx:xs[n]?=some d):aa Γ (.ix a b) ρ=some (oU k n,d):=by
 rw[my,ha,hb];exact wP hh (Ai hz (Ky.mp hx).1) hx
theorem gw(ha:aa Γ a ρ=some (k,.nd hd xs))(hh:hd=.lst\/hd=.tup)(hx:xs[xs.length-1]?=some d):aa Γ (.ix a (.neg (.lit (.int 1)))) ρ=some (oU k (xs.length-1),d):=by
 rw[my,ha,show aa Γ (.neg (.lit (.int 1))) ρ=some (.sh,.int (-1)) from rfl];exact wP hh (FS (by have:=(Ky.mp hx).1;lia)) hx
theorem oB{n:Nat}(ha:aa Γ a ρ=some (k,d))(h:yr d=some n):aa Γ (.blt "len" (.cons a .nil)) ρ=some (.sh,.int n):=aC (cH (ae (wv ha (ah (CA h rfl)))))
theorem e1{p:KD}(ha:aa Γ a ρ=some p):aG Γ (.cons a .nil) ρ=some [p]:=tQ (ae (wv ha (ah rfl)))
theorem e2(ha:aa Γ a ρ=some p)(hb:aa Γ b ρ=some q):aG Γ (.cons a (.cons b .nil)) ρ=some [p,q]:=tQ (ae (wv ha (ae (wv hb (ah rfl)))))
theorem e3(ha:aa Γ a ρ=some p)(hb:aa Γ b ρ=some q)(hc:aa Γ c ρ=some u):aG Γ (.cons a (.cons b (.cons c .nil))) ρ=some [p,q,u]:=tQ (ae (wv ha (ae (wv hb (ae (wv hc (ah rfl)))))))
theorem e4(ha:aa Γ a ρ=some p)(hb:aa Γ b ρ=some q)(hc:aa Γ c ρ=some u)(he:aa Γ e ρ=some t):aG Γ (.cons a (.cons b (.cons c (.cons e .nil)))) ρ=some [p,q,u,t]:=tQ (ae (wv ha (ae (wv hb (ae (wv hc (ae (wv he (ah rfl)))))))))
theorem ce{n:Nat}{φ:Fn}{kds:List KD}{p:KD}(hΓ:Γ n=some φ)(he:aG Γ es ρ=some kds)(hk:(kds.all λp=>ph p.1 p.2)=true)(hd:kds.map (·.2)=ds)(hφ:φ ds=some p)(hb:bp p.1=false):aa Γ (.fn n es) ρ=some p:=
 aC (wq hΓ (wv he (wC ⟨p,by rw[hd];exact hφ,hb,.inl hk,rfl⟩)))
theorem Aj{n:Nat}{φ:Fn}{kds:List KD}{p:KD}(hΓ:Γ n=some φ)(he:aG Γ es ρ=some kds)(hk:mt p.1 p.2=true)(hd:kds.map (·.2)=ds)(hφ:φ ds=some p)(hb:bp p.1=false):aa Γ (.fn n es) ρ=some p:=
 aC (wq hΓ (wv he (wC ⟨p,by rw[hd];exact hφ,hb,.inr hk,rfl⟩)))
/- tests -/
theorem bO(ha:aa Γ a ρ=some (k,d))(hb:aa Γ b ρ=some (k',d'))(h:bf op d d'=some x):av Γ (.cmp op a b) ρ=some x:=tQ (wt (wv ha (wv hb (wv h rfl))))
theorem jh(ha:aa Γ a ρ=some (k,.int i))(hb:aa Γ b ρ=some (k',.int j)):av Γ (.cmp .Lt a b) ρ=some (decide (i<j)):=bO ha hb rfl
theorem qc(ha:aa Γ a ρ=some (k,.int i))(hb:aa Γ b ρ=some (k',.int j)):av Γ (.cmp .Gt a b) ρ=some (decide (j<i)):=bO ha hb rfl
theorem tu(ha:aa Γ a ρ=some (k,.int i))(hb:aa Γ b ρ=some (k',.int j)):av Γ (.cmp .GtE a b) ρ=some (decide (j<=i)):=bO ha hb rfl
theorem gx(ha:aa Γ a ρ=some (k,.int i))(hb:aa Γ b ρ=some (k',.int j)):av Γ (.cmp .Eq a b) ρ=some (decide (i=j)):=bO ha hb (tQ (rP rfl))
theorem tw(ha:aa Γ a ρ=some (k,.int i))(hb:aa Γ b ρ=some (k',.int j)):av Γ (.cmp .NotEq a b) ρ=some (!decide (i=j)):=bO ha hb (tQ (wz rfl))
theorem zo(ha:aa Γ a ρ=some (k,d)):av Γ (.cmp .Is a (.lit .non)) ρ=some (uM d):=bO ha rfl rfl
theorem dw(ha:aa Γ a ρ=some (k,.int i))(hb:aa Γ b ρ=some (k',.int j))(hc:aa Γ c ρ=some (k'',.int l)):av Γ (.chain .LtE .Lt a b c) ρ=some (decide (i<=j)&&decide (j<l)):=by
 rw[jW,ha,hb,hc]
 show(match bf .LtE (.int i) (.int j) with|some true=>_|some false=>_|none=>none)=_
 show(match some (decide (i<=j)) with|some true=>_|some false=>_|none=>none)=_
 cases decide (i<=j)<;>rfl
theorem aQ(h:av Γ a ρ=some x):av Γ (.not a) ρ=some (!x):=by rw[vo,h];rfl
theorem bz(h:av Γ a ρ=some x):av Γ (.bool op (.cons a .nil)) ρ=some x:=tQ (oq (wv h rfl))
theorem bj(h:av Γ a ρ=some x)(h2:x=false->av Γ (.bool .Or (.cons b r)) ρ=some y):av Γ (.bool .Or (.cons a (.cons b r))) ρ=some (x||y):=by
 refine tQ (kg (wv h ?_));cases x
 ·exact⟨λ_=>wv (h2 rfl) rfl,λh=>absurd rfl h⟩
 ·exact⟨λh=>absurd h (by decide),λ_=>rfl⟩
theorem ii(h:av Γ a ρ=some x)(h2:x=true->av Γ (.bool .And (.cons b r)) ρ=some y):av Γ (.bool .And (.cons a (.cons b r))) ρ=some (x&&y):=by
 refine tQ (kg (wv h ?_));cases x
 ·exact⟨λh=>absurd h (by decide),λ_=>rfl⟩
 ·exact⟨λ_=>wv (h2 rfl) rfl,λh=>absurd rfl h⟩
theorem kR{n:Nat}(h:aa Γ (.fn n es) ρ=some (k,.bl x)):av Γ (.fn n es) ρ=some x:=by rw[yJ,<- vn,h];rfl
theorem oC{n:Str}(h:aa Γ (.blt n es) ρ=some (k,.bl x)):av Γ (.blt n es) ρ=some x:=by rw[vt,<- qX,h];rfl
theorem cN{T:Str}(ha:aa Γ a ρ=some (k,d))(h:eV T d=some x):av Γ (.isi T a) ρ=some x:=by
 rw[vq,<- qW,show aa Γ (.isi T a) ρ=some (.sh,.bl x) from aC (pX (wv ha (wv h rfl)))];rfl
theorem rV{n:Nat}{s:Sl}(h:ρ[n]?=some (some s))(ht:nA s.d=some x):av Γ (.var n) ρ=some x:=by
 rw[vp,h];show dE (some (fX n s))=_;unfold dE;obtain⟨bo,ks,ds⟩:=s
 cases bo<;>(unfold fX;first|exact ht|(split<;>exact ht))
theorem Ji(h:aa Γ (.ix a b) ρ=some (k,d))(ht:nA d=some x):av Γ (.ix a b) ρ=some x:=by rw[yI,<- my,h];exact ht
/- truths as values -/
theorem dY(h:av Γ (.cmp op a b) ρ=some x):aa Γ (.cmp op a b) ρ=some (.sh,.bl x):=by rw[yE,<- nR,h];rfl
theorem jx(h:av Γ (.chain op op' a b c) ρ=some x):aa Γ (.chain op op' a b c) ρ=some (.sh,.bl x):=by rw[sR,<- jW,h];rfl
theorem kt{T:Str}(ha:aa Γ a ρ=some (k,d))(h:eV T d=some x):aa Γ (.isi T a) ρ=some (.sh,.bl x):=aC (pX (wv ha (wv h rfl)))
theorem wQ(h:aa Γ a ρ=some (k,d))(ht:nA d=some x):aa Γ (.not a) ρ=some (.sh,.bl (!x)):=aC (wm (wv h (wv ht rfl)))
theorem ij(h:aa Γ a ρ=some p):aa Γ (.bool op (.cons a .nil)) ρ=some p:=aC (oo (wv h rfl))
theorem fq(h:aa Γ a ρ=some (k,.bl x))(h2:x=true->aa Γ (.bool .And (.cons b r)) ρ=some (.sh,.bl y)):aa Γ (.bool .And (.cons a (.cons b r))) ρ=some (.sh,.bl (x&&y)):=by
 refine aC (kf (wv h ⟨x,rfl,?_⟩));cases x
 ·exact⟨λh=>absurd h (by decide),λ_=>rfl⟩
 ·exact⟨λ_=>wv (h2 rfl) rfl,λh=>absurd rfl h⟩
theorem Jj(h:aa Γ a ρ=some (k,.bl x))(h2:x=false->aa Γ (.bool .Or (.cons b r)) ρ=some (.sh,.bl y)):aa Γ (.bool .Or (.cons a (.cons b r))) ρ=some (.sh,.bl (x||y)):=by
 refine aC (kf (wv h ⟨x,rfl,?_⟩));cases x
 ·exact⟨λ_=>wv (h2 rfl) rfl,λh=>absurd rfl h⟩
 ·exact⟨λh=>absurd h (by decide),λ_=>rfl⟩
theorem wR(h:av Γ t ρ=some x)(h1:x=true->aa Γ a ρ=some p)(h2:x=false->aa Γ b ρ=some p):aa Γ (.ifx t a b) ρ=some p:=aC (wn (wv h ⟨λe=>wv (h1 e) rfl,λe=>wv (h2 e) rfl⟩))
/- comprehensions -/
theorem CN{α:Type}{f:α->D}{l:List α}{ys:List D}(hl:ys.length=l.length)(h:∀(i:Nat) y,ys[i]?=some y->∃a,l[i]?=some a/\y=f a):ys=l.map f:=by
 refine Mq λi=>?_;rw[Kr]
 cases e:ys[i]? with
 |none=>
  have:l[i]?=none:=Lk (by have:=LJ.mp e;lia);rw[this];rfl
 |some y=>
  obtain⟨a,e1,rfl⟩:=h i y e;rw[e1];rfl
theorem rW{α:Type}{l:List α}{f g:α->D}{r:Ow}{fe:D->Option (Option KD)}(h:∀a∈l,Wp (fe (f a)) λo=>∃kd,o=some (kd,g a)/\cP r (kd,g a)=true):Wp (aO r fe (l.map f)) λys=>ys=l.map g:=by
 refine Ii (λj y=>∃a,l[j]?=some a/\y=g a) (λj d hd=>?_) λys hy hp=>CN (by rw[hy,Kp]) hp;rw[Kr] at hd
 cases e:l[j]? with
 |none=>rw[e] at hd;cases hd
 |some a=>
  rw[e] at hd;cases hd;exact(h a (KP e)).mono λo ⟨kd,e1,e2⟩=>⟨_,e1,e2,a,rfl,rfl⟩
theorem mS(n:Nat):cb 0 n=(KG n).map iD:=by
 unfold cb;rw[M5,Lh];exact M0 λk _=>by rw[M6]
theorem ku{α:Type}{l:List α}{f g:α->D}{hd:Hd}{r:Ow}{cap:List (Option Nat)}{tg:IT}{a elt:IE}(hh:hd=.lst\/hd=.tup)(ha:aa Γ a ρ=some (k,.nd hd (l.map f)))(ho:ip k (l.map f)=true)(hl:l.length<=100000)
  (h:∀a∈l,Wp (dk tg (cI Γ .non) (aa Γ elt) (bP ρ cap) (f a)) λo=>∃kd,o=some (kd,g a)/\cP r (kd,g a)=true):aa Γ (.comp r cap tg (.e a) .non elt) ρ=some (.fr (.own [] r),.lst (l.map g)):=by
 refine aC (hV (Ct (wv ha ?_)));rcases hh with rfl|rfl
 ·exact pZ ho ⟨by simpa using hl,(rW h).mono λys e=>by rw[e]⟩
 ·exact CD ho ⟨by simpa using hl,(rW h).mono λys e=>by rw[e]⟩
theorem Jk{n:Nat}{g:Nat->D}{r:Ow}{cap:List (Option Nat)}{tg:IT}{a elt:IE}(ha:aa Γ a ρ=some (k,iD n))(hn:n<=100000)
  (h:∀i,i<n->Wp (dk tg (cI Γ .non) (aa Γ elt) (bP ρ cap) (iD i)) λo=>∃kd,o=some (kd,g i)/\cP r (kd,g i)=true):aa Γ (.comp r cap tg (.rng (.lit (.int 0)) a) .non elt) ρ=some (.fr (.own [] r),.lst ((KG n).map g)):=by
 refine aC (hV (df (ar (wv ha (dh (a6 (by lia) (by lia) (by lia) (by lia) (by lia)) ⟨?_,?_⟩)))))
 ·show(cb 0 (n:Int)).length<=_;rw[mS,Kp,K5];exact hn
 ·show Wp (aO r _ (cb 0 (n:Int))) _;rw[mS];exact(rW λi hi=>h i (KU.mp hi)).mono λys e=>by rw[e]
theorem zq{fe:Ro->Option KD}{Q:Option KD->Prop}(hn:c6 [(1,d)] ρ0=true)(h:Wp (fe (setAll [(1,d)] ρ0)) λx=>Q (some x)):Wp (dk (.nm 1) (cI Γ .non) fe ρ0 d) Q:=wJ (ps:=[(1,d)]) rfl hn rfl h
theorem FT{a b:D}{fe:Ro->Option KD}{ρ0:Ro}{Q:Option KD->Prop}(hn:c6 [(1,a),(2,b)] ρ0=true)(h:Wp (fe (setAll [(1,a),(2,b)] ρ0)) λx=>Q (some x)):Wp (dk (.tp [.nm 1,.nm 2]) (cI Γ .non) fe ρ0 (.tup [a,b])) Q:=wJ (ps:=[(1,a),(2,b)]) rfl hn rfl h
/- all,any,sum,min over a comprehension -/
theorem oE{bs:List Bool}(h:aa Γ a ρ=some (k,.lst (bs.map D.bl))):aa Γ (.blt "all" (.cons a .nil)) ρ=some (.sh,.bl (bs.all id)):=aC (cH (ae (wv h (ah (CB rfl)))))
end
section
variable {Γ:GG} {N:Nat} {pn:List Nat} {ρ:Ro} {Q:Res->Prop} {rest:bN}
theorem bT(h:Wp (aB Γ N rest pn ρ) Q):Wp (aB Γ N .nil pn ρ) (Kt Γ N rest pn Q):=bX (cK h)
theorem dZ{z:Bool}(h:av Γ.fn t ρ=some z)(h1:z=true->Wp (aB Γ N a pn ρ) (Kt Γ N rest pn Q))(h2:z=false->Wp (aB Γ N b pn ρ) (Kt Γ N rest pn Q)):Wp (aB Γ N (.cons (.ifs (.p t) a b) rest) pn ρ) Q:=
 rS (ox (wv h ⟨h1,h2⟩))
theorem aP{z:Bool}{x:KD}(h:av Γ.fn t ρ=some z)(h1:z=true->aa Γ.fn e ρ=some x/\bp (bW x.1 x.2)=false/\Q (.rt (bW x.1 x.2) x.2 ρ))(h2:z=false->Wp (aB Γ N rest pn ρ) Q):Wp (aB Γ N (.cons (.ifs (.p t) (.cons (.ret (.p e)) .nil) .nil) rest) pn ρ) Q:=
 dZ h (λe'=>aS (a9 (wv (h1 e').1 ⟨(h1 e').2.1,bG (h1 e').2.2⟩))) λe'=>bT (h2 e')
theorem aK{i:Nat}{x:KD}(h:aa Γ.fn e ρ=some x)(hb:bp (bW x.1 x.2)=false)(hn:i∉pn)(w:Wp (aB Γ N rest pn (ρ.set i (some ⟨false,Aa (bW x.1 x.2),x.2⟩))) Q):Wp (aB Γ N (.cons (.asg i (.p e)) rest) pn ρ) Q:=
 bY (a9 (wv h ⟨⟨hb,hn⟩,w⟩))
theorem cA{x:KD}(h:aa Γ.fn e ρ=some x)(hb:bp (bW x.1 x.2)=false)(q:Q (.rt (bW x.1 x.2) x.2 ρ)):Wp (aB Γ N (.cons (.ret (.p e)) rest) pn ρ) Q:=aS (a9 (wv h ⟨hb,q⟩))
end
theorem wS(d:D):bW .sh d=.sh:=rfl
theorem lH(d:D):bp (bW .sh d)=false:=by rw[wS];rfl
theorem aW(d:D):Wp (hJ (some (.rt (bW .sh d) d ρ))) λx=>x=(.sh,d):=by rw[wS];exact fU rfl rfl
theorem dq{N m k:Nat}{ds:List D}(hl:ds.length=m)(h:Wp (aB Γ N body [] (mM k (ds.map Fe))) λr=>Wp (hJ (some r)) λx=>x=p):cy Γ N m k body ds=some p:=aC (CI hl h)
theorem lI{ft:Ro->Option (Bool×Ro)}{fb:Ro->Option Res}{Q:Res->Prop}(I:Nat->Ro->Prop)(hs:∀m ρ,I m ρ->Wp (ft (clrN fg ρ)) λp=>(p.1=false->Q (.nx p.2))/\(p.1=true->Wp (fb p.2) λr=>(∃ρ' m',(r=.nx ρ'\/r=.ct ρ')/\m'<m/\I m' ρ')\/∃k d ρ',r=.rt k d ρ'/\Q (.rt k d ρ'))):∀n m ρ,m<n->I m ρ->Wp (iN fg ft fb n ρ) Q
 |0,m,ρ,h,_=>absurd h (LQ _)
 |n+1,m,ρ,h,hI=>by
  obtain⟨⟨b,ρ1⟩,e1,q1,q2⟩:=hs m ρ hI
  cases b with
  |false=>exact⟨.nx ρ1,by unfold iN;rw[e1],q1 rfl⟩
  |true=>
   obtain⟨r,e2,hr⟩:=q2 rfl;rcases hr with⟨ρ',m',hr,hm,hI'⟩|⟨k,d,ρ',rfl,q⟩
   ·obtain⟨x,e3,q3⟩:=lI I hs n m' ρ' (by lia) hI';refine⟨x,?_,q3⟩;unfold iN;rw[e1];dsimp only at e2⊢;rw[e2]
    rcases hr with rfl|rfl<;>exact e3
   ·refine⟨_,?_,q⟩;unfold iN;rw[e1];dsimp only at e2⊢;rw[e2]
theorem Ak{Γ:GG}{N:Nat}{pn:List Nat}{ρ:Ro}{Q:Res->Prop}{rest:bN}{fg:List Nat}{t:MT}{b:bN}(I:Nat->Ro->Prop){m0:Nat}(hm:m0<N)(h0:I m0 ρ)
  (hs:∀m ρ,I m ρ->Wp (aU Γ t (clrN fg ρ)) λp=>(p.1=false->Wp (aB Γ N rest pn p.2) Q)/\(p.1=true->Wp (aB Γ N b pn p.2) λr=>(∃ρ' m',(r=.nx ρ'\/r=.ct ρ')/\m'<m/\I m' ρ')\/∃k d ρ',r=.rt k d ρ'/\Q (.rt k d ρ'))):Wp (aB Γ N (.cons (.wh fg t b) rest) pn ρ) Q:=by
 obtain⟨r,e,q⟩:=lI (fg:=fg) (ft:=aU Γ t) (fb:=aB Γ N b pn) (Q:=Kt Γ N rest pn Q) I (λm ρ hI=>(hs m ρ hI).mono λp hp=>⟨hp.1,λe=>(hp.2 e).mono λr hr=>hr.imp id λ⟨k,d,ρ',e,q⟩=>⟨k,d,ρ',e,q⟩⟩) N m0 ρ hm h0;exact bS ⟨r,by rw[Co];exact e,q⟩
structure Ci where
 ins:Nat
 mems:List (Nat×Nat)
 gates:List (Nat×List Nat)
 outs:List Nat
noncomputable def iP(m:Nat×Nat):D:=.tup [iD m.1,iD m.2]
noncomputable def di(g:Nat×List Nat):D:=.tup [iD g.1,.tup (g.2.map iD)]
noncomputable def cL(c:Ci):List D:=[iD c.ins,.lst (c.mems.map iP),.lst (c.gates.map di),.lst (c.outs.map iD)]
noncomputable def cD(c:Ci):D:=.tup [iD c.ins,.lst (c.mems.map iP),.lst (c.gates.map di),.lst (c.outs.map iD)]
noncomputable def Ci.f(c:Ci):Nat:=c.ins+c.mems.length
noncomputable def Ci.n(c:Ci):Nat:=c.f+c.gates.length
structure Ok(c:Ci):Prop where
 g:∀g∈c.gates,g.2.length<=3/\∀p∈g.2,p<c.n
 m:∀m∈c.mems,m.2<c.n
 bi:c.ins<=100
 bm:c.mems.length<=100
 bg:c.gates.length<=100
 bo:c.outs.length<=100
noncomputable def jy(c:Ci)(p:Nat):Bool:=decide (c.ins<=p)&&decide (p<c.f)
noncomputable def nx(c:Ci)(p:Nat):Nat:=(c.mems.getD (p-c.ins) (0,0)).2
noncomputable def tr(c:Ci)(p:Nat):Nat->Nat
 |0=>p
 |i+1=>nx c (tr c p i)
noncomputable def kw(c:Ci)(p:Nat):Option Nat:=(KG (c.mems.length+1)).find? λt=>!jy c (tr c p t)
noncomputable def pl(c:Ci)(g:Nat):List Nat:=(c.gates.getD (g-c.f) (0,[])).2
noncomputable def fu(c:Ci)(p:Nat):Option (Nat×Nat):=match kw c p with
 |none=>none
 |some t=>if c.f<=tr c p t/\pl c (tr c p t)=[] then none else some (tr c p t,t)
theorem isM_iff{c:Ci}{p:Nat}:jy c p=true↔c.ins<=p/\p<c.f:=by unfold jy;simp
theorem zt{c:Ci}{p:Nat}:(decide ((c.ins:Int)<=(p:Int))&&decide ((p:Int)<(c.ins:Int)+(c.mems.length:Int)))=jy c p:=by
 unfold jy Ci.f;congr 1
 ·exact decide_eq_decide.mpr (by lia)
 ·exact decide_eq_decide.mpr (by lia)
theorem Al{c:Ci}{p:Nat}(h:jy c p=true):∃m,c.mems[p-c.ins]?=some m/\m.2=nx c p:=by
 obtain⟨h1,h2⟩:=isM_iff.mp h;have:p-c.ins<c.mems.length:=by unfold Ci.f at h2;lia
 refine⟨c.mems[p-c.ins],Ko this,?_⟩;unfold nx;rw[KA,Ko this];rfl
theorem FU{c:Ci}(ok:Ok c){p:Nat}(h:jy c p=true):nx c p<c.n:=by
 obtain⟨m,e,e2⟩:=Al h;rw[<- e2];exact ok.m m (KP e)
theorem wU{c:Ci}(ok:Ok c){p:Nat}(hp:p<c.n):∀{i:Nat},(∀j,j<i->jy c (tr c p j)=true)->tr c p i<c.n
 |0,_=>hp
 |i+1,h=>FU ok (h i (Lb _))
theorem led_none{c:Ci}{p:Nat}:kw c p=none↔∀t,t<=c.mems.length->jy c (tr c p t)=true:=by
 unfold kw;rw[List.find?_eq_none];constructor
 ·intro h t ht;have:=h t (KU.mpr (by lia));simpa using this
 ·intro h t ht;have:=h t (by have:=KU.mp ht;lia);simp[this]
theorem oF{c:Ci}{p t:Nat}(ht:t<=c.mems.length)(h1:∀j,j<t->jy c (tr c p j)=true)(h2:jy c (tr c p t)=false):kw c p=some t:=by
 unfold kw;rw[List.find?_eq_some_iff_append];refine⟨by simp[h2],KG t,(KG (c.mems.length-t)).map (·+(t+1)),?_,?_⟩
 ·refine Mb (by simp;lia) λi a1 a2=>?_;rw[LR];rcases Nd i t with g|g|g
  ·rw[List.getElem_append_left (by simpa using g),LR]
  ·subst g;rw[Ms (by simp)];simp
  ·rw[Ms (by simp;lia)];simp only[K5,List.getElem_cons,LW,LR];rw[dif_neg (by lia)]
   lia
 ·intro j hj;have:=h1 j (KU.mp hj);simp[this]
theorem lJ{c:Ci}{g:Nat}(h1:c.f<=g)(h2:g<c.n):∃x,c.gates[g-c.f]?=some x/\x.2=pl c g:=by
 have:g-c.f<c.gates.length:=by unfold Ci.n at h2;lia
 refine⟨c.gates[g-c.f],Ko this,?_⟩;unfold pl;rw[KA,Ko this];rfl
noncomputable def oD:Option (Nat×Nat)->D
 |none=>.non
 |some x=>.tup [iD x.1,iD x.2]
section
variable {Γ:Nat->Option Fn} {ρ:Ro} {a b:IE} {c:Ci} {g:Nat}
theorem c0(h:aa Γ a ρ=some (.sh,cD c)):aa Γ (.ix a (.lit (.int 0))) ρ=some (.sh,iD c.ins):=aY (n:=0) h rfl (.inr rfl) rfl rfl
theorem c1(h:aa Γ a ρ=some (.sh,cD c)):aa Γ (.ix a (.lit (.int 1))) ρ=some (.sh,.lst (c.mems.map iP)):=aY (n:=1) h rfl (.inr rfl) rfl rfl
theorem c2(h:aa Γ a ρ=some (.sh,cD c)):aa Γ (.ix a (.lit (.int 2))) ρ=some (.sh,.lst (c.gates.map di)):=aY (n:=2) h rfl (.inr rfl) rfl rfl
theorem aM{α:Type}{l:List α}{f:α->D}(hh:hd=.lst\/hd=.tup)(h:aa Γ a ρ=some (k,.nd hd (l.map f))):aa Γ (.blt "len" (.cons a .nil)) ρ=some (.sh,iD l.length):=
 oB h (by rcases hh with rfl|rfl<;>exact congrArg some (Kp _))
theorem FV(h:aa Γ a ρ=some (.sh,cD c)):aa Γ (.bin .Add (.ix a (.lit (.int 0))) (.blt "len" (.cons (.ix a (.lit (.int 1))) .nil))) ρ=some (.sh,iD c.f):=bE (c0 h) (aM (.inl rfl) (c1 h))
theorem FW(hx:c.gates[g-c.f]?=some x):(c.gates.map di)[g-c.f]?=some (di x):=by rw[Kr,hx];rfl
theorem oG{m n:Nat}(h:n<=m):((m:Int)-(n:Int))=((m-n:Nat):Int):=by lia
theorem wV(ha:aa Γ a ρ=some (.sh,.lst (c.gates.map di)))(hb:aa Γ b ρ=some (.sh,.int ((g:Int)-(c.f:Int))))(h1:c.f<=g)(h2:g<c.n):aa Γ (.ix (.ix a b) (.lit (.int 1))) ρ=some (.sh,.tup ((pl c g).map iD)):=by
 obtain⟨x,hx,ex⟩:=lJ h1 h2;refine aY (n:=1) (aY (n:=g-c.f) ha hb (.inl rfl) (oG h1) (FW hx)) rfl (.inr rfl) rfl ?_;rw[<- ex];rfl
end
theorem rX{c:Ci}{g:Nat}(h2:g<c.n):ψ3 [cD c,iD g]=some (.sh,if c.f<=g then di (c.gates.getD (g-c.f) (0,[])) else .non):=by
 unfold ψ3;refine dq rfl ?_;unfold b3
 walk_at "nm"
 have v0:∀{Γ:Nat->Option Fn} {x:Option Sl},aa Γ (.var 0) [fS (cD c),fS (iD g),x]=some (.sh,cD c):=rfl;refine aK (FV v0) rfl (by decide) ?_
 refine cA (x:=(.sh,if c.f<=g then di (c.gates.getD (g-c.f) (0,[])) else .non)) (wR (tu rfl rfl) (λe=>?_) λe=>?_) (lH _) (aW _)
 ·have e:(c.f:Int)<=(g:Int):=of_decide_eq_true e;obtain⟨x,hx,ex⟩:=lJ (c:=c) (g:=g) (by lia) h2;rw[if_pos (by lia)];refine aY (n:=g-c.f) (c2 rfl) (cz rfl rfl) (.inl rfl) (oG (by lia)) ?_;rw[FW hx,KA,hx];rfl
 ·have e:¬(c.f:Int)<=(g:Int):=of_decide_eq_false e;rw[if_neg (by lia)];rfl
theorem oH{c:Ci}{g:Nat}(h1:c.f<=g)(h2:g<c.n):ψ3 [cD c,iD g]=some (.sh,.tup [iD (c.gates.getD (g-c.f) (0,[])).1,.tup ((pl c g).map iD)]):=by
 rw[rX h2,if_pos h1];rfl
theorem zu{α:Type}{l:List α}{f:α->D}:nA (.tup (l.map f))=some (!l.isEmpty):=by cases l<;>rfl
noncomputable abbrev R4(c:Ci)(p q m:Nat):Ro:=[fS (cD c),fS (iD q),fS (iD c.ins),fS (.lst (c.mems.map iP)),fS (.lst (c.gates.map di)),fS (.lst (c.outs.map iD)),fS (iD m)]
theorem CP{c:Ci}{q:Nat}(h:jy c q=true):∃m,(c.mems.map iP)[q-c.ins]?=some (iP m)/\m.2=nx c q/\c.ins<=q:=by
 obtain⟨m,e,e2⟩:=Al h;exact⟨m,by rw[Kr,e];rfl,e2,(isM_iff.mp h).1⟩
theorem FX{c:Ci}{q:Nat}(h:jy c q=true)(ha:aa Γ a ρ=some (.sh,.lst (c.mems.map iP)))(hb:aa Γ b ρ=some (.sh,.int ((q:Int)-(c.ins:Int)))):aa Γ (.ix (.ix a b) (.lit (.int 1))) ρ=some (.sh,iD (nx c q)):=by
 obtain⟨m,e,e2,h1⟩:=CP h;rw[<- e2];exact aY (n:=1) (aY (n:=q-c.ins) ha hb (.inl rfl) (oG h1) e) rfl (.inr rfl) rfl rfl
theorem CQ{c:Ci}(ok:Ok c){p:Nat}(hp:p<c.n):ψ4 [cD c,iD p]=some (.sh,oD (fu c p)):=by
 have hbm:=ok.bm;unfold ψ4;refine dq rfl ?_;unfold b4
 walk_at "nm"
 refine CF (a9 (wv (r:=(.sh,cD c)) rfl ⟨_,_,_,rfl,rfl,⟨rfl,rfl⟩,?_⟩));refine aK (x:=(.sh,iD 0)) rfl rfl (by decide) ?_;show Wp (aB _ _ _ [] (R4 c p p 0)) _;refine Ak (λm ρ=>∃j,j<=c.mems.length/\m=c.mems.length-j/\ρ=R4 c p (tr c p j) j/\∀i,i<j->jy c (tr c p i)=true) (m0:=c.mems.length) (by lia) ⟨0,K2 _,rfl,rfl,λi h=>absurd h (LQ _)⟩ λm ρ hI=>?_;obtain⟨j,hj,rfl,rfl,hM⟩:=hI;refine ox (wv (dw rfl rfl (bE rfl (aM (l:=c.mems) (.inl rfl) rfl))) ?_);rw[zt];refine⟨λe=>?_,λe=>?_⟩
 ·have hl:kw c p=some j:=oF hj hM e;have hlt:=wU ok hp hM
  have hf:c.ins<=tr c p j->c.f<=tr c p j:=λh=>by
   rcases KW (tr c p j) c.f with g|g
   ·rw[isM_iff.mpr ⟨h,g⟩] at e;cases e
   ·exact g
  refine aP (x:=(.sh,.non)) (ii (tu rfl rfl) λe1=>bz (aQ (Ji (aY (n:=1) (ce (φ:=ψ3) (ds:=[cD c,iD (tr c p j)]) rfl (e2 rfl rfl) rfl rfl (oH (hf (by have:=of_decide_eq_true e1;lia)) hlt) rfl) rfl (.inr rfl) rfl rfl) zu))) (λe1=>⟨rfl,rfl,?_⟩) λe1=>?_
  ·rw[Kn,decide_eq_true_eq,Bool.not_not,Nm] at e1;unfold fu;rw[hl];dsimp only;rw[if_pos ⟨hf (by lia),e1.2⟩];exact aW _
  ·have hb:fu c p=some (tr c p j,j):=by
    unfold fu;rw[hl];dsimp only;rw[if_neg]
    rintro ⟨h1,h2⟩
    rw[h2] at e1;simp at e1;unfold Ci.f at h1
    lia
   rw[hb];exact cA (x:=(.sh,.tup [iD (tr c p j),iD j])) rfl rfl (aW _)
 ·refine aP (x:=(.sh,.non)) (gx rfl (aM (l:=c.mems) (.inl rfl) rfl)) (λe1=>⟨rfl,rfl,.inr ⟨_,_,_,rfl,?_⟩⟩) λe1=>?_
  ·have e1:(j:Int)=(c.mems.length:Int):=of_decide_eq_true e1
   have hn:kw c p=none:=led_none.mpr λt ht=>by
    rcases KW t j with g|g
    ·exact hM t g
    ·obtain rfl:t=j:=by lia
     exact e
   unfold fu;rw[hn];exact aW _
  ·have e1:¬(j:Int)=(c.mems.length:Int):=of_decide_eq_false e1;refine aK (FX e rfl (cz rfl rfl)) rfl (by decide) ?_;refine Fh (s:=⟨false,.fz,iD j⟩) rfl (a9 (wv (r:=(.sh,.int 1)) rfl ⟨by decide,.int ((j:Int)+1),rfl,?_⟩));refine bX (.inl ⟨_,c.mems.length-(j+1),.inl rfl,by lia,j+1,by lia,rfl,rfl,λi hi=>?_⟩);rcases KW i j with g|g
   ·exact hM i g
   ·obtain rfl:i=j:=by lia
    exact e
theorem i3{n:Nat}:∀ps:List Nat,bF n (ps.map iD)=true
 |[]=>rfl
 |p::ps=>by simp only[K6,bF,cC,K7];exact i3 ps
theorem FY(i j:Nat):iU (iD i) (iD j)=decide (i=j):=by rw[jv];exact decide_eq_decide.mpr (by lia)
theorem CS{q:Nat}{ls:List Nat}:bf .NotIn (iD q) (.lst (ls.map iD))=some (!decide (q∈ls)):=by
 show(if cC 90 (iD q)=true/\bF 90 (ls.map iD)=true then some (!((ls.map iD).any λz=>iU z (iD q))) else none)=_
 rw[if_pos ⟨rfl,i3 ls⟩,M7];congr 2
 induction ls with
 |nil=>rfl
 |cons a l ih=>
  rw[List.any_cons,ih];show(iU (iD a) (iD q)||_)=_;rw[FY];by_cases h:a=q
  ·subst h;simp
  ·rw[decide_eq_false h,LP];exact decide_eq_decide.mpr ⟨λz=>Kx _ z,λz=>(Ku.mp z).resolve_left λe=>h e.symm⟩
theorem zw{ls:List Nat}:bf .Eq (.tup (ls.map iD)) (.tup [])=some ls.isEmpty:=by
 show(if cC 90 (.tup (ls.map iD))=true/\cC 90 (.tup [])=true then some (iU (.tup (ls.map iD)) (.tup [])) else none)=_
 rw[if_pos ⟨by show(decide (1<=90)&&bF 89 _)=true;rw[i3];rfl,rfl⟩]
 cases ls<;>rfl
theorem wX{c:Ci}{p j:Nat}(hM:∀i,i<j->jy c (tr c p i)=true)(hN:((KG j).map (tr c p)).Nodup):j<=c.mems.length:=by
 have:=List.Nodup.length_le_of_subset hN (l₂:=(KG c.mems.length).map (·+c.ins)) λx hx=>by
  obtain⟨i,hi,rfl⟩:=Lf.mp hx;obtain⟨h1,h2⟩:=isM_iff.mp (hM i (KU.mp hi));unfold Ci.f at h2;exact Lf.mpr ⟨tr c p i-c.ins,KU.mpr (by lia),by lia⟩
 simpa using this
theorem wY{p j:Nat}(hM:∀i,i<j->jy c (tr c p i)=true)(h:tr c p j∈(KG j).map (tr c p)):∀t,∃i,i<j/\tr c p t=tr c p i:=by
 obtain⟨i0,h0,e0⟩:=Lf.mp h;have h0:=KU.mp h0;intro t
 induction t with
 |zero=>exact⟨0,by lia,rfl⟩
 |succ t ih=>
  obtain⟨i,hi,e⟩:=ih;have e2:tr c p (t+1)=tr c p (i+1):=by show nx c (tr c p t)=nx c (tr c p i);rw[e]
  rcases KW (i+1) j with g|g
  ·exact⟨i+1,g,e2⟩
  ·obtain rfl:i+1=j:=by lia
   exact⟨i0,h0,by rw[e2,e0]⟩
noncomputable def lD:Option (Nat×Nat)->D
 |none=>.tup [.non,iD 0]
 |some x=>.tup [iD x.1,iD x.2]
noncomputable abbrev GR(c:Ci)(g k q:Nat)(ps:List Nat):Ro:=[fS (cD c),fS (iD g),fS (iD k),fS (iD c.ins),fS (iD c.f),fS (iD q),bh (.lst (ps.map iD))]
theorem oI{c:Ci}(ok:Ok c){g k:Nat}(h1:c.f<=g)(h2:g<c.n)(hk:k<(pl c g).length):CM [cD c,iD g,iD k]=some (.sh,lD (fu c ((pl c g).getD k 0))):=by
 have hbm:=ok.bm
 have hp:(pl c g).getD k 0<c.n:=by
  obtain⟨x,hx,ex⟩:=lJ h1 h2;rw[KA,Ko hk];exact(ok.g x (KP hx)).2 _ (by rw[ex];exact Ld hk)
 have hat:((pl c g).map iD)[k]?=some (iD ((pl c g).getD k 0)):=by rw[Kr,KA,Ko hk];rfl
 generalize (pl c g).getD k 0=p at hp hat⊢;unfold CM;refine dq rfl ?_;unfold IF
 walk_at "nm"
 refine aK (c0 rfl) rfl (by decide) ?_;refine aK (bE rfl (aM (.inl rfl) (c1 rfl))) rfl (by decide) ?_;refine aK (aY (n:=k) (wV (g:=g) (c2 rfl) (cz rfl rfl) h1 h2) rfl (.inr rfl) rfl hat) rfl (by decide) ?_;refine aK (x:=(.fr k0,.lst [])) rfl rfl (by decide) ?_;show Wp (aB _ _ _ [] (GR c g k p [])) _;refine Ak (λm ρ=>∃j,m=c.mems.length-j/\ρ=GR c g k (tr c p j) ((KG j).map (tr c p))/\(∀i,i<j->jy c (tr c p i)=true)/\((KG j).map (tr c p)).Nodup) (m0:=c.mems.length) (by lia) ⟨0,rfl,rfl,λi h=>absurd h (LQ _),.nil⟩ λm ρ hI=>?_;obtain⟨j,rfl,rfl,hM,hN⟩:=hI;have hj:=wX hM hN
 have isM_f:(decide ((c.ins:Int)<=((tr c p j:Nat):Int))&&decide (((tr c p j:Nat):Int)<(c.f:Int)))=jy c (tr c p j):=by
  unfold jy;congr 1
  ·exact decide_eq_decide.mpr (by lia)
  ·exact decide_eq_decide.mpr (by lia)
 have ch:∀{Γ:Nat->Option Fn},av Γ (.chain .LtE .Lt (.var 3) (.var 5) (.var 4)) (GR c g k (tr c p j) ((KG j).map (tr c p)))=some (jy c (tr c p j)):=λ{Γ}=>by rw[<- isM_f];exact dw rfl rfl rfl
 refine ox (wv (ii ch λe1=>bz (bO rfl rfl CS)) ⟨λe=>?_,λe=>?_⟩)
 ·have hlt:=wU ok hp hM;by_cases hm:jy c (tr c p j)=true
  ·rw[hm,K7,Ln,decide_eq_true_eq] at e
   have hn:kw c p=none:=led_none.mpr λt _=>by
    obtain⟨i,hi,e2⟩:=wY hM e t;rw[e2];exact hM i hi
   have hb:fu c p=none:=by unfold fu;rw[hn]
   rw[hb];refine aP (z:=true) (x:=(.sh,lD none)) (bj (x:=true) (y:=false) (ch.trans (congrArg some hm)) λe=>by cases e) (λ_=>⟨rfl,rfl,aW _⟩) λe=>by cases e
  ·have hm:jy c (tr c p j)=false:=by simpa using hm
   have hl:kw c p=some j:=oF hj hM hm;refine aP (x:=(.sh,lD none)) (bj (x:=false) (ch.trans (congrArg some hm)) λ_=>bz (ii (tu rfl rfl) λe1=>bz (bO (wV (g:=tr c p j) (c2 rfl) (cz rfl rfl) (by have:=of_decide_eq_true e1;lia) hlt) (d':=.tup []) rfl zw))) (λe1=>⟨rfl,rfl,?_⟩) λe1=>?_
   ·rw[LP,Kn,decide_eq_true_eq,Nm] at e1
    have hb:fu c p=none:=by
     unfold fu;rw[hl];dsimp only;rw[if_pos ⟨by lia,e1.2⟩]
    rw[hb];exact aW _
   ·have hb:fu c p=some (tr c p j,j):=by
     unfold fu;rw[hl];dsimp only;rw[if_neg]
     rintro ⟨h1,h2⟩
     rw[h2] at e1;simp at e1
     lia
    rw[hb];refine cA (x:=(.sh,.tup [iD (tr c p j),iD j])) (aC (pW (ae (wv (r:=(.sh,iD (tr c p j))) rfl (ae (wv (aM (l:=(KG j).map (tr c p)) (.inl rfl) rfl) (ah ?_))))))) rfl (aW _);rw[Kp,K5];exact gu rfl rfl
 ·rw[Kn,K4,decide_eq_false_iff_not] at e
  have hN':((KG (j+1)).map (tr c p)).Nodup:=by
   rw[Nt,KR];refine Ng.mpr ⟨hN,by simp,λa ha b hb=>?_⟩;rw[K0.mp hb];exact λz=>e.2 (z▸ha)
  have hM':∀i,i<j+1->jy c (tr c p i)=true:=λi hi=>by
   rcases KW i j with g|g
   ·exact hM i g
   ·obtain rfl:i=j:=by lia
    exact e.1
  have hj':=wX hM' hN';refine lF (mR (wv (r:=(.sh,iD (tr c p j))) rfl ⟨[],.fz,_,rfl,⟨K2 _,rfl,by rw[Kp,Kp,K5];lia⟩,?_⟩));refine aK (FX e.1 (c1 rfl) (cz rfl rfl)) rfl (by decide) ?_;refine bX (.inl ⟨_,c.mems.length-(j+1),.inl rfl,by lia,j+1,rfl,?_,hM',hN'⟩);have em:((KG (j+1)).map (tr c p)).map iD=((KG j).map (tr c p)).map iD++[iD (tr c p j)]:=by rw[Nt,KR,KR];rfl
  unfold GR;rw[em];rfl
inductive At where
 |non
 |bl (b:Bool)
 |int (i:Int)
 |str (s:Str)
noncomputable def At.d:At->D
 |.non=>.non
 |.bl b=>.bl b
 |.int i=>.int i
 |.str s=>.str s
inductive Th where
 |ato (a:At)
 |tup (as:List At)
 |lst (as:List At)
noncomputable def Th.d:Th->D
 |.ato a=>a.d
 |.tup as=>.tup (as.map At.d)
 |.lst as=>.lst (as.map At.d)
noncomputable def qd:D->Bool
 |.int _=>true
 |_=>false
noncomputable def rY(d:D)(n:Int):Bool:=match d with
 |.int i=>decide (0<=i)&&decide (i<n)
 |_=>false
theorem rZ{N:Nat}{t:String}(h:sO d=some t):Wp (aB Γ N b0 [] [fS d]) λr=>Wp (hJ (some r)) λx=>x=(.sh,.bl (qd d)):=by
 have no:∀{d:D},eV "int" d=some false->Wp (aB Γ N b0 [] [fS d]) λr=>Wp (hJ (some r)) λx=>x=(.sh,.bl false):=λh=>cA (x:=(.sh,.bl false)) (fq (x:=false) (kt rfl h) (y:=true) λe=>by cases e) rfl (aW _)
 cases d with
 |non=>exact no rfl
 |bl b=>exact cA (x:=(.sh,.bl false)) (fq (x:=true) (y:=false) (kt rfl rfl) λe=>ij (wQ (kt (x:=true) rfl rfl) rfl)) rfl (aW _)
 |int b=>exact cA (x:=(.sh,.bl true)) (fq (x:=true) (y:=true) (kt rfl rfl) λe=>ij (wQ (kt (x:=false) rfl rfl) rfl)) rfl (aW _)
 |str b=>exact no rfl
 |scr ns=>cases h
 |nd hd ds=>cases hd with
  |lst=>exact no rfl
  |tup=>exact no rfl
  |dic t ks=>cases t with
   |zero=>exact no rfl
   |succ t=>cases h
  |obj cc ns=>cases h
theorem oJ{d:D}{t:String}(h:sO d=some t):ψ0 [d]=some (.sh,.bl (qd d)):=dq rfl (rZ h)
theorem fF{d:D}{t:String}(h:sO d=some t):CL [d]=some (.sh,.bl (qd d)):=dq rfl (rZ h)
theorem eS{t:String}(h:sO d=some t)(n:Int):ψ1 [d,.int n]=some (.sh,.bl (rY d n)):=by
 unfold ψ1;refine dq rfl ?_;unfold b1
 walk_at "nm"
 refine cA (x:=(.sh,.bl (rY d n))) ?_ rfl (aW _)
 have e:rY d n=(qd d&&rY d n):=by cases d<;>rfl
 rw[e];refine fq (ce (φ:=ψ0) (ds:=[d]) rfl (e1 rfl) rfl rfl (oJ h) rfl) λhw=>ij ?_
 cases d with
 |int i=>exact jx (dw rfl rfl rfl)
 |_=>cases hw
theorem oK(a:At):∃t,sO a.d=some t:=by cases a<;>exact⟨_,rfl⟩
noncomputable def mT(d:D)(n:Nat):Bool:=match d with
 |.nd .tup xs=>decide (xs.length=n)
 |_=>false
theorem wZ(a:Th)(n:Nat):ψ2 [a.d,iD n]=some (.sh,.bl (mT a.d n)):=by
 unfold ψ2;refine dq rfl ?_;unfold b2
 walk_at "nm"
 have no:∀{d:D},eV "tuple" d=some false->mT d n=false->Wp (aB Γ_1 1000 (.cons (.ret (.p (.bool .And (.cons (.isi "tuple" (.var 0)) (.cons (.cmp .Eq (.blt "len" (.cons (.var 0) .nil)) (.var 1)) .nil))))) .nil) [] [fS d,fS (iD n)]) λr=>Wp (hJ (some r)) λx=>x=(.sh,.bl (mT d n)):=λh1 h2=>by
  rw[h2];exact cA (x:=(.sh,.bl false)) (fq (x:=false) (y:=true) (kt rfl h1) λe=>by cases e) rfl (aW _)
 cases a with
 |ato a=>cases a<;>exact no rfl rfl
 |lst as=>exact no rfl rfl
 |tup as=>
  refine cA (x:=(.sh,.bl (mT (.tup (as.map At.d)) n))) (fq (x:=true) (kt rfl rfl) λ_=>ij (dY ?_)) rfl (aW _)
  have:decide ((as.map At.d).length=n)=decide ((as.length:Int)=(n:Int)):=by
   rw[Kp];exact decide_eq_decide.mpr (by lia)
  rw[this];exact gx (aM (.inr rfl) rfl) rfl
noncomputable def GS:Th->Option (Int×Int)
 |.tup [.int g,.int k]=>some (g,k)
 |_=>none
noncomputable def bA(c:Ci)(t:Th):Option (Nat×Nat):=(GS t).bind λx=>if(c.f:Int)<=x.1/\x.1<(c.n:Int)/\0<=x.2/\x.2<((pl c x.1.toNat).length:Int) then some (x.1.toNat,x.2.toNat) else none
noncomputable def stp(c:Ci)(t:Th):Option (Nat×Nat):=(bA c t).bind λx=>fu c ((pl c x.1).getD x.2 0)
theorem zx:∀{t:Th},mT t.d 2=true->∃a b,t=.tup [a,b]
 |.tup [a,b],_=>⟨a,b,rfl⟩
 |.tup [],h=>by cases h
 |.tup [_],h=>by cases h
 |.tup (_::_::_::_),h=>by simp[mT,Th.d] at h
 |.lst _,h=>by cases h
 |.ato .non,h=>by cases h
 |.ato (.bl _),h=>by cases h
 |.ato (.int _),h=>by cases h
 |.ato (.str _),h=>by cases h
theorem fv(h:GS t=none):bA c t=none:=by unfold bA;rw[h];rfl
theorem qe:∀{t:Th},mT t.d 2=false->GS t=none
 |.tup [.int _,.int _],h=>by cases h
 |.tup [.int _,.non],_=>rfl
 |.tup [.int _,.bl _],_=>rfl
 |.tup [.int _,.str _],_=>rfl
 |.tup [.non,_],_=>rfl
 |.tup [.bl _,_],_=>rfl
 |.tup [.str _,_],_=>rfl
 |.tup [],_=>rfl
 |.tup [a],_=>by cases a<;>rfl
 |.tup (a::b::_::_),_=>by cases a<;>first|rfl|(cases b<;>rfl)
 |.lst _,_=>rfl
 |.ato _,_=>rfl
theorem w4{a:At}{n:Nat}(h:rY a.d n=true):∃g:Nat,a=.int g/\g<n:=by
 cases a with
 |int i=>
  simp only[rY,At.d,Kn,decide_eq_true_eq] at h;exact⟨i.toNat,by rw[Mh h.1],by lia⟩
 |_=>cases h
theorem oM{c:Ci}{g k:Nat}:bA c (.tup [.int g,.int k])=if c.f<=g/\g<c.n/\k<(pl c g).length then some (g,k) else none:=by
 show(if(c.f:Int)<=(g:Int)/\(g:Int)<(c.n:Int)/\0<=(k:Int)/\(k:Int)<((pl c (g:Int).toNat).length:Int) then some ((g:Int).toNat,(k:Int).toNat) else none)=_
 rw[Lh,Lh];by_cases h:c.f<=g/\g<c.n/\k<(pl c g).length
 ·rw[if_pos h,if_pos (by lia)]
 ·rw[if_neg h,if_neg (by lia)]
theorem w5{c:Ci}{a b:At}(h:rY a.d c.n=false):bA c (.tup [a,b])=none:=by
 cases a with
 |int i=>cases b with
  |int k=>
   show(if _ then some (i.toNat,k.toNat) else none)=none
   rw[if_neg]
   rintro ⟨h1,h2,_⟩
   simp only[rY,At.d,LI,decide_eq_false_iff_not] at h
   lia
  |_=>rfl
 |_=>rfl
theorem w6{g:Nat}{b:At}(h:rY b.d (pl c g).length=false):bA c (.tup [.int g,b])=none:=by
 cases b with
 |int k=>
  show(if(c.f:Int)<=(g:Int)/\(g:Int)<(c.n:Int)/\0<=k/\k<((pl c (g:Int).toNat).length:Int) then some ((g:Int).toNat,k.toNat) else none)=none
  rw[if_neg]
  rintro ⟨_,_,h1,h2⟩
  rw[Lh] at h2;simp only[rY,At.d,LI,decide_eq_false_iff_not] at h
  lia
 |_=>rfl
theorem fx(h:bA c t=none):stp c t=none:=by unfold stp;rw[h];rfl
theorem zy(ok:Ok c)(t:Th):ψ5 [cD c,t.d]=some (.sh,oD (stp c t)):=by
 unfold ψ5;refine dq rfl ?_;unfold b5
 walk_at "nm"
 refine aK (bE (FV rfl) (aM (.inl rfl) (c2 rfl))) rfl (by decide) ?_;show Wp (aB _ _ _ [] [fS (cD c),fS t.d,fS (iD c.n),none]) _;have tup:av Γ_4.fn (.not (.fn 2 (.cons (.var 1) (.cons (.lit (.int 2)) .nil)))) [fS (cD c),fS t.d,fS (iD c.n),none]=some (!mT t.d 2):=aQ (kR (ce (φ:=ψ2) (ds:=[t.d,iD 2]) rfl (e2 rfl rfl) rfl rfl (wZ t 2) rfl))
 cases h:mT t.d 2 with
 |false=>
  rw[fx (fv (qe h))];rw[h] at tup;exact aP (x:=(.sh,.non)) (bj (y:=true) tup λe=>by cases e) (λ_=>⟨rfl,rfl,aW _⟩) λe=>by cases e
 |true=>
  rw[h] at tup;obtain⟨a,b,rfl⟩:=zx h;obtain⟨ta,hta⟩:=oK a;obtain⟨tb,htb⟩:=oK b;have i0:∀{Γ:Nat->Option Fn} {x y:Option Sl},aa Γ (.ix (.var 1) (.lit (.int 0))) [fS (cD c),fS (Th.tup [a,b]).d,x,y]=some (.sh,a.d):=aY (k:=.sh) (n:=0) (xs:=[a.d,b.d]) rfl rfl (.inr rfl) rfl rfl;have i1:∀{Γ:Nat->Option Fn} {x y:Option Sl},aa Γ (.ix (.var 1) (.lit (.int 1))) [fS (cD c),fS (Th.tup [a,b]).d,x,y]=some (.sh,b.d):=aY (k:=.sh) (n:=1) (xs:=[a.d,b.d]) rfl rfl (.inr rfl) rfl rfl;refine aP (x:=(.sh,.non)) (bj tup λ_=>bz (aQ (kR (ce (φ:=ψ1) (ds:=[a.d,iD c.n]) rfl (e2 i0 rfl) rfl rfl (eS hta _) rfl)))) (λe=>⟨rfl,rfl,?_⟩) λe=>?_
  ·have e:rY a.d c.n=false:=by simpa using e
   rw[fx (w5 e)];exact aW _
  ·have e:rY a.d c.n=true:=by simpa using e
   obtain⟨g,rfl,hg⟩:=w4 e;by_cases hf:c.f<=g
   ·refine aK (ce (φ:=ψ3) (ds:=[cD c,iD g]) rfl (e2 rfl i0) rfl rfl (oH hf hg) rfl) rfl (by decide) ?_;have p1:∀{Γ:Nat->Option Fn} {x:D} {y:Option Sl},aa Γ (.ix (.var 3) (.lit (.int 1))) [fS (cD c),fS (Th.tup [.int g,b]).d,y,fS (.tup [x,.tup ((pl c g).map iD)])]=some (.sh,.tup ((pl c g).map iD)):=aY (k:=.sh) (n:=1) (xs:=[_,_]) rfl rfl (.inr rfl) rfl rfl;refine aP (x:=(.sh,.non)) (bj (x:=false) rfl λ_=>bz (aQ (kR (ce (φ:=ψ1) (ds:=[b.d,iD (pl c g).length]) rfl (e2 i1 (aM (.inr rfl) p1)) rfl rfl (eS htb _) rfl)))) (λe=>⟨rfl,rfl,?_⟩) λe=>?_
    ·have e:rY b.d (pl c g).length=false:=by simpa using e
     rw[fx (w6 e)];exact aW _
    ·have e:rY b.d (pl c g).length=true:=by simpa using e
     obtain⟨k,rfl,hk⟩:=w4 e
     have hs:stp c (.tup [.int g,.int k])=fu c ((pl c g).getD k 0):=by
      unfold stp;rw[oM,if_pos ⟨hf,hg,hk⟩];rfl
     have hp:(pl c g).getD k 0<c.n:=by
      obtain⟨x,hx,ex⟩:=lJ hf hg;rw[KA,Ko hk];exact(ok.g x (KP hx)).2 _ (by rw[ex];exact Ld hk)
     have hat:((pl c g).map iD)[k]?=some (iD ((pl c g).getD k 0)):=by rw[Kr,KA,Ko hk];rfl
     rw[hs];exact cA (ce (φ:=ψ4) (ds:=[cD c,iD ((pl c g).getD k 0)]) rfl (e2 rfl (aY (n:=k) p1 i1 (.inr rfl) rfl hat)) rfl rfl (CQ ok hp) rfl) (lH _) (aW _)
   ·refine aK (x:=(.sh,.non)) (ce (φ:=ψ3) (ds:=[cD c,iD g]) rfl (e2 rfl i0) rfl rfl (by rw[rX hg,if_neg hf]) rfl) rfl (by decide) ?_
    have ht:bA c (.tup [.int g,b])=none:=by
     cases b with
     |int k=>
      show(if(c.f:Int)<=(g:Int)/\_ then _ else none)=none
      rw[if_neg]
      rintro ⟨h1,_⟩
      lia
     |_=>rfl
    rw[fx ht];exact aP (z:=true) (x:=(.sh,.non)) (bj (x:=true) (y:=true) rfl λe=>by cases e) (λ_=>⟨rfl,rfl,aW _⟩) λe=>by cases e
theorem w8{a:At}(h:qd a.d=true):∃i:Int,a=.int i:=by
 cases a with
 |int i=>exact⟨i,rfl⟩
 |_=>cases h
theorem zz{a b:At}(h:qd a.d=false\/qd b.d=false):bA c (.tup [a,b])=none:=by
 refine fv ?_
 cases a with
 |int i=>cases b with
  |int j=>rcases h with h|h<;>cases h
  |_=>rfl
 |_=>cases b<;>rfl
theorem qf(t:Th):FI [cD c,t.d]=some (.sh,.bl (bA c t).isSome):=by
 unfold FI;refine dq rfl ?_;unfold GH
 walk_at "nm"
 have nt:eV "tuple" t.d=some false->Wp (aB Γ_17 1000 GH [] [fS (cD c),fS t.d,none]) λr=>Wp (hJ (some r)) λx=>x=(.sh,.bl false):=λh=>
  aP (z:=true) (x:=(.sh,.bl false)) (bj (x:=true) (y:=true) (aQ (cN (x:=false) rfl h)) λe=>by cases e) (λ_=>⟨rfl,rfl,aW _⟩) λe=>by cases e
 cases t with
 |ato a=>rw[fv (qe (by cases a<;>rfl))];exact nt (by cases a<;>rfl)
 |lst as=>rw[fv rfl];exact nt rfl
 |tup as=>
  have ht:∀{Γ:Nat->Option Fn} {y:Option Sl},av Γ (.not (.isi "tuple" (.var 1))) [fS (cD c),fS (Th.tup as).d,y]=some false:=aQ (cN (x:=true) rfl rfl);have hl:∀{Γ:Nat->Option Fn} {y:Option Sl},av Γ (.cmp .NotEq (.blt "len" (.cons (.var 1) .nil)) (.lit (.int 2))) [fS (cD c),fS (Th.tup as).d,y]=some (!decide ((as.length:Int)=2)):=tw (aM (l:=as) (.inr rfl) rfl) rfl;by_cases h2:as.length=2
  ·obtain⟨a,b,rfl⟩:∃a b,as=[a,b]:=by
    match as,h2 with
    |[a,b],_=>exact⟨a,b,rfl⟩
   obtain⟨ta,hta⟩:=oK a;obtain⟨tb,htb⟩:=oK b;have i0:∀{Γ:Nat->Option Fn} {x:Option Sl},aa Γ (.ix (.var 1) (.lit (.int 0))) [fS (cD c),fS (Th.tup [a,b]).d,x]=some (.sh,a.d):=aY (k:=.sh) (n:=0) (xs:=[a.d,b.d]) rfl rfl (.inr rfl) rfl rfl;have i1:∀{Γ:Nat->Option Fn} {x:Option Sl},aa Γ (.ix (.var 1) (.lit (.int 1))) [fS (cD c),fS (Th.tup [a,b]).d,x]=some (.sh,b.d):=aY (k:=.sh) (n:=1) (xs:=[a.d,b.d]) rfl rfl (.inr rfl) rfl rfl;refine aP (x:=(.sh,.bl false)) (bj ht λ_=>bj hl λ_=>bj (aQ (kR (ce (φ:=CL) (ds:=[a.d]) rfl (e1 i0) rfl rfl (fF hta) rfl))) λ_=>bz (aQ (kR (ce (φ:=CL) (ds:=[b.d]) rfl (e1 i1) rfl rfl (fF htb) rfl)))) (λe=>⟨rfl,rfl,?_⟩) λe=>?_
   ·have e:qd a.d=false\/qd b.d=false:=by simpa using e
    rw[zz e];exact aW _
   ·have e:qd a.d=true/\qd b.d=true:=by simpa using e
    obtain⟨i,rfl⟩:=w8 e.1;obtain⟨k,rfl⟩:=w8 e.2;refine aK (FV rfl) rfl (by decide) ?_;show Wp (aB _ _ _ [] [fS (cD c),fS (Th.tup [.int i,.int k]).d,fS (iD c.f)]) _;by_cases hi:(c.f:Int)<=i/\i<(c.n:Int)
    ·obtain⟨g,rfl⟩:∃g:Nat,i=(g:Int):=⟨i.toNat,by lia⟩
     have hr:(bA c (.tup [.int (g:Int),.int k])).isSome=(true&&(decide ((0:Int)<=k)&&decide (k<((pl c g).length:Int)))):=by
      show(if(c.f:Int)<=(g:Int)/\(g:Int)<(c.n:Int)/\0<=k/\k<((pl c (g:Int).toNat).length:Int) then some ((g:Int).toNat,k.toNat) else none).isSome=_
      rw[Lh,K7];by_cases hk:0<=k/\k<((pl c g).length:Int)
      ·rw[if_pos ⟨hi.1,hi.2,hk.1,hk.2⟩,decide_eq_true hk.1,decide_eq_true hk.2];rfl
      ·rw[if_neg λz=>hk ⟨z.2.2.1,z.2.2.2⟩];symm;rw[<- MA];exact decide_eq_false hk
     rw[hr];refine cA (x:=(.sh,.bl (true&&(decide ((0:Int)<=k)&&decide (k<((pl c g).length:Int)))))) (fq (jx ?_) λ_=>ij (jx (dw rfl i1 (aM (.inr rfl) (wV (g:=g) (c2 rfl) (cz i0 rfl) (by lia) (by lia)))))) (lH _) (aW _);rw[dw (i:=(c.f:Int)) rfl i0 (bE rfl (aM (.inl rfl) (c2 rfl)))];have h2:(g:Int)<(c.f:Int)+(c.gates.length:Int):=hi.2;rw[decide_eq_true hi.1,decide_eq_true h2];rfl
    ·have hn:bA c (.tup [.int i,.int k])=none:=by
      show(if _ then _ else none)=none
      rw[if_neg];exact λz=>hi ⟨z.1,z.2.1⟩
     rw[hn];refine cA (x:=(.sh,.bl false)) (fq (x:=false) (y:=true) (jx ?_) λe=>by cases e) rfl (aW _);rw[dw (i:=(c.f:Int)) rfl i0 (bE rfl (aM (.inl rfl) (c2 rfl)))];rw[<- MA];exact congrArg some (decide_eq_false hi)
  ·have hn:bA c (.tup as)=none:=fv (qe (by show decide ((as.map At.d).length=2)=false;rw[Kp];exact decide_eq_false h2));rw[hn];refine aP (z:=true) (x:=(.sh,.bl false)) (bj (x:=false) (y:=true) ht λ_=>bj (x:=true) (y:=true) ?_ λe=>by cases e) (λ_=>⟨rfl,rfl,aW _⟩) λe=>by cases e
   rw[hl,decide_eq_false (by lia)];rfl
theorem w9{α:Type}(xs:List α)(f:α->D):dO (xs.map f) none (some (-1))=xs.dropLast.map f:=by
 unfold dO;rw[HT.dJ,MN,M8,List.map_dropLast,List.dropLast_eq_take];congr 1
 have e:HT.i6 (xs.map f).length (xs.map f).length (some (-1))=(-1+((xs.map f).length:Int)).toNat:=by
  show(if(-1:Int)<0 then(-1+((xs.map f).length:Int)).toNat else min (-1:Int).toNat (xs.map f).length)=_
  rw[if_pos (by decide)]
 rw[e]
 lia
theorem xa{α:Type}(xs:List α)(f:α->D):dO (xs.map f) (some 1) none=(xs.drop 1).map f:=by
 unfold dO;rw[HT.dJ,show(some (1:Int))=some ((1:Nat):Int) from rfl,HT.ji,Mo,Kp];rcases M3 xs.length with h|h
 ·obtain rfl:=KY.mp h;rfl
 ·rw[L3 h];exact Lg (by simp)
theorem oN{α β:Type}(f:α->D)(g:β->D):∀(xs:List α) (ys:List β),ve (xs.map f) (ys.map g)=(xs.zip ys).map λp=>.tup [f p.1,g p.2]
 |[],_=>by cases ‹List β›<;>rfl
 |_::_,[]=>rfl
 |x::xs,y::ys=>congrArg (D.tup [f x,g y]::·) (oN f g xs ys)
section
variable {Γ:Nat->Option Fn} {ρ:Ro} {a b:IE} {k:Kd}
theorem mU{α:Type}{xs:List α}{f:α->D}(h:ip k (xs.map f)=true)(ha:aa Γ a ρ=some (k,.lst (xs.map f))):aa Γ (.sl a .non (.som (.neg (.lit (.int 1))))) ρ=some (.fr aZ,.lst (xs.dropLast.map f)):=by
 rw[vk,ha,show fH Γ .non ρ=some none from rfl,show fH Γ (.som (.neg (.lit (.int 1)))) ρ=some (some (-1)) from rfl,<- w9];exact if_pos h
theorem mV{α:Type}{xs:List α}{f:α->D}(h:ip k (xs.map f)=true)(ha:aa Γ a ρ=some (k,.lst (xs.map f))):aa Γ (.sl a (.som (.lit (.int 1))) .non) ρ=some (.fr aZ,.lst ((xs.drop 1).map f)):=by
 rw[vk,ha,show fH Γ .non ρ=some none from rfl,show fH Γ (.som (.lit (.int 1))) ρ=some (some 1) from rfl,<- xa];exact if_pos h
theorem xb{α β:Type}{xs:List α}{ys:List β}{f:α->D}{g:β->D}(ha:aa Γ a ρ=some (.fr aZ,.lst (xs.map f)))(hb:aa Γ b ρ=some (.fr aZ,.lst (ys.map g))):cV Γ (.zp a b) ρ=some ([],(xs.zip ys).map λp=>.tup [f p.1,g p.2]):=by
 rw[cV,ha,hb,<- oN];rfl
theorem FZ{α:Type}{l:List α}{f g:α->D}(ha:cV Γ it ρ=some ([],l.map f))(hl:l.length<=100000)(h:∀a∈l,Wp (dk tg (cI Γ .non) (aa Γ elt) (bP ρ cap) (f a)) λo=>∃kd,o=some (kd,g a)/\cP r (kd,g a)=true):aa Γ (.comp r cap tg it .non elt) ρ=some (.fr (.own [] r),.lst (l.map g)):=
 aC (hV (wv ha ⟨by simpa using hl,(rW h).mono λys e=>by rw[e]⟩))
theorem Ga{bs:List Bool}(h:aa Γ a ρ=some (k,.lst (bs.map D.bl))):aa Γ (.blt "any" (.cons a .nil)) ρ=some (.sh,.bl (bs.any id)):=by
 refine aC (cH (ae (wv h (ah ⟨(.sh,.bl (bs.any id)),?_,rfl⟩))));have e:dQ "any" [(k,.nd .lst (bs.map D.bl))]=(bJ (bs.map D.bl)).map λbs=>(Kd.sh,D.bl (bs.any id)):=rfl;rw[e,eT];rfl
theorem Am{ns:List Int}(h:aa Γ a ρ=some (k,.lst (ns.map D.int))):aa Γ (.blt "sum" (.cons a .nil)) ρ=some (.sh,.int ns.sum):=by
 refine aC (cH (ae (wv h (ah ⟨(.sh,.int ns.sum),?_,rfl⟩))));have e:dQ "sum" [(k,.nd .lst (ns.map D.int))]=(J.toInts (ns.map D.int)).map λns=>(Kd.sh,D.int ns.sum):=rfl;rw[e,c5];rfl
theorem Gb{n:Int}(h:aa Γ a ρ=some (k,.lst ((n::ns).map D.int))):aa Γ (.blt "min" (.cons a .nil)) ρ=some (.sh,.int (kO n ns)):=by
 refine aC (cH (ae (wv h (ah ⟨(.sh,.int (kO n ns)),?_,rfl⟩))))
 have e:dQ "min" [(k,.nd .lst ((n::ns).map D.int))]=(match J.toInts ((n::ns).map D.int) with|some (n::ns)=>some (Kd.sh,D.int (kO n ns))|_=>none):=rfl
 rw[e,c5]
end
theorem Ao{Γ:GG}{N:Nat}{pn:List Nat}{ρ:Ro}{Q:Res->Prop}{rest:bN}{fg:List Nat}{tg:IT}{it:II}{t e:IE}{α:Type}{l:List α}{f:α->D}{q:α->Bool}{x':KD}(hit:cV Γ.fn it ρ=some ([],l.map f))
  (hb:∀x∈l,∃ps,m7 tg (f x)=some ps/\(ps.all λq=>!pn.contains q.1)=true/\clrN fg (setAll ps (clrN fg ρ))=clrN fg ρ/\av Γ.fn t (setAll ps (clrN fg ρ))=some (q x)/\(q x=true->aa Γ.fn e (setAll ps (clrN fg ρ))=some x'))
  (hx:bp (bW x'.1 x'.2)=false) (h1:l.any q=true->∀ρ',Q (.rt (bW x'.1 x'.2) x'.2 ρ')) (h2:l.any q=false->Wp (aB Γ N rest pn (clrN fg ρ)) Q) :
  Wp (aB Γ N (.cons (.fo fg tg (.p it) (.cons (.ifs (.p t) (.cons (.ret (.p e)) .nil) .nil) .nil)) rest) pn ρ) Q:=by
 refine wL (fR (wv hit ⟨λi ρ'=>clrN fg ρ'=clrN fg ρ/\(l.take i).any q=false,λk d ρ'=>l.any q=true/\k=bW x'.1 x'.2/\d=x'.2,⟨rfl,rfl⟩,λi d ρ' hd hI=>?_,λρ' hI=>?_,λk d ρ' hR=>?_⟩))
 ·obtain⟨hI1,hI2⟩:=hI;have hd:(l.map f)[i]?=some d:=hd;rw[Kr] at hd
  cases ex:l[i]? with
  |none=>rw[ex] at hd;cases hd
  |some x=>
   rw[ex] at hd;cases hd;obtain⟨ps,p1,p2,p3,p4,p5⟩:=hb x (KP ex);refine⟨ps,p1,by simpa using p2,?_⟩;rw[hI1,Ly];refine aP (x:=x') p4 (λe=>⟨p5 e,hx,.inr ⟨_,_,_,rfl,LU.mpr ⟨x,KP ex,e⟩,rfl,rfl⟩⟩) λe=>bX (.inl ⟨_,.inl rfl,p3,?_⟩);rw[L7,ex,List.any_append,hI2];show(false||(q x||false))=false;rw[e];rfl
 ·obtain⟨hI1,hI2⟩:=hI
  have:l.any q=false:=by
   have e:(l.map f).length=l.length:=Kp _;rw[e,LM] at hI2;exact hI2
  have:=h2 this;rw[<- hI1] at this;exact this
 ·obtain⟨h3,rfl,rfl⟩:=hR;exact⟨hx,h1 h3 _⟩
noncomputable def pD(x:Nat×Nat):D:=.tup [iD x.1,iD x.2]
noncomputable def oW(x:Nat×Nat):Th:=.tup [.int x.1,.int x.2]
noncomputable def Vd(c:Ci)(x:Nat×Nat):Prop:=c.f<=x.1/\x.1<c.n/\x.2<(pl c x.1).length
noncomputable def src(c:Ci)(x:Nat×Nat):Option (Nat×Nat):=fu c ((pl c x.1).getD x.2 0)
theorem qg(h:bA c t=some x):t=oW x/\Vd c x:=by
 unfold bA at h
 cases e:GS t with
 |none=>rw[e] at h;cases h
 |some y=>
  rw[e] at h
  have h:(if(c.f:Int)<=y.1/\y.1<(c.n:Int)/\0<=y.2/\y.2<((pl c y.1.toNat).length:Int) then some (y.1.toNat,y.2.toNat) else none)=some x:=h
  obtain⟨hc,e2⟩:=uH h;cases e2
  have et:t=.tup [.int y.1,.int y.2]:=by
   match t,e with
   |.tup [.int g,.int k],e=>cases e;rfl
  refine⟨?_,?_,?_,?_⟩
  ·rw[et];unfold oW;dsimp only;rw[Mh (by lia),Mh hc.2.2.1]
  ·show c.f<=y.1.toNat;lia
  ·show y.1.toNat<c.n;lia
  ·show y.2.toNat<(pl c y.1.toNat).length;lia
theorem oO(h:Vd c x):bA c (oW x)=some x:=by unfold oW;rw[oM];exact if_pos h
theorem qh(h:Vd c x):stp c (oW x)=src c x:=by unfold stp;rw[oO h];rfl
theorem r6{c:Ci}{s:Nat×Nat}:ψ7 [cD c,.lst ((s::ss).map pD)]=some (.sh,.bl (decide (s.1<c.ins))):=by
 unfold ψ7;refine dq rfl ?_;unfold b7
 walk_at "nm"
 refine cA (x:=(.sh,.bl (decide (s.1<c.ins)))) (dY ?_) rfl (aW _);rw[jh (i:=(s.1:Int)) (aY (n:=0) (aY (n:=0) (xs:=(s::ss).map pD) rfl rfl (.inl rfl) rfl rfl) rfl (.inr rfl) rfl rfl) (c0 rfl)];exact congrArg some (decide_eq_decide.mpr (by lia))
noncomputable def zA(gs ss:List (Nat×Nat)):Bool:=(gs.dropLast.zip (ss.drop 1)).any λp=>!decide (p.2.1=p.1.1)
theorem iQ{α:Type}(l:List α)(q:α->Bool):(l.map λx=>D.bl (q x))=(l.map q).map D.bl:=by rw[KQ];rfl
theorem any_map{α:Type}(l:List α)(q:α->Bool):(l.map q).any id=l.any q:=by rw[M7];rfl
theorem all_map{α:Type}(l:List α)(q:α->Bool):(l.map q).all id=l.all q:=by rw[List.all_map];rfl
theorem xc(h:eV "list" d=some false):ψ6 [cD c,d]=some (.sh,.non):=by
 unfold ψ6;refine dq rfl ?_;unfold b6
 walk_at "nm"
 exact aP (z:=true) (x:=(.sh,.non)) (bj (x:=true) (y:=true) (aQ (cN (x:=false) rfl h)) λe=>by cases e) (λ_=>⟨rfl,rfl,aW _⟩) λe=>by cases e
theorem tz:ψ6 [cD c,.lst []]=some (.sh,.non):=by
 unfold ψ6;refine dq rfl ?_;unfold b6
 walk_at "nm"
 exact aP (z:=true) (x:=(.sh,.non)) (bj (x:=false) (y:=true) (aQ (cN (x:=true) rfl rfl)) λ_=>bz (aQ (rV (x:=false) rfl rfl))) (λ_=>⟨rfl,rfl,aW _⟩) λe=>by cases e
theorem kA{c:Ci}(ok:Ok c){ts:List Th}(hn:ts≠[])(hl:ts.length<=100){p:KD}(hA:(ts.any λt=>(stp c t).isNone)=true->p=(.sh,.non))
  (hB:(ts.any λt=>(stp c t).isNone)=false->Wp (aB Γ_7 1000 (match b6 with|.cons _ (.cons _ (.cons _ r))=>r|r=>r) [] [fS (cD c),fS (.lst (ts.map Th.d)),none,bh (.lst (ts.map λt=>oD (stp c t))),none]) λr=>Wp (hJ (some r)) λx=>x=p):ψ6 [cD c,.lst (ts.map Th.d)]=some p:=by
 unfold ψ6;refine dq rfl ?_;unfold b6 at hB⊢
 walk_at "nm"
 refine aP (z:=false) (x:=(.sh,.non)) (bj (x:=false) (y:=false) (aQ (cN (x:=true) rfl rfl)) λ_=>bz (aQ (rV (x:=true) rfl (by cases ts with|nil=>exact absurd rfl hn|cons a b=>rfl)))) (λe=>by cases e) λ_=>?_
 refine aK (ku (l:=ts) (f:=Th.d) (g:=λt=>oD (stp c t)) (.inl rfl) rfl rfl (by lia) λt ht=>zq rfl (wv (ce (φ:=ψ5) (ds:=[cD c,t.d]) rfl (e2 rfl rfl) rfl rfl (zy ok t) rfl) ⟨_,rfl,rfl⟩)) rfl (by decide) ?_
 have hc:=ku (Γ:=Γ_7.fn) (r:=.fz) (cap:=[none,none]) (tg:=.nm 1) (a:=.var 3) (elt:=.cmp .Is (.var 1) (.lit .non)) (ρ:=[fS (cD c),fS (.lst (ts.map Th.d)),none,bh (.lst (ts.map λt=>oD (stp c t))),none]) (l:=ts) (f:=λt=>oD (stp c t)) (g:=λt=>D.bl (stp c t).isNone) (.inl rfl) rfl rfl (by lia) λt ht=>zq rfl (wv (r:=(.sh,.bl (stp c t).isNone)) (dY (by
  rw[zo (d:=oD (stp c t)) rfl]
  cases stp c t<;>rfl)) ⟨_,rfl,rfl⟩)
 rw[iQ] at hc;have ha:=Ga hc;rw[any_map] at ha;exact aP (x:=(.sh,.non)) (oC ha) (λe=>⟨rfl,rfl,by rw[hA e];exact aW _⟩) hB
theorem xf{gs ss:List (Nat×Nat)}(hv:∀x∈gs,Vd c x)(he:gs.map (src c)=ss.map some):((gs.map oW).map λt=>oD (stp c t))=ss.map pD:=by
 have:ss.map pD=(ss.map some).map oD:=by rw[KQ];rfl
 rw[this,<- he,KQ,KQ];exact M0 λx hx=>by show oD (stp c (oW x))=_;rw[qh (hv x hx)];rfl
theorem eH{α:Type}{f:α->D}:∀{l:List α} {x:α},l≠[]->(l.map f)[(l.map f).length-1]?=some (f (l.getLastD x)):=λ{l x} h=>by
 rw[Kr,Kp]
 cases l with
 |nil=>exact absurd rfl h
 |cons a l=>
  rw[show(a::l)[(a::l).length-1]?=some ((a::l).getLast h) by rw[Mw,Ko]];rw[LK,LO h];rfl
noncomputable def iR(s:Nat×Nat)(c:Ci)(gs:List (Nat×Nat)):Bool:=decide (s.1<c.ins)||decide (s.1=(gs.getLastD (0,0)).1)
theorem xg{c:Ci}(ok:Ok c){gs ss:List (Nat×Nat)}{s:Nat×Nat}(hn:gs≠[])(hl:gs.length<=100)(hv:∀x∈gs,Vd c x)(he:gs.map (src c)=(s::ss).map some):ψ6 [cD c,.lst (gs.map pD)]=some (if zA gs (s::ss)||!iR s c gs then(.sh,.non) else(.fr k0,.lst ((s::ss).map pD))):=by
 have hmap:(gs.map oW).map Th.d=gs.map pD:=by rw[KQ];rfl
 rw[<- hmap];have hlen:gs.length=(s::ss).length:=by have:=congrArg LY he;simpa using this
 refine kA ok (ts:=gs.map oW) (by simpa using hn) (by simpa using hl) (λh=>?_) λ_=>?_
 ·exfalso;obtain⟨t,ht,e⟩:=LU.mp h;obtain⟨x,hx,rfl⟩:=Lf.mp ht;rw[qh (hv x hx)] at e;have:src c x∈(s::ss).map some:=by rw[<- he];exact Lf.mpr ⟨x,hx,rfl⟩
  obtain⟨y,_,e2⟩:=Lf.mp this;rw[<- e2] at e;cases e
 ·rw[xf hv he,hmap];show Wp (aB Γ_7 1000 (.cons (.fo [2,4] (.tp [(.nm 2),(.nm 4)]) (.p (.zp (.sl (.var 1) .non (.som (.neg (.lit (.int 1))))) (.sl (.var 3) (.som (.lit (.int 1))) .non))) (.cons (.ifs (.p (.cmp .NotEq (.ix (.var 4) (.lit (.int 0))) (.ix (.var 2) (.lit (.int 0))))) (.cons (.ret (.p (.lit .non))) .nil) .nil) .nil)) (.cons (.ifs (.p (.bool .And (.cons (.not (.fn 7 (.cons (.var 0) (.cons (.var 3) .nil)))) (.cons (.cmp .NotEq (.ix (.ix (.var 3) (.lit (.int 0))) (.lit (.int 0))) (.ix (.ix (.var 1) (.neg (.lit (.int 1)))) (.lit (.int 0)))) .nil)))) (.cons (.ret (.p (.lit .non))) .nil) .nil) (.cons (.ret (.mv 3)) .nil))) [] [fS (cD c),fS (.lst (gs.map pD)),none,bh (.lst ((s::ss).map pD)),none]) _;refine Ao (l:=gs.dropLast.zip ((s::ss).drop 1)) (f:=λp=>.tup [pD p.1,pD p.2]) (q:=λp=>!decide (p.2.1=p.1.1)) (x':=(.sh,.non)) (xb (mU rfl rfl) (mV rfl rfl)) (λp hp=>⟨[(2,pD p.1),(4,pD p.2)],rfl,rfl,rfl,?_,λ_=>rfl⟩) rfl (λh ρ'=>?_) λh=>?_
  ·show av Γ_7.fn _ [fS (cD c),fS (.lst (gs.map pD)),fS (pD p.1),bh (.lst ((s::ss).map pD)),fS (pD p.2)]=_;rw[tw (i:=(p.2.1:Int)) (j:=(p.1.1:Int)) (aY (k:=.sh) (n:=0) (xs:=[_,_]) rfl rfl (.inr rfl) rfl rfl) (aY (k:=.sh) (n:=0) (xs:=[_,_]) rfl rfl (.inr rfl) rfl rfl)];congr 2;exact decide_eq_decide.mpr (by lia)
  ·rw[show zA gs (s::ss)=true from h,Bool.true_or,if_pos rfl];exact aW _
  ·rw[show zA gs (s::ss)=false from h,LP];show Wp (aB Γ_7 1000 _ [] [fS (cD c),fS (.lst (gs.map pD)),none,bh (.lst ((s::ss).map pD)),none]) _;have hs0:aa Γ_7.fn (.ix (.ix (.var 3) (.lit (.int 0))) (.lit (.int 0))) [fS (cD c),fS (.lst (gs.map pD)),none,bh (.lst ((s::ss).map pD)),none]=some (oU (oU (fX 3 ⟨false,k0,.lst ((s::ss).map pD)⟩).1 0) 0,iD s.1):=aY (n:=0) (aY (n:=0) (xs:=(s::ss).map pD) rfl rfl (.inl rfl) rfl rfl) rfl (.inr rfl) rfl rfl;have hw:aa Γ_7.fn (.ix (.ix (.var 1) (.neg (.lit (.int 1)))) (.lit (.int 0))) [fS (cD c),fS (.lst (gs.map pD)),none,bh (.lst ((s::ss).map pD)),none]=some (.sh,iD (gs.getLastD (0,0)).1):=aY (k:=.sh) (n:=0) (gw (k:=.sh) (xs:=gs.map pD) rfl (.inl rfl) (eH hn)) rfl (.inr rfl) rfl rfl;refine aP (x:=(.sh,.non)) (ii (aQ (kR (Aj (φ:=ψ7) (ds:=[cD c,.lst ((s::ss).map pD)]) rfl (e2 rfl rfl) rfl rfl r6 rfl))) λ_=>bz (tw hs0 hw)) (λe=>⟨rfl,rfl,?_⟩) λe=>?_
   ·have e:(!iR s c gs)=true:=by
     unfold iR;rw[Kn,K4,K4,decide_eq_false_iff_not,decide_eq_false_iff_not] at e;rw[K4,LL,decide_eq_false_iff_not,decide_eq_false_iff_not]
     lia
    rw[e,if_pos rfl];exact aW _
   ·have e:(!iR s c gs)=false:=by
     unfold iR;rw[LI,Ln,Ln,decide_eq_true_eq,decide_eq_true_eq] at e;rw[Ln,K8,decide_eq_true_eq,decide_eq_true_eq]
     lia
    rw[e,if_neg (by decide)];exact aS (ff (es:=[]) (r:=.fz) rfl ⟨rfl,fU rfl rfl⟩)
noncomputable abbrev mD(ms:List Int):D:=.lst (ms.map D.int)
noncomputable def kS(ms:List Int):List (Int×Int):=ms.dropLast.zip (ms.drop 1)
noncomputable def tR(ms:List Int):Bool:=(kS ms).all λp=>decide (p.1<p.2)
noncomputable def Ap(ms:List Int)(n:Nat):Bool:=ms.all λm=>decide (0<=m)&&decide (m<(n:Int))
noncomputable def xh(ms:List Int)(n:Nat)(e:Bool):Bool:=Ap ms n&&(tR ms&&(!e||(decide (ms.headD 0=0)&&decide (ms.getLastD 0=(n:Int)-1))))
noncomputable def bsz(ms:List Int)(n:Nat)(e:Bool):List Int:=(kS ms).map (λp=>p.2-p.1+1)++(if e then [] else [(n:Int)-ms.getLastD 0+ms.headD 0+1])
theorem ik{l:List Int}(h:l≠[]):(l.map D.int)[0]?=some (.int (l.headD 0)):=by
 cases l with
 |nil=>exact absurd rfl h
 |cons a l=>rfl
theorem xi{n:Nat}{e:Bool}(h:eV "list" d=some false):ψ8 [d,iD n,.bl e]=some (.sh,.bl false):=by
 unfold ψ8;refine dq rfl ?_;unfold b8
 walk_at "nm"
 exact aP (z:=true) (x:=(.sh,.bl false)) (bj (x:=true) (y:=true) (aQ (cN (x:=false) rfl h)) λe=>by cases e) (λ_=>⟨rfl,rfl,aW _⟩) λe=>by cases e
theorem tB{xs:List D}{n:Nat}{e:Bool}(h:xs.length<2):ψ8 [.lst xs,iD n,.bl e]=some (.sh,.bl false):=by
 unfold ψ8;refine dq rfl ?_;unfold b8
 walk_at "nm"
 refine aP (z:=true) (x:=(.sh,.bl false)) (bj (x:=false) (y:=true) (aQ (cN (x:=true) rfl rfl)) λ_=>bj (x:=true) (y:=true) ?_ λe=>by cases e) (λ_=>⟨rfl,rfl,aW _⟩) λe=>by cases e
 rw[jh (i:=(xs.length:Int)) (j:=2) (oB (n:=xs.length) (d:=.lst xs) rfl rfl) rfl];exact congrArg some (decide_eq_true (by lia))
theorem xj{ms:List Int}{n:Nat}{e:Bool}(h:2<=ms.length)(hl:ms.length<=100):ψ8 [mD ms,iD n,.bl e]=some (.sh,.bl (xh ms n e)):=by
 have hne:ms≠[]:=λz=>by rw[z] at h;simp at h
 unfold ψ8;refine dq rfl ?_;unfold b8
 walk_at "nm"
 have ha:aa Γ_6.fn (.blt "all" (.cons (.comp .fz [none,none,none,some 1] (.nm 1) (.e (.var 0)) .non (.fn 1 (.cons (.var 1) (.cons (.var 3) .nil)))) .nil)) [fS (mD ms),fS (iD n),fS (.bl e)]=some (.sh,.bl (Ap ms n)):=by
  have hc:=ku (Γ:=Γ_6.fn) (r:=.fz) (cap:=[none,none,none,some 1]) (tg:=.nm 1) (a:=.var 0) (elt:=.fn 1 (.cons (.var 1) (.cons (.var 3) .nil))) (ρ:=[fS (mD ms),fS (iD n),fS (.bl e)]) (l:=ms) (f:=D.int) (g:=λm=>D.bl (decide (0<=m)&&decide (m<(n:Int)))) (.inl rfl) rfl rfl (by lia) λm hm=>zq rfl (wv (ce (φ:=ψ1) (ds:=[.int m,iD n]) rfl (e2 rfl rfl) rfl rfl (eS (d:=.int m) rfl _) rfl) ⟨_,rfl,rfl⟩);rw[iQ] at hc;have:=oE hc;rw[all_map] at this;exact this
 have hr:aa Γ_6.fn (.blt "all" (.cons (.comp .fz [none,none,none] (.tp [(.nm 1),(.nm 2)]) (.zp (.sl (.var 0) .non (.som (.neg (.lit (.int 1))))) (.sl (.var 0) (.som (.lit (.int 1))) .non)) .non (.cmp .Lt (.var 1) (.var 2))) .nil)) [fS (mD ms),fS (iD n),fS (.bl e)]=some (.sh,.bl (tR ms)):=by
  have hc:=FZ (Γ:=Γ_6.fn) (r:=.fz) (cap:=[none,none,none]) (tg:=.tp [.nm 1,.nm 2]) (elt:=.cmp .Lt (.var 1) (.var 2)) (ρ:=[fS (mD ms),fS (iD n),fS (.bl e)]) (l:=kS ms) (f:=λp=>.tup [.int p.1,.int p.2]) (g:=λp=>D.bl (decide (p.1<p.2))) (xb (mU (a:=.var 0) (xs:=ms) (f:=D.int) rfl rfl) (mV (a:=.var 0) (xs:=ms) (f:=D.int) rfl rfl)) (by unfold kS;rw[Mf,LX];lia) λp hp=>FT rfl (wv (dY (jh rfl rfl)) ⟨_,rfl,rfl⟩);rw[iQ] at hc;have:=oE hc;rw[all_map] at this;exact this
 have h0:∀{Γ:Nat->Option Fn},aa Γ (.ix (.var 0) (.lit (.int 0))) [fS (mD ms),fS (iD n),fS (.bl e)]=some (.sh,.int (ms.headD 0)):=aY (k:=.sh) (n:=0) rfl rfl (.inl rfl) rfl (ik hne);have hz:∀{Γ:Nat->Option Fn},aa Γ (.ix (.var 0) (.neg (.lit (.int 1)))) [fS (mD ms),fS (iD n),fS (.bl e)]=some (.sh,.int (ms.getLastD 0)):=gw (k:=.sh) rfl (.inl rfl) (eH hne);unfold xh;refine aP (x:=(.sh,.bl false)) (bj (x:=false) (aQ (cN (x:=true) rfl rfl)) λ_=>bj (x:=false) ?_ λ_=>bz (aQ (oC ha))) (λe1=>⟨rfl,rfl,?_⟩) λe1=>?_
 ·rw[jh (j:=2) (aM (l:=ms) (f:=D.int) (.inl rfl) rfl) rfl];exact congrArg some (decide_eq_false (by lia))
 ·have e1:Ap ms n=false:=by simpa using e1
  rw[e1];exact aW _
 ·have e1:Ap ms n=true:=by simpa using e1
  rw[e1,K7];refine aP (x:=(.sh,.bl false)) (aQ (oC hr)) (λe2=>⟨rfl,rfl,?_⟩) λe2=>?_
  ·have e2:tR ms=false:=by simpa using e2
   rw[e2];exact aW _
  ·have e2:tR ms=true:=by simpa using e2
   rw[e2,K7];refine cA (Jj (wQ (d:=.bl e) rfl rfl) λ_=>ij (fq (dY (gx h0 rfl)) λ_=>ij (dY (gx hz (cz rfl rfl))))) rfl (aW _)
theorem xk{ms:List Int}{n:Nat}{e:Bool}(h:2<=ms.length)(hl:ms.length<=100):ψ9 [mD ms,iD n,.bl e]=some (.fr k0,mD (bsz ms n e)):=by
 have hne:ms≠[]:=λz=>by rw[z] at h;simp at h
 unfold ψ9;refine dq rfl ?_;unfold b9
 walk_at "nm"
 have hpl:(kS ms).length<=100:=by unfold kS;rw[Mf,LX];lia
 refine aK (FZ (l:=kS ms) (f:=λp=>.tup [.int p.1,.int p.2]) (g:=λp=>D.int (p.2-p.1+1)) (xb (mU (a:=.var 0) (xs:=ms) (f:=D.int) rfl rfl) (mV (a:=.var 0) (xs:=ms) (f:=D.int) rfl rfl)) (by lia) λp hp=>FT rfl (wv (bE (cz rfl rfl) rfl) ⟨_,rfl,rfl⟩)) rfl (by decide) ?_;show Wp (aB Γ_8 1000 _ [] [fS (mD ms),fS (iD n),fS (.bl e),bh (.lst ((kS ms).map λp=>D.int (p.2-p.1+1)))]) _;have hm:((kS ms).map λp=>D.int (p.2-p.1+1))=((kS ms).map λp=>p.2-p.1+1).map D.int:=by rw[KQ];rfl
 rw[hm];generalize hgen:((kS ms).map λp=>p.2-p.1+1)=zs;have hzl:zs.length<=100:=by rw[<- hgen,Kp];exact hpl
 have h0:∀{Γ:Nat->Option Fn} {x:Option Sl},aa Γ (.ix (.var 0) (.lit (.int 0))) [fS (mD ms),fS (iD n),fS (.bl e),x]=some (.sh,.int (ms.headD 0)):=aY (k:=.sh) (n:=0) rfl rfl (.inl rfl) rfl (ik hne);have hz:∀{Γ:Nat->Option Fn} {x:Option Sl},aa Γ (.ix (.var 0) (.neg (.lit (.int 1)))) [fS (mD ms),fS (iD n),fS (.bl e),x]=some (.sh,.int (ms.getLastD 0)):=gw (k:=.sh) rfl (.inl rfl) (eH hne);refine dZ (aQ (rV (x:=e) (s:=⟨false,.fz,.bl e⟩) rfl rfl)) (λe1=>?_) λe1=>bT ?_
 ·have e1:e=false:=by simpa using e1
  subst e1;refine lF (mR (wv (bE (bE (cz rfl hz) h0) rfl) ⟨[],.fz,_,rfl,⟨K2 _,rfl,by rw[Kp];lia⟩,bX (cK (aS (ff (es:=[]) (r:=.fz) rfl ⟨rfl,fU rfl ?_⟩)))⟩));unfold bsz;rw[hgen,if_neg (by decide)];show(Kd.fr k0,D.lst (Mj D.int zs++[D.int ((n:Int)-ms.getLastD 0+ms.headD 0+1)]))=(Kd.fr k0,D.lst (Mj D.int (zs++[(n:Int)-ms.getLastD 0+ms.headD 0+1])));rw[KR];rfl
 ·have e1:e=true:=by simpa using e1
  subst e1;refine aS (ff (es:=[]) (r:=.fz) rfl ⟨rfl,fU rfl ?_⟩);unfold bsz;rw[hgen,if_pos rfl,Ly];rfl
noncomputable def eI(c:Ci):List (Nat×Nat)->Option (List (Nat×Nat))
 |[]=>some []
 |x::xs=>(src c x).bind λs=>(eI c xs).map (s::·)
theorem cg:∀{gs ss:List (Nat×Nat)},eI c gs=some ss->gs.map (src c)=ss.map some
 |[],ss,h=>by cases h;rfl
 |x::gs,ss,h=>by
  unfold eI at h
  cases e:src c x with
  |none=>rw[e] at h;cases h
  |some s=>
   cases e2:eI c gs with
   |none=>rw[e,e2] at h;cases h
   |some t=>
    rw[e,e2] at h;cases h;rw[K6,K6,e,cg e2]
theorem iS:∀{gs:List (Nat×Nat)},eI c gs=none->∃x∈gs,src c x=none
 |[],h=>by cases h
 |x::gs,h=>by
  unfold eI at h
  cases e:src c x with
  |none=>exact⟨x,KF,e⟩
  |some s=>
   cases e2:eI c gs with
   |none=>
    obtain⟨y,hy,e3⟩:=iS e2;exact⟨y,Kx _ hy,e3⟩
   |some t=>rw[e,e2] at h;cases h
theorem kB{gs ss:List (Nat×Nat)}(h:eI c gs=some ss):ss.length=gs.length:=by
 have:=congrArg LY (cg h);simpa using this.symm
inductive Wk (c:Ci):D->Option (List (Nat×Nat))->Prop
 |no {d:D}:eV "list" d=some false->Wk c d none
 |bad {ts:List Th}:ts.length<=100->(∃t∈ts,bA c t=none)->Wk c (.lst (ts.map Th.d)) none
 |ok {gs:List (Nat×Nat)}:gs.length<=100->(∀x∈gs,Vd c x)->Wk c (.lst (gs.map pD)) (some gs)
inductive Mk:D->Option (List Int)->Prop
 |no {d:D}:eV "list" d=some false->Mk d none
 |few {xs:List D}:xs.length<2->Mk (.lst xs) none
 |ok {ms:List Int}:2<=ms.length->ms.length<=60->Mk (mD ms) (some ms)
inductive Dk:D->Option Int->Prop
 |no {d:D} {t:String}:sO d=some t->qd d=false->Dk d none
 |ok (i:Int):Dk (.int i) (some i)
noncomputable def fin(op:Bool)(n:Nat)(ss:List (Nat×Nat))(ms:List Int)(i:Int):Bool:=(bsz ms n op).all (λz=>decide (i<z))&&decide ((ss.map λx=>(x.2:Int)).sum<((bsz ms n op).length:Int))
noncomputable def oP(c:Ci)(w:Option (List (Nat×Nat)))(m:Option (List Int))(d:Option Int):Bool:=match w with
 |none=>false
 |some gs=>match eI c gs with
  |none=>false
  |some []=>false
  |some (s::ss)=>if zA gs (s::ss)||!iR s c gs then false else match d with
   |none=>false
   |some i=>match m with
    |none=>false
    |some ms=>xh ms gs.length (decide (s.1<c.ins))&&fin (decide (s.1<c.ins)) gs.length (s::ss) ms i
theorem d6(h:ψ6 [cD c,w]=some (.sh,.non)):CK [cD c,w,m,d]=some (.sh,.bl false):=by
 unfold CK;refine dq rfl ?_;unfold Fk
 walk_at "nm"
 refine aK (ce (φ:=ψ6) (ds:=[cD c,w]) rfl (e2 rfl rfl) rfl rfl h rfl) rfl (by decide) ?_;exact aP (z:=true) (x:=(.sh,.bl false)) (bj (x:=true) (y:=true) rfl λe=>by cases e) (λ_=>⟨rfl,rfl,aW _⟩) λe=>by cases e
theorem xl{c:Ci}(ok:Ok c){w m d:D}{wo:Option (List (Nat×Nat))}{mo:Option (List Int)}{io:Option Int}(hw:Wk c w wo)(hm:Mk m mo)(hd:Dk d io):CK [cD c,w,m,d]=some (.sh,.bl (oP c wo mo io)):=by
 cases hw with
 |no h=>exact d6 (xc h)
 |@bad ts hl h=>
  refine d6 ?_;obtain⟨t,ht,e⟩:=h;refine kA ok (λz=>by rw[z] at ht;cases ht) hl (λ_=>rfl) λh=>?_;have:=L8.mp h t ht;rw[fx e] at this;exact absurd rfl this
 |@ok gs hl hv=>
  unfold oP;dsimp only
  cases hs:eI c gs with
  |none=>
   dsimp only;refine d6 ?_;obtain⟨x,hx,e⟩:=iS hs;have hmap:(gs.map oW).map Th.d=gs.map pD:=by rw[KQ];rfl
   rw[<- hmap];refine kA ok (λz=>by rw[List.map_eq_nil_iff] at z;rw[z] at hx;cases hx) (by rw[Kp];exact hl) (λ_=>rfl) λh=>?_;have:=L8.mp h (oW x) (Lf.mpr ⟨x,hx,rfl⟩);rw[qh (hv x hx),e] at this;exact absurd rfl this
  |some ss=>
   cases ss with
   |nil=>
    dsimp only;have:gs=[]:=KY.mp (by rw[<- kB hs];rfl);subst this;exact d6 tz
   |cons s ss=>
    dsimp only;have hn:gs≠[]:=λz=>by rw[z] at hs;cases hs
    have st:=xg ok hn hl hv (cg hs)
    cases hb:zA gs (s::ss)||!iR s c gs with
    |true=>
     rw[hb,if_pos rfl] at st;rw[if_pos rfl];exact d6 st
    |false=>
     rw[hb,if_neg (by decide)] at st;rw[if_neg (by decide)];unfold CK;refine dq rfl ?_;unfold Fk
     walk_at "nm"
     refine aK (ce (φ:=ψ6) (ds:=[cD c,.lst (gs.map pD)]) rfl (e2 rfl rfl) rfl rfl st rfl) rfl (by decide) ?_;show Wp (aB Γ_9 1000 _ [] [fS (cD c),fS (.lst (gs.map pD)),fS m,fS d,bh (.lst ((s::ss).map pD)),none,none]) _
     have hty:∃t,sO d=some t:=by
      cases hd with
      |no h _=>exact⟨_,h⟩
      |ok i=>exact⟨_,rfl⟩
     obtain⟨t,hty⟩:=hty;refine aP (x:=(.sh,.bl false)) (bj (x:=false) rfl λ_=>bz (aQ (kR (ce (φ:=ψ0) (ds:=[d]) rfl (e1 rfl) rfl rfl (oJ hty) rfl)))) (λe=>⟨rfl,rfl,?_⟩) λe=>?_
     ·cases hd with
      |no h hw=>exact aW _
      |ok i=>cases e
     ·cases hd with
      |no h hw=>rw[hw] at e;cases e
      |ok i=>
       dsimp only;refine aK (Aj (φ:=ψ7) (ds:=[cD c,.lst ((s::ss).map pD)]) rfl (e2 rfl rfl) rfl rfl r6 rfl) rfl (by decide) ?_;show Wp (aB Γ_9 1000 _ [] [fS (cD c),fS (.lst (gs.map pD)),fS m,fS (.int i),bh (.lst ((s::ss).map pD)),fS (.bl (decide (s.1<c.ins))),none]) _;have hlen:∀{Γ:Nat->Option Fn} {a b c' d' e' f':Option Sl},aa Γ (.blt "len" (.cons (.var 1) .nil)) [a,fS (.lst (gs.map pD)),b,c',d',e',f']=some (.sh,iD gs.length):=aM (.inl rfl) rfl;generalize decide (s.1<c.ins)=op
       have no:ψ8 [m,iD gs.length,.bl op]=some (.sh,.bl false)->Wp (aB Γ_9 1000 (.cons (.ifs (.p (.not (.fn 8 (.cons (.var 2) (.cons (.blt "len" (.cons (.var 1) .nil)) (.cons (.var 5) .nil)))))) (.cons (.ret (.p (.lit (.bl false)))) .nil) .nil) (match Fk with|.cons _ (.cons _ (.cons _ (.cons _ r)))=>r|r=>r)) [] [fS (cD c),fS (.lst (gs.map pD)),fS m,fS (.int i),bh (.lst ((s::ss).map pD)),fS (.bl op),none]) λr=>Wp (hJ (some r)) λx=>x=(.sh,.bl false):=λh=>
        aP (z:=true) (x:=(.sh,.bl false)) (aQ (kR (x:=false) (ce (φ:=ψ8) (ds:=[m,iD gs.length,.bl op]) rfl (e3 rfl hlen rfl) rfl rfl h rfl))) (λ_=>⟨rfl,rfl,aW _⟩) λe=>by cases e
       cases hm with
       |no h=>exact no (xi h)
       |few h=>exact no (tB h)
       |@ok ms h2 hml=>
        dsimp only;refine aP (x:=(.sh,.bl false)) (aQ (kR (ce (φ:=ψ8) (ds:=[mD ms,iD gs.length,.bl op]) rfl (e3 rfl hlen rfl) rfl rfl (xj h2 (by lia)) rfl))) (λe=>⟨rfl,rfl,?_⟩) λe=>?_
        ·have e:xh ms gs.length op=false:=by simpa using e
         rw[e];exact aW _
        ·have e:xh ms gs.length op=true:=by simpa using e
         rw[e,K7];refine aK (ce (φ:=ψ9) (ds:=[mD ms,iD gs.length,.bl op]) rfl (e3 rfl hlen rfl) rfl rfl (xk h2 (by lia)) rfl) rfl (by decide) ?_
         have hbl:(bsz ms gs.length op).length<=1000:=by
          unfold bsz kS;rw[K9,Kp,Mf,LX]
          split<;>simp<;>lia
         generalize hz:bsz ms gs.length op=zs at hbl;show Wp (aB Γ_9 1000 _ [] [fS (cD c),fS (.lst (gs.map pD)),fS (mD ms),fS (.int i),bh (.lst ((s::ss).map pD)),fS (.bl op),bh (mD zs)]) _;have hsl:=kB hs
         have ha:aa Γ_9.fn (.blt "all" (.cons (.comp .fz [none,none,some 3] (.nm 1) (.e (.var 6)) .non (.cmp .Gt (.var 1) (.var 2))) .nil)) [fS (cD c),fS (.lst (gs.map pD)),fS (mD ms),fS (.int i),bh (.lst ((s::ss).map pD)),fS (.bl op),bh (mD zs)]=some (.sh,.bl (zs.all λz=>decide (i<z))):=by
          have hc:=ku (Γ:=Γ_9.fn) (r:=.fz) (cap:=[none,none,some 3]) (tg:=.nm 1) (a:=.var 6) (elt:=.cmp .Gt (.var 1) (.var 2)) (ρ:=[fS (cD c),fS (.lst (gs.map pD)),fS (mD ms),fS (.int i),bh (.lst ((s::ss).map pD)),fS (.bl op),bh (mD zs)]) (l:=zs) (f:=D.int) (g:=λz=>D.bl (decide (i<z))) (.inl rfl) rfl rfl (by lia) λz hz=>zq rfl (wv (dY (qc rfl rfl)) ⟨_,rfl,rfl⟩);rw[iQ] at hc;have:=oE hc;rw[all_map] at this;exact this
         have hsum:aa Γ_9.fn (.blt "sum" (.cons (.comp .fz [none,none,none] (.tp [(.nm 1),(.nm 2)]) (.e (.var 4)) .non (.var 2)) .nil)) [fS (cD c),fS (.lst (gs.map pD)),fS (mD ms),fS (.int i),bh (.lst ((s::ss).map pD)),fS (.bl op),bh (mD zs)]=some (.sh,.int ((s::ss).map λx=>(x.2:Int)).sum):=by
          have hc:=ku (Γ:=Γ_9.fn) (r:=.fz) (cap:=[none,none,none]) (tg:=.tp [.nm 1,.nm 2]) (a:=.var 4) (elt:=.var 2) (ρ:=[fS (cD c),fS (.lst (gs.map pD)),fS (mD ms),fS (.int i),bh (.lst ((s::ss).map pD)),fS (.bl op),bh (mD zs)]) (l:=s::ss) (f:=pD) (g:=λx=>iD x.2) (.inl rfl) rfl rfl (by lia) λz hz=>FT rfl (wv (r:=(.sh,iD z.2)) rfl ⟨_,rfl,rfl⟩);have em:((s::ss).map λx=>iD x.2)=((s::ss).map λx=>(x.2:Int)).map D.int:=by rw[KQ];rfl
          rw[em] at hc;exact Am hc
         unfold fin;rw[hz];exact cA (fq ha λ_=>ij (dY (jh hsum (aM (l:=zs) (f:=D.int) (.inl rfl) rfl)))) rfl (aW _)
theorem tD(f:Int×Int->D)(ms:List Int):(kS ms).map f=(KG (ms.length-1)).map λk=>f (ms.getD k 0,ms.getD (k+1) 0):=by
 unfold kS;refine Mb (by simp) λi h1 h2=>?_;rw[Kp,K5] at h2;rw[LW,LW,LR,Nn,MP,Ni];congr 1;rw[KA,Ko (by lia),KA,Ko (by lia)];simp only[Lq];congr 1;congr 1
 lia
theorem xm{ms:List Int}{k:Nat}(h:k<ms.length):(ms.map D.int)[k]?=some (.int (ms.getD k 0)):=by rw[Kr,KA,Ko h];rfl
theorem tE{ms:List Int}{n:Nat}{r:Bool}(h:2<=ms.length)(hl:ms.length<=100):FJ [mD ms,iD n,.bl r]=some (.fr k0,mD (bsz ms n (!r))):=by
 have hne:ms≠[]:=λz=>by rw[z] at h;simp at h
 unfold FJ;refine dq rfl ?_;unfold IL
 walk_at "nm"
 have hlen:aa Γ_18.fn (.bin .Sub (.blt "len" (.cons (.var 0) .nil)) (.lit (.int 1))) [fS (mD ms),fS (iD n),fS (.bl r),none]=some (.sh,iD (ms.length-1)):=by
  rw[cz (aM (l:=ms) (f:=D.int) (.inl rfl) rfl) rfl];exact congrArg (λz=>some (Kd.sh,D.int z)) (oG (m:=ms.length) (n:=1) (by lia))
 refine aK (Jk (n:=ms.length-1) (g:=λk=>D.int (ms.getD (k+1) 0-ms.getD k 0+1)) hlen (by lia) λk hk=>zq rfl (wv (bE (cz (aY (k:=.sh) (n:=k+1) rfl (bE rfl rfl) (.inl rfl) rfl (xm (by lia))) (aY (k:=.sh) (n:=k) rfl rfl (.inl rfl) rfl (xm (by lia)))) rfl) ⟨_,rfl,rfl⟩)) rfl (by decide) ?_;rw[show((KG (ms.length-1)).map λk=>D.int (ms.getD (k+1) 0-ms.getD k 0+1))=((kS ms).map λp=>p.2-p.1+1).map D.int by rw[KQ,tD];rfl];have hzl:((kS ms).map λp=>p.2-p.1+1).length<=100:=by unfold kS;rw[Kp,Mf,LX];lia
 show Wp (aB Γ_18 1000 _ [] [fS (mD ms),fS (iD n),fS (.bl r),bh (mD ((kS ms).map λp=>p.2-p.1+1))]) _;generalize hgen:((kS ms).map λp=>p.2-p.1+1)=zs at hzl;have h0:∀{Γ:Nat->Option Fn} {x:Option Sl},aa Γ (.ix (.var 0) (.lit (.int 0))) [fS (mD ms),fS (iD n),fS (.bl r),x]=some (.sh,.int (ms.headD 0)):=aY (k:=.sh) (n:=0) rfl rfl (.inl rfl) rfl (ik hne);have hz:∀{Γ:Nat->Option Fn} {x:Option Sl},aa Γ (.ix (.var 0) (.neg (.lit (.int 1)))) [fS (mD ms),fS (iD n),fS (.bl r),x]=some (.sh,.int (ms.getLastD 0)):=gw (k:=.sh) rfl (.inl rfl) (eH hne);have hone:∀{Γ:Nat->Option Fn},aa Γ (.lst (.own [] .fz) (.cons (.bin .Add (.bin .Add (.bin .Sub (.var 1) (.ix (.var 0) (.neg (.lit (.int 1))))) (.ix (.var 0) (.lit (.int 0)))) (.lit (.int 1))) .nil)) [fS (mD ms),fS (iD n),fS (.bl r),bh (mD zs)]=some (.fr k0,.lst [.int ((n:Int)-ms.getLastD 0+ms.headD 0+1)]):=λ{Γ}=>aC (de (wv (e1 (bE (bE (cz rfl hz) h0) rfl)) (bv rfl rfl)));refine dZ (rV (x:=r) (s:=⟨false,.fz,.bl r⟩) rfl rfl) (λe1=>?_) λe1=>bT ?_
 ·subst e1;refine aS (a9 (wv (kr (xs:=zs.map D.int) ⟨rfl,rfl,by rw[Kp];show _+1<=_;lia⟩ rfl hone) ⟨rfl,bG (fU rfl ?_)⟩));unfold bsz;rw[hgen];show(Kd.fr k0,D.lst (Mj D.int zs++[D.int ((n:Int)-ms.getLastD 0+ms.headD 0+1)]))=(Kd.fr k0,D.lst (Mj D.int (zs++[(n:Int)-ms.getLastD 0+ms.headD 0+1])));rw[KR];rfl
 ·subst e1;refine aS (ff (es:=[]) (r:=.fz) rfl ⟨rfl,fU rfl ?_⟩);unfold bsz;rw[hgen];show _=(Kd.fr k0,mD (zs++[]));rw[Ly];rfl
theorem ris_iff{ms:List Int}:tR ms=true↔ms.Pairwise (· < ·):=by
 unfold tR kS
 induction ms with
 |nil=>simp
 |cons a l ih=>cases l with
  |nil=>simp
  |cons b l=>
   rw[show(a::b::l).dropLast=a::(b::l).dropLast from rfl,show(a::b::l).drop 1=b::(b::l).drop 1 from rfl,List.zip_cons_cons,LA,Kn,ih,decide_eq_true_eq,K1 (a:=a)];constructor
   ·rintro ⟨h1,h2⟩
    refine⟨λx hx=>?_,h2⟩;rcases Ku.mp hx with rfl|hx
    ·exact h1
    ·exact Int.lt_trans h1 ((K1.mp h2).1 x hx)
   ·rintro ⟨h1,h2⟩
    exact⟨h1 b KF,h2⟩
theorem lK:decide (G.cr ms=ms)=tR ms:=by
 by_cases h:tR ms=true
 ·rw[h];exact decide_eq_true (G.mr (G.gN ms) (ris_iff.mp h) λz=>G.iy)
 ·rw[show tR ms=false by simpa using h];exact decide_eq_false λe=>h (ris_iff.mpr (e▸G.gN ms))
theorem Aq:∀x y:List Int,PyData.eqvAll (m6 (x.map D.int)) (m6 (y.map D.int))=decide (x=y)
 |[],[]=>rfl
 |[],_::_=>rfl
 |_::_,[]=>rfl
 |a::x,b::y=>by
  show(PyData.eqv (py (.int a)) (py (.int b))&&PyData.eqvAll (m6 (x.map D.int)) (m6 (y.map D.int)))=_;rw[Aq x y];have:PyData.eqv (py (.int a)) (py (.int b))=decide (a=b):=jv;rw[this,<- MA];exact decide_eq_decide.mpr ⟨λh=>by rw[h.1,h.2],λh=>by cases h;exact⟨rfl,rfl⟩⟩
theorem oQ{n:Nat}:∀ps:List Int,bF n (ps.map D.int)=true
 |[]=>rfl
 |p::ps=>by simp only[K6,bF,cC,K7];exact oQ ps
theorem CT:bf .NotEq (mD x) (mD y)=some (!decide (x=y)):=by
 show(if cC 90 (mD x)=true/\cC 90 (mD y)=true then some (!iU (mD x) (mD y)) else De (mD x) (mD y))=_
 rw[if_pos ⟨by show(decide (1<=90)&&bF 89 _)=true;rw[oQ];rfl,by show(decide (1<=90)&&bF 89 _)=true;rw[oQ];rfl⟩];congr 2;exact Aq x y
theorem xn{ms:List Int}(hl:ms.length<=60)(h:aa Γ a ρ=some (k,mD ms)):aa Γ (.sset a) ρ=some (.fr aZ,mD (G.cr ms)):=by
 rw[vm,h]
 show(match toInts (ms.map D.int) with|some ks=>if ks.length<=60 then some (Kd.fr aZ,D.lst ((G.cr ks).map D.int)) else none|none=>none)=_
 rw[c5];exact if_pos hl
theorem mW{ms:List Int}{n:Nat}(hne:ms≠[])(h:tR ms=true):Ap ms n=(decide (0<=ms.headD 0)&&decide (ms.getLastD 0<(n:Int))):=by
 have hp:=ris_iff.mp h
 have hh:∀x∈ms,ms.headD 0<=x:=λx hx=>by
  cases ms with
  |nil=>exact absurd rfl hne
  |cons a l=>
   rcases Ku.mp hx with rfl|hx
   ·exact MH _
   ·exact M9 ((K1.mp hp).1 x hx)
 have hl:∀x∈ms,x<=ms.getLastD 0:=λx hx=>by
  rw[LK,LO hne,Lq];obtain⟨i,hi,rfl⟩:=Lz.mp hx;rw[Mw];rcases KW i (ms.length-1) with g|g
  ·exact M9 (Mr.mp hp i (ms.length-1) hi (by lia) g)
  ·have:i=ms.length-1:=by lia
   subst this;exact MH _
 have mh:ms.headD 0∈ms:=by
  cases ms with
  |nil=>exact absurd rfl hne
  |cons a l=>exact KF
 have ml:ms.getLastD 0∈ms:=by
  rw[LK,LO hne,Lq];exact No hne
 unfold Ap;rw[L0,Lc,Kn,decide_eq_true_eq,decide_eq_true_eq];constructor
 ·intro h;have h1:=h _ mh;have h2:=h _ ml;rw[Kn,decide_eq_true_eq,decide_eq_true_eq] at h1 h2;exact⟨h1.1,h2.2⟩
 ·rintro ⟨h1,h2⟩ x hx
  rw[Kn,decide_eq_true_eq,decide_eq_true_eq];have:=hh x hx;have:=hl x hx
  lia
noncomputable def lf:Option (Nat×Nat)->D
 |none=>.non
 |some x=>iD x.1
theorem Gc(o:Option (Nat×Nat)):∃y,lD o=.tup [lf o,y]:=by cases o<;>exact⟨_,rfl⟩
theorem CU{o:Option (Nat×Nat)}{j:Nat}:bf .NotEq (lf o) (iD j)=some (!decide (o.map Prod.fst=some j)):=by
 cases o with
 |none=>rfl
 |some x=>
  show bf .NotEq (iD x.1) (iD j)=some (!decide (some x.1=some j));rw[show bf .NotEq (iD x.1) (iD j)=some (!decide ((x.1:Int)=(j:Int))) from tQ (wz rfl)];congr 2;exact decide_eq_decide.mpr ⟨λh=>by congr 1;lia,λh=>by cases h;rfl⟩
noncomputable abbrev qq(c:Ci)(gs:List (Nat×Nat))(k:Nat):Bool:=!decide ((src c (gs.getD (k+1) (0,0))).map Prod.fst=some (gs.getD k (0,0)).1)
theorem fG{α:Type}{l:List α}{k:Nat}{x:α}(h:k<l.length):l[k]?=some (l.getD k x):=by rw[KA,Ko h];rfl
theorem CV{gs ss:List (Nat×Nat)}(h:gs.map (src c)=ss.map some){k:Nat}(hk:k<gs.length):src c (gs.getD k (0,0))=some (ss.getD k (0,0)):=by
 have hl:gs.length=ss.length:=by have:=congrArg LY h;simpa using this
 have:=congrArg (λl=>l[k]?) h;simp only[Kr] at this;rw[fG (x:=(0,0)) hk,fG (x:=(0,0)) (by lia:k<ss.length)] at this;exact Option.some.inj this
theorem lM{gs ss:List (Nat×Nat)}(h:gs.map (src c)=ss.map some):zA gs ss=(KG (gs.length-1)).any (qq c gs):=by
 have hl:gs.length=ss.length:=by have:=congrArg LY h;simpa using this
 have e:gs.dropLast.zip (ss.drop 1)=(KG (gs.length-1)).map λk=>(gs.getD k (0,0),ss.getD (k+1) (0,0)):=by
  refine Mb (by simp;lia) λi h1 h2=>?_;rw[Kp,K5] at h2;rw[LW,LR,Nn,MP,Ni];rw[KA,Ko (by lia),KA,Ko (by lia)];simp only[Lq];congr 1;congr 1
  lia
 unfold zA;rw[e,M7];refine L0.mpr ?_;rw[LU,LU]
 have key:∀k,k∈KG (gs.length-1)->((λp:(Nat×Nat)×(Nat×Nat)=>!decide (p.2.1=p.1.1))∘λk=>(gs.getD k (0,0),ss.getD (k+1) (0,0))) k=qq c gs k:=λk hk=>by
  have hk:=KU.mp hk;show(!decide ((ss.getD (k+1) (0,0)).1=(gs.getD k (0,0)).1))=_;unfold qq;rw[CV h (k:=k+1) (by lia)];congr 1;exact decide_eq_decide.mpr ⟨λh=>by rw[<- h];rfl,λh=>Option.some.inj h⟩
 constructor
 ·rintro ⟨k,hk,e⟩
  exact⟨k,hk,(key k hk)▸e⟩
 ·rintro ⟨k,hk,e⟩
  exact⟨k,hk,(key k hk).symm▸e⟩
theorem zB(h0:src c g=some s)(hq:(KG ((g::gs).length-1)).any (qq c (g::gs))=false):∃ss,eI c (g::gs)=some (s::ss)/\zA (g::gs) (s::ss)=false:=by
 cases e:eI c (g::gs) with
 |none=>
  exfalso;obtain⟨x,hx,ex⟩:=iS e;obtain⟨i,hi,rfl⟩:=Lz.mp hx
  cases i with
  |zero=>rw[show(g::gs)[0]=g from rfl,h0] at ex;cases ex
  |succ i=>
   have:=L8.mp hq i (KU.mpr (by lia));apply this;unfold qq;rw[show(g::gs).getD (i+1) (0,0)=(g::gs)[i+1] by rw[KA,Ko hi];rfl,ex];rfl
 |some t=>
  have hm:=cg e
  cases t with
  |nil=>cases hm
  |cons s' ss=>
   rw[K6,K6,h0] at hm;have h1:s=s':=Option.some.inj (List.cons.inj hm).1;subst h1;refine⟨ss,rfl,?_⟩;rw[lM (cg e)];exact hq
theorem Ar:oP c w none d=false:=by
 unfold oP
 cases w with
 |none=>rfl
 |some gs=>
  dsimp only
  cases eI c gs with
  |none=>rfl
  |some ss=>cases ss with
   |nil=>rfl
   |cons s ss=>
    dsimp only;split
    ·rfl
    ·cases d<;>rfl
theorem Ge:oP c w m none=false:=by
 unfold oP
 cases w with
 |none=>rfl
 |some gs=>
  dsimp only
  cases eI c gs with
  |none=>rfl
  |some ss=>cases ss with
   |nil=>rfl
   |cons s ss=>
    dsimp only
    split<;>rfl
theorem Gf{gs:List (Nat×Nat)}{i:Int}(h:∀e,xh ms gs.length e=false):oP c (some gs) (some ms) (some i)=false:=by
 unfold oP;dsimp only
 cases eI c gs with
 |none=>rfl
 |some ss=>cases ss with
  |nil=>rfl
  |cons s ss=>
   dsimp only;split
   ·rfl
   ·rw[h];rfl
theorem Gg{gs:List (Nat×Nat)}{i:Int}(h:(KG (gs.length-1)).any (qq c gs)=true):oP c (some gs) (some ms) (some i)=false:=by
 unfold oP;dsimp only
 cases e:eI c gs with
 |none=>rfl
 |some ss=>cases ss with
  |nil=>rfl
  |cons s ss=>
   dsimp only;rw[lM (cg e),h];rfl
theorem CW{c:Ci}{gs ss:List (Nat×Nat)}{s:Nat×Nat}{i:Int}(h:eI c gs=some (s::ss))(hc:zA gs (s::ss)=false):oP c (some gs) (some ms) (some i)=(iR s c gs&&(xh ms gs.length (decide (s.1<c.ins))&&fin (decide (s.1<c.ins)) gs.length (s::ss) ms i)):=by
 unfold oP;dsimp only;rw[h];dsimp only;rw[hc,LP]
 cases iR s c gs<;>rfl
theorem zC{n:Int}{i:Int}:decide (i<kO n ns)=(n::ns).all λz=>decide (i<z):=by
 obtain⟨h1,h2⟩:=jm ns n;rw[L0,decide_eq_true_eq,Lc];constructor
 ·intro h x hx;exact decide_eq_true (Int.lt_of_lt_of_le h (h2 x hx))
 ·intro h;exact of_decide_eq_true (h _ h1)
theorem Jl{n:Nat}(h:1<=n):cb 1 (n:Int)=(KG (n-1)).map λ(k:Nat)=>D.int (1+(k:Int)):=by
 unfold cb;rw[show((n:Int)-1).toNat=n-1 by lia]
noncomputable abbrev Kj:bN:=match GK with|.cons _ (.cons _ (.cons _ r))=>r|r=>r
theorem xo{c:Ci}(ok:Ok c){gs:List (Nat×Nat)}{ms:List Int}{i:Int}(hl:gs.length<=100)(hv:∀x∈gs,Vd c x)(h2:2<=ms.length)(hml:ms.length<=60)(hr:tR ms=true)(hB:Ap ms gs.length=true) :
  Wp (aB Γ_19 1000 Kj [] [fS (cD c),fS (.lst (gs.map pD)),fS (mD ms),fS (.int i),none,none,none,none]) λr=>Wp (hJ (some r)) λx=>x=(.sh,.bl (oP c (some gs) (some ms) (some i))):=by
 have hne:ms≠[]:=λz=>by rw[z] at h2;simp at h2
 have hg:gs≠[]:=λz=>by
  rw[mW hne hr,z,Kn,decide_eq_true_eq,decide_eq_true_eq] at hB
  cases ms with
  |nil=>exact absurd rfl hne
  |cons a l=>
   have hp:=ris_iff.mp hr
   have:(a::l).getLastD 0∈a::l:=by
    rw[LK,LO hne,Lq];exact No hne
   have h3:a<=(a::l).getLastD 0:=by
    rcases Ku.mp this with e|e
    ·rw[e];exact MH _
    ·exact M9 ((K1.mp hp).1 _ e)
   have h4:(0:Int)<=a:=hB.1;have h5:=hB.2;simp only[Mz] at h5
   lia
 obtain⟨g,gs',rfl⟩:∃g gs',gs=g::gs':=by
  cases gs with
  |nil=>exact absurd rfl hg
  |cons g gs'=>exact⟨g,gs',rfl⟩
 generalize hgs:g::gs'=gs at *;show Wp (aB Γ_19 1000 (.cons (.asg 5 (.p (.comp .fz [none,none,none,none,some 0] (.tp [(.nm 1),(.nm 2)]) (.e (.var 1)) .non (.fn 17 (.cons (.var 4) (.cons (.var 1) (.cons (.var 2) .nil))))))) _) [] [fS (cD c),fS (.lst (gs.map pD)),fS (mD ms),fS (.int i),none,none,none,none]) _;refine aK (ku (l:=gs) (f:=pD) (g:=λx=>lD (src c x)) (.inl rfl) rfl rfl (by lia) λx hx=>FT rfl (wv (ce (φ:=CM) (ds:=[cD c,iD x.1,iD x.2]) rfl (e3 rfl rfl rfl) rfl rfl (oI ok (hv x hx).1 (hv x hx).2.1 (hv x hx).2.2) rfl) ⟨_,rfl,rfl⟩)) rfl (by decide) ?_;have hlen:∀{Γ:Nat->Option Fn} {a b c' d' e' f' g':Option Sl},aa Γ (.blt "len" (.cons (.var 1) .nil)) [a,fS (.lst (gs.map pD)),b,c',d',e',f',g']=some (.sh,iD gs.length):=aM (.inl rfl) rfl;have hn1:1<=gs.length:=by rw[<- hgs];simp
 show Wp (aB Γ_19 1000 _ [] [fS (cD c),fS (.lst (gs.map pD)),fS (mD ms),fS (.int i),none,bh (.lst (gs.map λx=>lD (src c x))),none,none]) _;refine Ao (l:=KG (gs.length-1)) (f:=λk=>D.int (1+(k:Int))) (q:=qq c gs) (x':=(.sh,.bl false)) ?_ (λk hk=>⟨[(4,.int (1+(k:Int)))],rfl,rfl,rfl,?_,λ_=>rfl⟩) rfl (λh ρ'=>?_) λh=>?_
 ·rw[<- Jl hn1];exact tQ (df (ar (wv hlen (dh (a6 (by lia) (by lia) (by lia) (by lia) (by lia)) rfl))))
 ·have hk:=KU.mp hk;obtain⟨y,hy⟩:=Gc (src c (gs.getD (k+1) (0,0)))
  have e1:(gs.map λx=>lD (src c x))[k+1]?=some (.tup [lf (src c (gs.getD (k+1) (0,0))),y]):=by
   rw[Kr,fG (x:=(0,0)) (by lia:k+1<gs.length),<- hy];rfl
  have e2:(gs.map pD)[k]?=some (.tup [iD (gs.getD k (0,0)).1,iD (gs.getD k (0,0)).2]):=by
   rw[Kr,fG (x:=(0,0)) (by lia:k<gs.length)];rfl
  show av Γ_19.fn _ [fS (cD c),fS (.lst (gs.map pD)),fS (mD ms),fS (.int i),fS (.int (1+(k:Int))),bh (.lst (gs.map λx=>lD (src c x))),none,none]=_;exact bO (aY (n:=0) (aY (n:=k+1) rfl rfl (.inl rfl) (by lia) e1) rfl (.inr rfl) rfl rfl) (aY (n:=0) (aY (n:=k) rfl (cz rfl rfl) (.inl rfl) (by lia) e2) rfl (.inr rfl) rfl rfl) CU
 ·rw[Gg h];exact aW _
 ·show Wp (aB Γ_19 1000 _ [] [fS (cD c),fS (.lst (gs.map pD)),fS (mD ms),fS (.int i),none,bh (.lst (gs.map λx=>lD (src c x))),none,none]) _
  cases h0:src c g with
  |none=>
   have hs:eI c gs=none:=by rw[<- hgs];unfold eI;rw[h0];rfl
   have hw:oP c (some gs) (some ms) (some i)=false:=by unfold oP;dsimp only;rw[hs]
   rw[hw];have e0:(gs.map λx=>lD (src c x))[0]?=some (.tup [.non,iD 0]):=by rw[<- hgs];show some (lD (src c g))=_;rw[h0];rfl
   refine aK (aY (n:=0) (d:=.non) (aY (n:=0) rfl rfl (.inl rfl) rfl e0) rfl (.inr rfl) rfl rfl) rfl (by decide) ?_;exact aP (z:=true) (x:=(.sh,.bl false)) (bj (x:=true) (y:=true) rfl λe=>by cases e) (λ_=>⟨rfl,rfl,aW _⟩) λe=>by cases e
  |some s=>
   obtain⟨ss,hs,hc⟩:=zB (gs:=gs') h0 (by rw[hgs];exact h);rw[hgs] at hs hc;rw[CW hs hc];have e0:(gs.map λx=>lD (src c x))[0]?=some (pD s):=by rw[<- hgs];show some (lD (src c g))=_;rw[h0];rfl
   refine aK (aY (n:=0) (d:=iD s.1) (aY (n:=0) rfl rfl (.inl rfl) rfl e0) rfl (.inr rfl) rfl rfl) rfl (by decide) ?_;show Wp (aB Γ_19 1000 _ [] [fS (cD c),fS (.lst (gs.map pD)),fS (mD ms),fS (.int i),none,bh (.lst (gs.map λx=>lD (src c x))),fS (iD s.1),none]) _;have hw:∀{Γ:Nat->Option Fn} {a b c' d' e' f' g':Option Sl},aa Γ (.ix (.ix (.var 1) (.neg (.lit (.int 1)))) (.lit (.int 0))) [a,fS (.lst (gs.map pD)),b,c',d',e',f',g']=some (.sh,iD (gs.getLastD (0,0)).1):=aY (k:=.sh) (n:=0) (gw (k:=.sh) (xs:=gs.map pD) rfl (.inl rfl) (eH hg)) rfl (.inr rfl) rfl rfl;refine aP (x:=(.sh,.bl false)) (bj (x:=false) rfl λ_=>bz (ii (tu rfl (c0 rfl)) λ_=>bz (tw rfl hw))) (λe=>⟨rfl,rfl,?_⟩) λe=>?_
   ·have:iR s c gs=false:=by
     rw[LP,Kn,decide_eq_true_eq,K4,decide_eq_false_iff_not] at e;unfold iR;rw[LL,decide_eq_false_iff_not,decide_eq_false_iff_not]
     lia
    rw[this];exact aW _
   ·have hs1:iR s c gs=true:=by
     rw[LP,LI,decide_eq_false_iff_not,Ln,decide_eq_true_eq] at e;unfold iR;rw[K8,decide_eq_true_eq,decide_eq_true_eq]
     lia
    rw[hs1,K7];have m0:∀{Γ:Nat->Option Fn} {a b d' e' f' g' h':Option Sl},aa Γ (.ix (.var 2) (.lit (.int 0))) [a,b,fS (mD ms),d',e',f',g',h']=some (.sh,.int (ms.headD 0)):=aY (k:=.sh) (n:=0) rfl rfl (.inl rfl) rfl (ik hne);have mz:∀{Γ:Nat->Option Fn} {a b d' e' f' g' h':Option Sl},aa Γ (.ix (.var 2) (.neg (.lit (.int 1)))) [a,b,fS (mD ms),d',e',f',g',h']=some (.sh,.int (ms.getLastD 0)):=gw (k:=.sh) rfl (.inl rfl) (eH hne);have hop:∀x:Bool,decide ((s.1:Int)<(c.ins:Int))=x->decide (s.1<c.ins)=x:=λx h=>by rw[<- h];exact decide_eq_decide.mpr (by lia)
    have hmk:∀op:Bool,xh ms gs.length op=(!op||(decide (ms.headD 0=0)&&decide (ms.getLastD 0=(gs.length:Int)-1))):=λop=>by unfold xh;rw[hB,hr,K7,K7]
    refine aP (x:=(.sh,.bl false)) (ii (jh rfl (c0 rfl)) λ_=>bz (bj (tw m0 rfl) λ_=>bz (tw mz (cz hlen rfl)))) (λe=>⟨rfl,rfl,?_⟩) λe=>?_
    ·rw[Kn] at e;rw[hop true e.1,hmk]
     have:(decide (ms.headD 0=0)&&decide (ms.getLastD 0=(gs.length:Int)-1))=false:=by
      have e2:=e.2;rw[K8,K4,K4] at e2
      rcases e2 with e2|e2<;>rw[e2]<;>simp
     rw[this];exact aW _
    ·have hmt:xh ms gs.length (decide (s.1<c.ins))=true:=by
      rw[hmk]
      cases ho:decide ((s.1:Int)<(c.ins:Int)) with
      |false=>rw[hop false ho];rfl
      |true=>
       rw[hop true ho];rw[ho,K7,LL,Ln,Ln] at e;rw[e.1,e.2];rfl
     rw[hmt,K7]
     have hge:∀{Γ:Nat->Option Fn} {b d' e' f' g' h':Option Sl},aa Γ (.cmp .GtE (.var 6) (.ix (.var 0) (.lit (.int 0)))) [fS (cD c),b,d',e',f',g',fS (iD s.1),h']=some (.sh,.bl (!decide (s.1<c.ins))):=λ{Γ}=>by
      refine dY ?_;rw[tu (i:=(s.1:Int)) (j:=(c.ins:Int)) rfl (c0 rfl)];congr 1;rw[<- decide_not];exact decide_eq_decide.mpr (by lia)
     generalize decide (s.1<c.ins)=op at *;refine aK (ce (φ:=FJ) (ds:=[mD ms,iD gs.length,.bl (!op)]) rfl (e3 rfl hlen hge) rfl rfl (tE h2 (by lia)) rfl) rfl (by decide) ?_;rw[Bool.not_not];unfold fin
     have hbl:(bsz ms gs.length op)≠[]:=by
      unfold bsz kS
      cases ms with
      |nil=>simp at h2
      |cons a l=>cases l with
       |nil=>simp at h2
       |cons b l=>simp
     generalize bsz ms gs.length op=zs at *
     cases zs with
     |nil=>exact absurd rfl hbl
     |cons z zs=>
      show Wp (aB Γ_19 1000 _ [] [fS (cD c),fS (.lst (gs.map pD)),fS (mD ms),fS (.int i),none,bh (.lst (gs.map λx=>lD (src c x))),fS (iD s.1),bh (mD (z::zs))]) _;have hsm:=cg hs
      have hmap:(gs.map λx=>lD (src c x))=(s::ss).map pD:=by
       have:(s::ss).map pD=((s::ss).map some).map lD:=by rw[KQ];rfl
       rw[this,<- hsm,KQ];rfl
      rw[hmap];have hsl:=kB hs
      have hsum:aa Γ_19.fn (.blt "sum" (.cons (.comp .fz [none,none,none] (.tp [(.nm 1),(.nm 2)]) (.e (.var 5)) .non (.var 2)) .nil)) [fS (cD c),fS (.lst (gs.map pD)),fS (mD ms),fS (.int i),none,bh (.lst ((s::ss).map pD)),fS (iD s.1),bh (mD (z::zs))]=some (.sh,.int ((s::ss).map λx=>(x.2:Int)).sum):=by
       have hc:=ku (Γ:=Γ_19.fn) (r:=.fz) (cap:=[none,none,none]) (tg:=.tp [.nm 1,.nm 2]) (a:=.var 5) (elt:=.var 2) (ρ:=[fS (cD c),fS (.lst (gs.map pD)),fS (mD ms),fS (.int i),none,bh (.lst ((s::ss).map pD)),fS (iD s.1),bh (mD (z::zs))]) (l:=s::ss) (f:=pD) (g:=λx=>iD x.2) (.inl rfl) rfl rfl (by lia) λz hz=>FT rfl (wv (r:=(.sh,iD z.2)) rfl ⟨_,rfl,rfl⟩);have em:((s::ss).map λx=>iD x.2)=((s::ss).map λx=>(x.2:Int)).map D.int:=by rw[KQ];rfl
       rw[em] at hc;exact Am hc
      rw[<- zC];exact cA (fq (dY (qc (Gb rfl) rfl)) λ_=>ij (dY (jh hsum (aM (l:=z::zs) (f:=D.int) (.inl rfl) rfl)))) rfl (aW _)
theorem Wk.lst{c:Ci}{w:D}{wo:Option (List (Nat×Nat))}(h:Wk c w wo):(eV "list" w=some false/\wo=none)\/∃ts:List Th,w=.lst (ts.map Th.d)/\ts.length<=100/\((∃t∈ts,bA c t=none)/\wo=none\/∃gs,ts=gs.map oW/\(∀x∈gs,Vd c x)/\wo=some gs):=by
 cases h with
 |no h=>exact .inl ⟨h,rfl⟩
 |bad hl h=>exact .inr ⟨_,rfl,hl,.inl ⟨h,rfl⟩⟩
 |@ok gs hl hv=>exact .inr ⟨gs.map oW,by rw[KQ];rfl,by rw[Kp];exact hl,.inr ⟨gs,rfl,hv,rfl⟩⟩
theorem Dk.ty(h:Dk d io):∃t,sO d=some t:=by
 cases h with
 |no h _=>exact⟨_,h⟩
 |ok i=>exact⟨_,rfl⟩
theorem tF{c:Ci}(ok:Ok c){w m d:D}{wo:Option (List (Nat×Nat))}{mo:Option (List Int)}{io:Option Int}(hw:Wk c w wo)(hm:Mk m mo)(hd:Dk d io):FK [cD c,w,m,d]=some (.sh,.bl (oP c wo mo io)):=by
 obtain⟨ty,hty⟩:=hd.ty;unfold FK;refine dq rfl ?_;unfold GK
 walk_at "nm"
 have wh:∀{ρ:Ro},ρ[3]?=some (fS d)->av Γ_19.fn (.not (.fn 16 (.cons (.var 3) .nil))) ρ=some (!qd d):=λ{ρ} h=>aQ (kR (ce (φ:=CL) (kds:=[(.sh,d)]) (ds:=[d]) rfl (e1 (by rw[mx,h];rfl)) rfl rfl (fF hty) rfl));rcases hw.lst with⟨h,rfl⟩|⟨ts,rfl,hl,hT⟩
 ·exact aP (z:=true) (x:=(.sh,.bl false)) (bj (x:=true) (y:=true) (aQ (cN (x:=false) rfl h)) λe=>by cases e) (λ_=>⟨rfl,rfl,aW _⟩) λe=>by cases e
 ·have il:av Γ_19.fn (.not (.isi "list" (.var 1))) [fS (cD c),fS (.lst (ts.map Th.d)),fS m,fS d,none,none,none,none]=some false:=aQ (cN (x:=true) rfl rfl)
  cases hm with
  |no h=>
   rw[Ar];exact aP (z:=true) (x:=(.sh,.bl false)) (bj (x:=false) (y:=true) il λ_=>bj (x:=true) (y:=true) (aQ (cN (x:=false) rfl h)) λe=>by cases e) (λ_=>⟨rfl,rfl,aW _⟩) λe=>by cases e
  |@few xs h=>
   rw[Ar];refine aP (z:=true) (x:=(.sh,.bl false)) ?_ (λ_=>⟨rfl,rfl,aW _⟩) λe=>by cases e
   rw[bj (x:=false) il λ_=>bj (x:=false) (aQ (cN (x:=true) rfl rfl)) λ_=>bj (wh rfl) λ_=>bz (x:=true) ?_]
   ·cases qd d<;>rfl
   ·rw[jh (i:=(xs.length:Int)) (j:=2) (oB (n:=xs.length) (d:=.lst xs) rfl rfl) rfl];exact congrArg some (decide_eq_true (by lia))
  |@ok ms h2 hml=>
   have hne:ms≠[]:=λz=>by rw[z] at h2;simp at h2
   refine aP (x:=(.sh,.bl false)) (bj (x:=false) il λ_=>bj (x:=false) (aQ (cN (x:=true) rfl rfl)) λ_=>bj (wh rfl) λ_=>bz (jh (aM (l:=ms) (f:=D.int) (.inl rfl) rfl) rfl)) (λe=>⟨rfl,rfl,?_⟩) λe=>?_
   ·cases hd with
    |no _ _=>rw[Ge];exact aW _
    |ok i=>
     rw[show qd (.int i)=true from rfl] at e;rw[decide_eq_false (by lia:¬(ms.length:Int)<2)] at e;cases e
   ·cases hd with
    |no _ hw=>rw[hw] at e;simp at e
    |ok i=>
     have ht:aa Γ_19.fn (.blt "all" (.cons (.comp .fz [none,none,none,some 0] (.nm 1) (.e (.var 1)) .non (.fn 18 (.cons (.var 3) (.cons (.var 1) .nil)))) .nil)) [fS (cD c),fS (.lst (ts.map Th.d)),fS (mD ms),fS (.int i),none,none,none,none]=some (.sh,.bl (ts.all λt=>(bA c t).isSome)):=by
      have hc:=ku (Γ:=Γ_19.fn) (r:=.fz) (cap:=[none,none,none,some 0]) (tg:=.nm 1) (a:=.var 1) (elt:=.fn 18 (.cons (.var 3) (.cons (.var 1) .nil))) (ρ:=[fS (cD c),fS (.lst (ts.map Th.d)),fS (mD ms),fS (.int i),none,none,none,none]) (l:=ts) (f:=Th.d) (g:=λt=>D.bl (bA c t).isSome) (.inl rfl) rfl rfl (by lia) λt ht=>zq rfl (wv (ce (φ:=FI) (ds:=[cD c,t.d]) rfl (e2 rfl rfl) rfl rfl (qf t) rfl) ⟨_,rfl,rfl⟩);rw[iQ] at hc;have:=oE hc;rw[all_map] at this;exact this
     have hmw:aa Γ_19.fn (.blt "all" (.cons (.comp .fz [none,none,none] (.nm 1) (.e (.var 2)) .non (.fn 16 (.cons (.var 1) .nil))) .nil)) [fS (cD c),fS (.lst (ts.map Th.d)),fS (mD ms),fS (.int i),none,none,none,none]=some (.sh,.bl (ms.all λ_=>true)):=by
      have hc:=ku (Γ:=Γ_19.fn) (r:=.fz) (cap:=[none,none,none]) (tg:=.nm 1) (a:=.var 2) (elt:=.fn 16 (.cons (.var 1) .nil)) (ρ:=[fS (cD c),fS (.lst (ts.map Th.d)),fS (mD ms),fS (.int i),none,none,none,none]) (l:=ms) (f:=D.int) (g:=λ_=>D.bl true) (.inl rfl) rfl rfl (by lia) λz hz=>zq rfl (wv (ce (φ:=CL) (ds:=[.int z]) rfl (e1 rfl) rfl rfl (fF (d:=.int z) rfl) rfl) ⟨_,rfl,rfl⟩);rw[iQ] at hc;have:=oE hc;rw[all_map] at this;exact this
     rw[show(ms.all λ_=>true)=true by simp] at hmw;refine aP (x:=(.sh,.bl false)) (bj (aQ (oC ht)) λ_=>bz (aQ (oC hmw))) (λe=>⟨rfl,rfl,?_⟩) λe=>?_
     ·have e:(ts.all λt=>(bA c t).isSome)=false:=by simpa using e
      rcases hT with⟨_,rfl⟩|⟨gs,rfl,hv,rfl⟩
      ·exact aW _
      ·obtain⟨t,ht,e⟩:=List.all_eq_false.mp e;obtain⟨x,hx,rfl⟩:=Lf.mp ht;rw[oO (hv x hx)] at e;exact absurd rfl e
     ·have e:(ts.all λt=>(bA c t).isSome)=true:=by simpa using e
      rcases hT with⟨⟨t,ht,e2⟩,rfl⟩|⟨gs,rfl,hv,rfl⟩
      ·have:=Lc.mp e t ht;rw[e2] at this;cases this
      ·have hmap:(gs.map oW).map Th.d=gs.map pD:=by rw[KQ];rfl
       rw[hmap];have hgl:gs.length<=100:=by simpa using hl
       have m0:∀{Γ:Nat->Option Fn} {a b d' e' f' g' h':Option Sl},aa Γ (.ix (.var 2) (.lit (.int 0))) [a,b,fS (mD ms),d',e',f',g',h']=some (.sh,.int (ms.headD 0)):=aY (k:=.sh) (n:=0) rfl rfl (.inl rfl) rfl (ik hne);have mz:∀{Γ:Nat->Option Fn} {a b d' e' f' g' h':Option Sl},aa Γ (.ix (.var 2) (.neg (.lit (.int 1)))) [a,b,fS (mD ms),d',e',f',g',h']=some (.sh,.int (ms.getLastD 0)):=gw (k:=.sh) rfl (.inl rfl) (eH hne);refine aP (x:=(.sh,.bl false)) (bj (bO (xn (ms:=ms) hml rfl) (d':=mD ms) rfl CT) λ_=>bj (jh m0 rfl) λ_=>bz (tu mz (aM (l:=gs) (f:=pD) (.inl rfl) rfl))) (λe=>⟨rfl,rfl,?_⟩) λe=>?_
       ·rw[Gf]
        ·exact aW _
        ·intro op;unfold xh;rw[lK] at e
         cases hr:tR ms with
         |false=>rw[MJ,Bool.and_false]
         |true=>
          rw[hr] at e
          have:Ap ms gs.length=false:=by
           rw[mW hne hr];simp only[Bool.not_true,LP,K8,decide_eq_true_eq] at e;rw[LI,decide_eq_false_iff_not,decide_eq_false_iff_not]
           lia
          rw[this,MJ]
       ·rw[lK,LL,LL,Ln,decide_eq_false_iff_not,decide_eq_false_iff_not] at e;refine xo ok hgl hv h2 hml e.1 ?_;rw[mW hne e.1,Kn,decide_eq_true_eq,decide_eq_true_eq]
        lia
noncomputable def dt(d:D):Prop:=∃(xs:List Int) (s:Int),d=.lst ((xs++[s]).map D.int)/\0<=s/\s<2305843009213693951
theorem gy{Q:KD->Prop}{xs:List D}{n:Nat}{z:Int}(hh:hd=.lst\/hd=.tup)(hz:z=n)(hd':xs[n]?=some d)(q:Q (oU k n,d)):Wp (pq (some (k,.nd hd xs)) (some (k',.int z))) Q:=⟨_,wP hh (Ai hz (Ky.mp hd').1) hd',q⟩
theorem zD{ρ:Ro}{i:Nat}{Q:Kd×D×Ro->Prop}(h:ρ[i]?=some (some ⟨false,k0,.nd .lst (d::ds)⟩))(q:Q (.sh,d,ρ.set i (some ⟨false,k0,.lst ds⟩))):Wp (aF Γ (.mut "pop" (.nm i) (.cons (.lit (.int 0)) .nil)) ρ) Q:=by
 refine⟨_,?_,q⟩;rw[fD,aG,aG,qU];show dF "pop" i (lr Γ.fn (.nm i) ρ) (some [(.sh,.int 0)]) ρ=_;rw[lr,h]
 show(match j4 "pop" [] .fz (d::ds) [(.sh,.int 0)],ρ[i]? with|some (d',ds'),some (some ⟨false,k,_⟩)=>some (Kd.sh,d',ρ.set i (some ⟨false,k,id (.lst ds')⟩))|_,_=>none)=_
 have e0:seqIndex? 0 (d::ds).length=some 0:=by unfold seqIndex?;simp
 have:j4 "pop" [] .fz (d::ds) [(.sh,.int 0)]=some (d,ds):=by
  show(if gE (.own [] .fz)=true/\-(2^63)<=(0:Int)/\(0:Int)<2^63 then(match seqIndex? 0 (d::ds).length with|some j=>((d::ds)[j]?).map λx=>(x,(d::ds).eraseIdx j)|none=>none) else none)=_
  rw[if_pos ⟨rfl,by decide,by decide⟩,e0];rfl
 rw[this,h];rfl
theorem zE{y:Int}:bf .In (.int y) (.tup [.int 0,.int (-1)])=some ([D.int 0,.int (-1)].any λz=>iU z (.int y)):=by
 show(if cC 90 (.int y)=true/\bF 90 [D.int 0,.int (-1)]=true then _ else none)=_
 exact if_pos ⟨rfl,rfl⟩
theorem zG{m:Nat}{Q:Kd×D×List (Option jf)->Prop}(h:dt d)(hm:0<m)(hm2:m<2^64)(q:∀(r:Nat) d',r<m->dt d'->Q (.sh,iD r,[some (k0,d'),none])):Wp (Dq [(k0,d),(.fz,iD m)]) Q:=by
 have ml:((m:Nat):Int).natAbs<lim:=by
  rw[Int.natAbs_natCast];exact Ll hm2 (by unfold lim;decide)
 have rr:∀z:Int,∃r:Nat,z%(m:Int)=(r:Int)/\r<m:=λz=>by
  have h1:=MB z (show(m:Int)≠0 by lia);have h2:=Mm z (show(0:Int)<(m:Int) by lia);exact⟨(z%(m:Int)).toNat,by lia,by lia⟩
 obtain⟨xs,s,rfl,hs0,hs1⟩:=h;unfold Dq;refine oA rfl ?_;unfold Il
 walk_at "nm"
 have sl:∀{s:Int},0<=s->s<2305843009213693951->s.natAbs<lim:=λ{s} h0 h1=>by
  have h1:s.natAbs<2^64:=by lia
  exact Ll h1 (by unfold lim;decide)
 cases xs with
 |nil=>
  refine dZ (z:=false) (qc (j:=1) (oB (n:=1) rfl rfl) rfl) (λe=>by cases e) λ_=>bT ?_;refine wH (a9 (aV (aV (aV (rO (ao rfl (ar (gy (n:=0) (d:=.int s) (.inl rfl) rfl rfl (ar (ki ⟨sl hs0 hs1,by decide⟩ (ar (dG (ar (gr (by decide) (CJ rfl (ar (p7 rfl rfl rfl (p8 rfl ?_))))))))))))))))));have h1:=MB (s*1181783497276652981+12345678910987) (show(2305843009213693951:Int)≠0 by decide);have h2:=Mm (s*1181783497276652981+12345678910987) (show(0:Int)<2305843009213693951 by decide);generalize (s*1181783497276652981+12345678910987)%2305843009213693951=t at h1 h2⊢;obtain⟨r,e,hr⟩:=rr (t*t%2305843009213693921 / 65537);show Wp (aB _ _ _ _ [bh (.lst [.int t]),fS (iD m),none]) _;have i0:∀{Γ:Nat->Option Fn},aa Γ (.ix (.var 0) (.lit (.int 0))) [bh (.lst [.int t]),fS (iD m),none]=some (oU (fX 0 ⟨false,k0,.lst [.int t]⟩).1 0,.int t):=aY (n:=0) (xs:=[.int t]) rfl rfl (.inl rfl) rfl rfl;refine aS (a9 (aV (aV (aV (aV (wv i0 (wv i0 (ki ⟨sl h1 h2,sl h1 h2⟩ (ar (gr (by decide) (ar (mO ⟨by decide,by decide⟩ (ao rfl (gr (by lia) ⟨rfl,bD rfl ?_⟩))))))))))))));show Q (.sh,.int (t*t%2305843009213693921 / 65537%(m:Int)),_);rw[e];exact q r (.lst [.int t]) hr ⟨[],t,rfl,h1,h2⟩
 |cons x xs=>
  refine dZ (z:=true) ?_ (λ_=>?_) λe=>by cases e
  ·rw[qc (j:=1) (aM (l:=x::xs++[s]) (f:=D.int) (.inl rfl) rfl) rfl];exact congrArg some (decide_eq_true (by simp;lia))
  obtain⟨r,e,hr⟩:=rr x;refine bY (a9 (aV (rO (ao rfl (ar (gy (n:=0) (d:=.int x) (.inl rfl) rfl rfl (ao rfl (gr (by lia) ⟨⟨rfl,by decide⟩,?_⟩))))))));rw[e];refine wH (a9 (aV (rO (ao rfl (ar (gy (n:=0) (d:=.int x) (.inl rfl) rfl rfl (ao rfl (mO ⟨by lia,ml⟩ (CJ rfl (ar (p7 rfl rfl rfl (p8 (r:=(.lst,.int (x / (m:Int))::(xs++[s]).map D.int)) ?_ ?_))))))))))))
  ·show(match ir ((x::xs++[s]).map D.int).length 0 with|some j=>if cP .fz (.sh,.int (x / (m:Int)))=true then some (Hd.lst,((x::xs++[s]).map D.int).set j (.int (x / (m:Int)))) else none|none=>none)=_
   rw[mP (by decide) (by simp;lia)];rfl
  generalize x / (m:Int)=y;show Wp (aB _ _ _ _ [bh (.lst (.int y::(xs++[s]).map D.int)),fS (iD m),fS (iD r)]) _;refine dZ (z:=[D.int 0,.int (-1)].any λz=>iU z (.int y)) (bO (aY (n:=0) (d:=.int y) (xs:=.int y::(xs++[s]).map D.int) rfl rfl (.inl rfl) rfl rfl) (d':=.tup [.int 0,.int (-1)]) rfl zE) (λ_=>?_) λ_=>bT ?_
  ·exact lF (zD rfl (bX (cK (aS (a9 (ao rfl ⟨rfl,bG (bD rfl (q r _ hr ⟨xs,s,rfl,hs0,hs1⟩))⟩))))))
  ·exact aS (a9 (ao rfl ⟨rfl,bG (bD rfl (q r _ hr ⟨y::xs,s,rfl,hs0,hs1⟩))⟩))
theorem dH{Γ:GG}{ρ:Ro}{i m:Nat}{Q:Kd×D×Ro->Prop}(hΓ:Γ.fm 11=some Dq)(hρ:ρ[i]?=some (some ⟨false,k0,d⟩))(h:dt d)(he:aa Γ.fn e ρ=some (.sh,iD m))(hm:0<m)(hm2:m<2^64)(q:∀(r:Nat) d',r<m->dt d'->Q (.sh,iD r,ρ.set i (some ⟨false,k0,d'⟩))):Wp (aF Γ (.io 11 (.ref i (.val (.p e) .nil))) ρ) Q:=by
 refine iZ hΓ (eG hρ (bM (a9 (wv he ?_))));refine⟨rfl,eE ⟨by simp[bU],[(k0,d),(.fz,iD m)],?_,zG h hm hm2 λr d' hr hs=>⟨rfl,rfl,q r d' hr hs⟩⟩⟩
 show(match ρ[i]?,some [((.fz:Ow),iD m)] with|some (some ⟨false,k,d⟩),some ks=>some ((k,d)::ks)|_,_=>none)=_
 rw[hρ]
theorem xp{ns:List Int}(hl:ns.length<=63){Q:KD->Prop}(q:∀d,dt d->Q (.fr k0,d)):Wp (FH [.scr ns]) Q:=by
 have cut:∀lo hi,∃ms:List Int,dO (ns.map D.int) lo hi=ms.map D.int/\ms.length<=63:=λlo hi=>by
  refine⟨(ns.drop (HT.i6 (ns.map D.int).length 0 lo)).take (HT.i6 (ns.map D.int).length (ns.map D.int).length hi-HT.i6 (ns.map D.int).length 0 lo),?_,?_⟩
  ·unfold dO;rw[MX,Mo]
  ·rw[La,Ma];lia
 obtain⟨ms,em,lm⟩:=cut none (some 200);unfold FH;refine CI rfl ?_;unfold Ip
 walk_at "nm"
 refine aK (x:=(.sh,.int 1000003)) rfl rfl (by decide) ?_;have hsl:∀{Γ:Nat->Option Fn} {x y:Option Sl},aa Γ (.sl (.var 0) .non (.som (.lit (.int 200)))) [fS (.scr ns),x,y]=some (.fr aZ,.lst (ms.map D.int)):=λ{Γ x y}=>by rw[<- em];rfl
 refine oz (fR (Ct (wv hsl (pZ rfl ⟨λs ρ=>∃(t:Int) (x2:Option Sl),ρ=[fS (.scr ns),fS (.int t),x2]/\0<=t/\t<2305843009213693951,⟨1000003,none,rfl,by decide,by decide⟩,λs d ρ hd hI=>?_,λρ hI=>?_⟩))))
 ·obtain⟨t,x2,rfl,h0,h1⟩:=hI;have hd:(ms.map D.int)[s]?=some d:=hd;rw[Kr] at hd
  cases e:ms[s]? with
  |none=>rw[e] at hd;cases hd
  |some z=>
   rw[e] at hd;cases hd;refine⟨[(2,.int z)],rfl,rfl,?_⟩;show Wp (aB _ _ _ [] [fS (.scr ns),fS (.int t),fS (.int z)]) _;have hl1:t.natAbs<lim:=Ll (show t.natAbs<2^64 by lia) (by unfold lim;decide);refine bY (a9 (aV (aV (aV (aV (ao rfl (ar (ki ⟨hl1,by decide⟩ (aV (ao rfl (aV (ar (ar (ww (by decide) (gr (by decide) (dG (ar (dG (ar (gr (by decide) ⟨⟨rfl,by decide⟩,bX ⟨_,.inl rfl,_,_,rfl,MB _ (by decide),Mm _ (by decide)⟩⟩))))))))))))))))))))
 ·obtain⟨t,x2,rfl,h0,h1⟩:=hI;show Wp (aB Γ_11 1000 _ [] [fS (.scr ns),fS (.int t),none]) _;have two:∀{Γ:GG},Wp (aB Γ 1000 (.cons (.ret (.p (.lst (.own [] .fz) (.cons (.var 1) .nil)))) .nil) [] [fS (.scr ns),fS (.int t),none]) λr=>Wp (hJ (some r)) Q:=λ{Γ}=>aS (a9 (de (ae (ao rfl (ah (bv rfl ⟨rfl,fU rfl (q _ ⟨[],t,rfl,h0,h1⟩)⟩))))));have hn:∀{Γ:Nat->Option Fn},aa Γ (.blt "len" (.cons (.var 0) .nil)) [fS (.scr ns),fS (.int t),none]=some (.sh,iD ns.length):=oB (d:=.scr ns) rfl rfl
  cases ns with
  |nil=>exact dZ (z:=false) (ii (x:=false) (y:=true) rfl λe=>by cases e) (λe=>by cases e) λ_=>bT two
  |cons n ns=>
   have h0':∀{Γ:Nat->Option Fn},aa Γ (.ix (.var 0) (.lit (.int 0))) [fS (.scr (n::ns)),fS (.int t),none]=some (.sh,.int n):=λ{Γ}=>by
    show(L2.nq (n::ns) 0).map (λd=>(Kd.sh,D.int d))=_;rw[show L2.nq (n::ns) 0=some n by unfold L2.nq;rw[mP (z:=0) (by decide) (by simp)];rfl];rfl
   refine dZ (ii (qc hn rfl) λ_=>bz (gx (wN (by decide) h0' rfl) rfl)) (λe=>?_) λe=>bT two;obtain⟨ls,el,ll⟩:=cut (some 1) (some 63);have hs2:∀{Γ:Nat->Option Fn},aa Γ (.sl (.var 0) (.som (.lit (.int 1))) (.som (.lit (.int 63)))) [fS (.scr (n::ns)),fS (.int t),none]=some (.fr aZ,.lst (ls.map D.int)):=λ{Γ}=>by rw[<- el];rfl
   have hfd:∀{Γ:Nat->Option Fn},aa Γ (.lst (.own [] .fz) (.cons (.bin .FloorDiv (.ix (.var 0) (.lit (.int 0))) (.lit (.int 2))) .nil)) [fS (.scr (n::ns)),fS (.int t),none]=some (.fr k0,.lst [.int (n / 2)]):=λ{Γ}=>aC (de (ae (aV (wv h0' (ar (mO ⟨by decide,by decide⟩ (ah (bv rfl rfl))))))));have hse:∀{Γ:Nat->Option Fn},aa Γ (.lst (.own [] .fz) (.cons (.var 1) .nil)) [fS (.scr (n::ns)),fS (.int t),none]=some (.fr k0,.lst [.int t]):=λ{Γ}=>rfl;refine aS (a9 (wv (kr (xs:=.int (n / 2)::ls.map D.int) ⟨rfl,rfl,by simp;lia⟩ (kr (xs:=[.int (n / 2)]) ⟨rfl,rfl,by simp;lia⟩ hfd hs2) hse) ⟨rfl,bG (fU rfl (q _ ⟨n / 2::ls,t,?_,h0,h1⟩))⟩));show D.lst (D.int (n / 2)::(Mj D.int ls++[D.int t]))=D.lst (D.int (n / 2)::Mj D.int (ls++[t]));rw[KR];rfl
theorem xq{f:D->Ro->Option (Option KD×Ro)}(S:Ro->Prop)(P:D->Prop):∀{ds:List D} {ρ:Ro},S ρ->(∀d∈ds,∀ρ,S ρ->Wp (f d ρ) λo=>S o.2/\∀kd,o.1=some kd->cP r kd=true/\P kd.2)->Wp (aw r f ds ρ) λz=>(z.1.length<=ds.length/\∀y∈z.1,P y)/\S z.2
 |[],ρ,h0,_=>⟨([],ρ),rfl,⟨Kw _,λy hy=>by simp at hy⟩,h0⟩
 |d::ds,ρ,h0,h=>by
  obtain⟨⟨o,ρ1⟩,e1,s1,k1⟩:=h d KF ρ h0;obtain⟨⟨ys,ρ2⟩,e2,⟨l2,p2⟩,s2⟩:=xq S P (ds:=ds) (ρ:=ρ1) s1 λx hx=>h x (Kx _ hx)
  cases o with
  |none=>exact⟨(ys,ρ2),by unfold aw;rw[e1];exact e2,⟨by simp at l2⊢;lia,p2⟩,s2⟩
  |some kd=>
   obtain⟨hf,hp⟩:=k1 kd rfl;refine⟨(kd.2::ys,ρ2),by unfold aw;rw[e1];dsimp only;rw[if_pos hf,e2],⟨by simp at l2⊢;lia,λy hy=>?_⟩,s2⟩;rcases Ku.mp hy with rfl|hy
   ·exact hp
   ·exact p2 y hy
theorem mX{f:D->Ro->Option (Option KD×Ro)}(S:Ro->Prop)(P:D->Prop):∀{ds:List D} {ρ:Ro},S ρ->(∀d∈ds,∀ρ,S ρ->Wp (f d ρ) λo=>S o.2/\∃kd,o.1=some kd/\cP r kd=true/\P kd.2)->Wp (aw r f ds ρ) λz=>(z.1.length=ds.length/\∀y∈z.1,P y)/\S z.2
 |[],ρ,h0,_=>⟨([],ρ),rfl,⟨rfl,λy hy=>by simp at hy⟩,h0⟩
 |d::ds,ρ,h0,h=>by
  obtain⟨⟨o,ρ1⟩,e1,s1,kd,rfl,hf,hp⟩:=h d KF ρ h0;obtain⟨⟨ys,ρ2⟩,e2,⟨l2,p2⟩,s2⟩:=mX S P (ds:=ds) (ρ:=ρ1) s1 λx hx=>h x (Kx _ hx);refine⟨(kd.2::ys,ρ2),by unfold aw;rw[e1];dsimp only;rw[if_pos hf,e2],⟨by simp at l2⊢;lia,λy hy=>?_⟩,s2⟩;rcases Ku.mp hy with rfl|hy
  ·exact hp
  ·exact p2 y hy
theorem eJ{α:Type}{f:α->D}{P:α->Prop}:∀{ys:List D},(∀y∈ys,∃a,y=f a/\P a)->∃as:List α,ys=as.map f/\(∀a∈as,P a)/\as.length=ys.length
 |[],_=>⟨[],rfl,λz hz=>by simp at hz,rfl⟩
 |y::ys,h=>by
  obtain⟨as,e,ha,hl⟩:=eJ (ys:=ys) λx hx=>h x (Kx _ hx);obtain⟨a,rfl,h0⟩:=h y KF;exact⟨a::as,by rw[e];rfl,λx hx=>(Ku.mp hx).elim (λe=>e▸h0) (ha x),by simp[hl]⟩
theorem mY{Γ:GG}{ρ:Ro}{i m:Nat}{j:Int}{T:Bool×Ro->Prop}(hΓ:Γ.fm 11=some Dq)(hρ:ρ[i]?=some (some ⟨false,k0,d⟩))(h:dt d)(he:aa Γ.fn e ρ=some (.sh,iD m))(hm:0<m)(hm2:m<2^64)(q:∀(r:Nat) d',r<m->dt d'->Wp (bf op (iD r) (.int j)) λb=>T (b,ρ.set i (some ⟨false,k0,d'⟩))):Wp (aU Γ (.cmp op (.fin (.io 11 (.ref i (.val (.p e) .nil))) (.cons (.lit (.int j)) .nil))) ρ) T:=
 rQ (aJ (dH hΓ hρ h he hm hm2 λr d' hr hs=>ae (ar (ah ⟨_,_,rfl,q r d' hr hs⟩))))
theorem zH{few most:Nat}{Q:Kd×D×List (Option jf)->Prop}(h:dt d)(hf:few<=most)(hm:most<=1000)(q:∀(r:Nat) d',r<=most->dt d'->Q (.sh,iD r,[some (k0,d'),none,none])):Wp (Dr [(k0,d),(.fz,iD few),(.fz,iD most)]) Q:=by
 unfold Dr;refine oA rfl ?_;unfold Iu
 walk_at "nm"
 have v1:∀{Γ:Nat->Option Fn} {x:Option Sl} {n:Nat},aa Γ (.bin .Add (.var 1) (.lit (.int 1))) [x,fS (iD few),fS (iD n)]=some (.sh,iD (few+1)):=bE (i:=(few:Int)) (j:=1) rfl rfl;have v2:∀{Γ:Nat->Option Fn} {x y:Option Sl},aa Γ (.bin .Add (.var 2) (.lit (.int 1))) [x,y,fS (iD most)]=some (.sh,iD (most+1)):=bE (i:=(most:Int)) (j:=1) rfl rfl;refine rS (mY (m:=8) rfl rfl h rfl (by decide) (by decide) λr d1 hr h1=>rP ⟨λ_=>?_,λ_=>bT ?_⟩)
 ·exact aS (dH (i:=0) rfl rfl h1 v2 (by lia) (by lia) λr d2 hr h2=>⟨rfl,bG (bD rfl (q r d2 (by lia) h2))⟩)
 ·exact aS (dH (i:=0) rfl rfl h1 v1 (by lia) (by lia) λr d2 hr h2=>⟨rfl,bD rfl (q r d2 (by lia) h2)⟩)
theorem zI{Γ:GG}{ρ:Ro}{i few most:Nat}{Q:Kd×D×Ro->Prop}(hΓ:Γ.fm 13=some Dr)(hρ:ρ[i]?=some (some ⟨false,k0,d⟩))(h:dt d)(hf:few<=most)(hm:most<=1000)(q:∀(r:Nat) d',r<=most->dt d'->Q (.sh,iD r,ρ.set i (some ⟨false,k0,d'⟩))):Wp (aF Γ (.io 13 (.ref i (.val (.p (.lit (iD few))) (.val (.p (.lit (iD most))) .nil)))) ρ) Q:=by
 refine iZ hΓ (eG hρ (bM (a9 (ar ⟨rfl,bM (a9 (ar ⟨rfl,eE ⟨by simp[bU],[(k0,d),(.fz,iD few),(.fz,iD most)],?_,zH h hf hm λr d' hr hs=>⟨rfl,rfl,q r d' hr hs⟩⟩⟩))⟩))))
 show(match ρ[i]?,some [((.fz:Ow),iD few),(.fz,iD most)] with|some (some ⟨false,k,d⟩),some ks=>some ((k,d)::ks)|_,_=>none)=_
 rw[hρ]
theorem xr{ins first below:Nat}{Q:Kd×D×List (Option jf)->Prop}(h:dt d)(h1:ins<=first)(h2:first<=below)(h3:0<below)(h4:below<=1000)(q:∀(r:Nat) d',r<below->dt d'->Q (.sh,iD r,[some (k0,d'),none,none,none])):Wp (Ds [(k0,d),(.fz,iD ins),(.fz,iD first),(.fz,iD below)]) Q:=by
 unfold Ds;refine oA rfl ?_;unfold Ix
 walk_at "nm"
 refine bY (dH (m:=3) (i:=0) rfl rfl h rfl (by decide) (by decide) λw d1 hw s1=>⟨⟨rfl,by decide⟩,?_⟩)
 show Wp (aB Γ_13 1000 _ [0] [bh d1,fS (iD ins),fS (iD first),fS (iD below),fS (iD w)]) _
 refine dZ (ii (gx (i:=(w:Int)) (j:=0) rfl rfl) λ_=>bz (jh (i:=(ins:Int)) (j:=(first:Int)) rfl rfl)) (λe=>?_) λe=>bT ?_
 ·rw[Kn,decide_eq_true_eq,decide_eq_true_eq] at e
  have hv:∀{Γ:Nat->Option Fn},aa Γ (.bin .Sub (.var 2) (.var 1)) [bh d1,fS (iD ins),fS (iD first),fS (iD below),fS (iD w)]=some (.sh,iD (first-ins)):=λ{Γ}=>by rw[cz (i:=(first:Int)) (j:=(ins:Int)) rfl rfl,oG h1]
  exact aS (dg (aL (a9 (ao rfl ⟨rfl,aJ (dH (m:=first-ins) (i:=0) rfl rfl s1 hv (by lia) (by lia) λr d2 hr s2=>ah ⟨_,_,rfl,dG ⟨rfl,bG (bD rfl (q (ins+r) d2 (by lia) s2))⟩⟩)⟩))))
 ·refine dZ (gx (i:=(w:Int)) (j:=1) rfl rfl) (λe=>?_) λe=>bT ?_
  ·have hv:∀{Γ:Nat->Option Fn},aa Γ (.blt "min" (.cons (.lit (.int 3)) (.cons (.var 3) .nil))) [bh d1,fS (iD ins),fS (iD first),fS (iD below),fS (iD w)]=some (.sh,iD (if below<3 then below else 3)):=λ{Γ}=>by
    rw[show aa Γ (.blt "min" (.cons (.lit (.int 3)) (.cons (.var 3) .nil))) [bh d1,fS (iD ins),fS (iD first),fS (iD below),fS (iD w)]=some (.sh,.int (if(below:Int)<3 then(below:Int) else 3)) from aC (cH (ae (ar (ae (ao rfl (ah (wB rfl)))))))]
    congr 2
    split<;>split<;>first|rfl|lia
   refine aS (dg (aL (a9 (aV (ao rfl (ar (kh ⟨rfl,aJ (dH (m:=if below<3 then below else 3) (i:=0) rfl rfl s1 hv (by split<;>lia) (by split<;>lia) λr d2 hr s2=>ah ⟨_,_,rfl,kh ⟨rfl,bG (bD rfl ?_)⟩⟩)⟩)))))))
   have hr':r<=below-1:=by split at hr<;>lia
   have:=q (below-1-r) d2 (by lia) s2;rw[show iD (below-1-r)=D.int ((below:Int)-1-(r:Int)) from congrArg D.int (by lia)] at this;exact this
  ·exact aS (dH (m:=below) (i:=0) rfl rfl s1 rfl (by lia) (by lia) λr d2 hr s2=>⟨rfl,bD rfl (q r d2 hr s2)⟩)
theorem Jm:∀r,r<5->∃n,n<=3/\[iD 2,iD 1,iD 3,iD 0,iD 2][r]?=some (iD n)
 |0,_=>⟨2,by decide,rfl⟩
 |1,_=>⟨1,by decide,rfl⟩
 |2,_=>⟨3,by decide,rfl⟩
 |3,_=>⟨0,by decide,rfl⟩
 |4,_=>⟨2,by decide,rfl⟩
 |_+5,h=>by lia
theorem Gi:∀n,n<=3->((1:Int)*2^((1:Int)*2^((n:Nat):Int).toNat).toNat)=((2^2^n:Nat):Int)/\2^2^n<=256
 |0,_=>⟨rfl,by decide⟩
 |1,_=>⟨rfl,by decide⟩
 |2,_=>⟨rfl,by decide⟩
 |3,_=>⟨rfl,by decide⟩
 |_+4,h=>by lia
theorem mZ:(1:Int).natAbs<lim:=by unfold lim;decide
theorem Gj{ρ:Ro}{n i:Nat}(h:ρ[i]?=some (fS (iD n)))(hn:n<=3):aa Γ (.bin .LShift (.lit (.int 1)) (.bin .LShift (.lit (.int 1)) (.var i))) ρ=some (.sh,iD (2^2^n)):=by
 have h8:(1:Int)*2^((n:Nat):Int).toNat<=8/\0<=(1:Int)*2^((n:Nat):Int).toNat:=by
  rw[Lh]
  match n,hn with
  |0,_=>decide
  |1,_=>decide
  |2,_=>decide
  |3,_=>decide
 refine aC (aV (ar (aV (ar (ao h (wx ⟨by lia,by lia,mZ⟩ (wx ⟨h8.2,by lia,mZ⟩ ?_)))))));rw[(Gi n hn).1]
theorem place{Γ:GG}{ins first k:Nat}{Q:Kd×D×Ro->Prop}(hΓ:Γ.fm 14=some Ds)(h:dt d)(h1:ins<=first)(h3:0<first+k)(h4:first+k<=1000)(q:∀(r:Nat) d',r<first+k->dt d'->Q (.sh,iD r,[none,fS x,none,fS (iD first),fS (iD ins),fS (iD k),bh d'])) :
  Wp (aF Γ (.io 14 (.ref 6 (.val (.p (.var 4)) (.val (.p (.var 3)) (.val (.p (.bin .Add (.var 3) (.var 5))) .nil))))) [none,fS x,none,fS (iD first),fS (iD ins),fS (iD k),bh d]) Q:=
 iZ (φ:=Ds) hΓ (eG (i:=6) rfl (bM (a9 (ao rfl ⟨rfl,bM (a9 (ao rfl ⟨rfl,bM (a9 (aV (ao rfl (ao rfl (dG ⟨rfl,eE ⟨by simp[bU],[(k0,d),(.fz,iD ins),(.fz,iD first),(.fz,iD (first+k))],rfl,xr h h1 (by lia) h3 h4 λr d' hr hs=>⟨rfl,rfl,q r d' hr hs⟩⟩⟩)))))⟩))⟩))))
noncomputable def GP(N:Nat)(gs:List (Nat×List Nat)):Prop:=∀g∈gs,g.2.length<=3/\∀p∈g.2,p<N
noncomputable abbrev tS(d:D)(ins m n:Nat)(gs:List (Nat×List Nat))(x6 x7 x8 x9 x10:Option Sl):Ro:=[bh d,fS (iD ins),fS (iD m),fS (iD n),fS (iD (ins+m)),bh (.lst (gs.map di)),x6,x7,x8,x9,x10]
theorem ck{n:Nat}:(cb 0 (n:Int)).length=n:=by rw[mS,Kp,K5]
theorem tG{d:D}{ins m n k:Nat}{gs:List (Nat×List Nat)}{Q:Res->Prop}(hi:ins<=9)(hm:m<=9)(hn:n<=25)(hk:k<n)(hS:dt d)(hl:gs.length=k)(hG:GP (ins+m+n) gs)
  (q:∀(d:D) (g:Nat×List Nat) (x7 x8:Option Sl),dt d->GP (ins+m+n) (gs++[g])->Q (.nx (tS d ins m n (gs++[g]) (fS (iD k)) x7 x8 none none))) :
  Wp (aB Γ_14 1000 (match GC with|.cons _ (.cons _ (.cons (.fo _ _ _ b) _))=>b|r=>r) [0] (tS d ins m n gs (fS (iD k)) none none none none)) Q:=by
 show Wp (aB Γ_14 1000 (.cons (.asg 7 (.bin .Mult (.fin (.ix (.cons (.p (.lst (.own [] .fz) (.cons (.lit (.int 2)) (.cons (.lit (.int 1)) (.cons (.lit (.int 3)) (.cons (.lit (.int 0)) (.cons (.lit (.int 2)) .nil))))))) (.fin (.io 11 (.ref 0 (.val (.p (.lit (.int 5))) .nil))) .nil))) (.cons (.blt "int" (.cons (.cmp .Gt (.bin .Add (.var 4) (.var 6)) (.lit (.int 0))) .nil)) .nil)))) _) [0] (tS d ins m n gs (fS (iD k)) none none none none)) _
 have hint:∀{Γ:Nat->Option Fn} {d:D},aa Γ (.blt "int" (.cons (.cmp .Gt (.bin .Add (.var 4) (.var 6)) (.lit (.int 0))) .nil)) (tS d ins m n gs (fS (iD k)) none none none none)=some (.sh,.int (if decide ((0:Int)<((ins+m:Nat):Int)+(k:Int)) then 1 else 0)):=λ{Γ d}=>aC (cH (ae (wv (dY (qc (bE rfl rfl) rfl)) (ah ⟨_,rfl,rfl⟩))))
 refine bY (dg (aJ (ou (aL (a9 (wv (r:=(.fr k0,.lst [iD 2,iD 1,iD 3,iD 0,iD 2])) rfl ⟨rfl,aJ (dH (m:=5) (i:=0) rfl rfl hS rfl (by decide) (by decide) λr d1 hr s1=>ah ?_)⟩))))));obtain⟨t,ht,e⟩:=Jm r hr;refine⟨_,_,rfl,gy (n:=r) (.inl rfl) rfl e ?_⟩;refine ae (wv hint (ah ⟨_,_,rfl,?_⟩))
 obtain⟨sz,hsz,hz3,hz0⟩:∃sz:Nat,((t:Int)*(if decide ((0:Int)<((ins+m:Nat):Int)+(k:Int)) then 1 else 0))=(sz:Int)/\sz<=3/\(0<sz->0<ins+m+k):=by
  by_cases h:(0:Int)<((ins+m:Nat):Int)+(k:Int)
  ·exact⟨t,by rw[decide_eq_true h,if_pos rfl,Nj],ht,λ_=>by lia⟩
  ·exact⟨0,by rw[decide_eq_false h,if_neg (by decide),Int.mul_zero];rfl,by lia,λz=>by lia⟩
 refine ki ⟨?_,?_⟩ ⟨⟨rfl,by decide⟩,?_⟩
 ·exact Ll (show(t:Int).natAbs<2^64 by lia) (by unfold lim;decide)
 ·refine Ll (m:=2^64) ?_ (by unfold lim;decide)
  split<;>decide
 rw[hsz];show Wp (aB Γ_14 1000 _ [0] (tS d1 ins m n gs (fS (iD k)) (fS (iD sz)) none none none)) _;refine bY (wD (aJ (jw (fR (df (ar (ao rfl (dh (a6 (by lia) (by lia) (by lia) (by lia) (by lia)) ⟨rfl,by show(cb 0 (sz:Int)).length<=_;rw[ck];lia,?_⟩))))))));show Wp (aw .fz _ (cb 0 (sz:Int)) [none,none,none,fS (iD (ins+m)),fS (iD ins),fS (iD k),bh d1]) _;refine(mX (λρ=>∃d,ρ=[none,none,none,fS (iD (ins+m)),fS (iD ins),fS (iD k),bh d]/\dt d) (λy=>∃p,y=iD p/\p<ins+m+k) ⟨d1,rfl,s1⟩ λx hx ρ hρ=>?_).mono λz hz=>?_
 ·obtain⟨d2,rfl,s2⟩:=hρ
  have h0:0<sz:=by
   have:=List.length_pos_of_mem hx;rw[ck] at this;exact this
  exact p6 (ps:=[(1,x)]) rfl ⟨rfl,rfl⟩ rfl (place rfl s2 (by lia) (by have:=hz0 h0;lia) (by lia) λr d3 hr s3=>⟨⟨d3,rfl,s3⟩,_,rfl,rfl,r,rfl,hr⟩)
 ·obtain⟨⟨z1,z2⟩,d2,e2,s2⟩:=hz;obtain⟨zl,zr⟩:=z;cases(show zr=_ from e2);obtain⟨ps,e3,hp,hpl⟩:=eJ z2;cases(show zl=_ from e3);have hpl:ps.length<=3:=by rw[hpl];have:=z1;rw[ck] at this;lia
  refine⟨rfl,ah (kj rfl ⟨⟨rfl,by decide⟩,?_⟩)⟩;show Wp (aB Γ_14 1000 _ [0] (tS d2 ins m n gs (fS (iD k)) (fS (iD sz)) (fS (.tup (ps.map iD))) none none)) _;have hp4:=(Gi sz hz3).2;refine lF (CC (es0:=[]) (r0:=.fz) (ds0:=gs.map di) rfl (kl (aJ (dH (m:=2^2^sz) (i:=0) rfl rfl s2 (Gj rfl hz3) (M4 (by have:=Nat.pow_pos (n:=2^sz) (show 0<2 by decide);lia)) (by lia) λr d3 hr s3=>ae (ao rfl (ah (gu rfl ⟨[],.fz,_,rfl,⟨K2 _,rfl,by rw[Kp];lia⟩,bX ?_⟩)))))))
  have hgp:GP (ins+m+n) (gs++[(r,ps)]):=λg hg=>by
   rcases Mx.mp hg with hg|hg
   ·exact hG g hg
   ·cases K0.mp hg;exact⟨hpl,λp hp'=>by have:=hp p hp';lia⟩
  have:=q d3 (r,ps) (fS (iD sz)) (fS (.tup (ps.map iD))) s3 hgp;unfold tS at this;rw[KR] at this;exact this
theorem qi{ins m n:Nat}{Q:Kd×D×List (Option jf)->Prop}(h:dt d)(hi:ins<=9)(hm:m<=9)(hn0:1<=n)(hn:n<=25)(q:∀c d',Ok c->dt d'->Q (.sh,cD c,[some (k0,d'),none,none,none])):Wp (Dt [(k0,d),(.fz,iD ins),(.fz,iD m),(.fz,iD n)]) Q:=by
 unfold Dt;refine oA rfl ?_;unfold GC
 walk_at "nm"
 refine aK (bE (i:=(ins:Int)) (j:=(m:Int)) rfl rfl) rfl (by decide) ?_;refine aK (x:=(.fr k0,.lst [])) rfl rfl (by decide) ?_;refine oz (fR (df (ar (ao rfl (dh (a6 (by lia) (by lia) (by lia) (by lia) (by lia)) ⟨λs ρ=>∃d gs x6 x7 x8,ρ=tS d ins m n gs x6 x7 x8 none none/\dt d/\gs.length=s/\GP (ins+m+n) gs,⟨d,[],none,none,none,rfl,h,rfl,λg hg=>by simp at hg⟩,λs x ρ hd hI=>?_,λρ hI=>?_⟩)))))
 ·obtain⟨d,gs,x6,x7,x8,rfl,hS,hl,hG⟩:=hI;obtain⟨rfl,hj⟩:=ib hd;refine⟨[(6,.int (0+s))],rfl,rfl,?_⟩;rw[M6] at hj⊢;exact tG hi hm hn (by lia) hS hl hG λd g x7 x8 hS hG=>⟨_,.inl rfl,d,gs++[g],_,x7,x8,rfl,hS,by simp[hl],hG⟩
 ·obtain⟨d,gs,x6,x7,x8,rfl,hS,hl,hG⟩:=hI
  have hl:gs.length=n:=by
   have hl:gs.length=(cb 0 (n:Int)).length:=hl;rw[ck] at hl;exact hl
  show Wp (aB Γ_14 1000 _ [0] (tS d ins m n gs none none none none none)) _;have vN:∀{Γ:Nat->Option Fn} {a b c e:Option Sl},aa Γ (.bin .Add (.var 3) (.var 4)) [a,b,c,fS (iD (ins+m)),fS (iD n),e]=some (.sh,iD (ins+m+n)):=bE (i:=((ins+m:Nat):Int)) (j:=(n:Int)) rfl rfl;refine bY (jw (fR (df (ar (ao rfl (dh (a6 (by lia) (by lia) (by lia) (by lia) (by lia)) ⟨rfl,by show(cb 0 (m:Int)).length<=_;rw[ck];lia,?_⟩))))));show Wp (aw .fz _ (cb 0 (m:Int)) [none,none,none,fS (iD (ins+m)),fS (iD n),bh d]) _;refine(mX (λρ=>∃d,ρ=[none,none,none,fS (iD (ins+m)),fS (iD n),bh d]/\dt d) (λy=>∃p:Nat×Nat,y=iP p/\p.2<ins+m+n) ⟨d,rfl,hS⟩ λx hx ρ hρ=>?_).mono λz hz=>?_
  ·obtain⟨d2,rfl,s2⟩:=hρ;exact p6 (ps:=[(1,x)]) rfl ⟨rfl,rfl⟩ rfl (kl (aL (dH (m:=2) (i:=5) rfl rfl s2 rfl (by decide) (by decide) λr1 d3 hr1 s3=>⟨rfl,aJ (dH (m:=ins+m+n) (i:=5) rfl rfl s3 vN (by lia) (by lia) λr2 d4 hr2 s4=>ah (gu rfl ⟨⟨d4,rfl,s4⟩,_,rfl,rfl,(r1,r2),rfl,hr2⟩))⟩)))
  ·obtain⟨⟨z1,z2⟩,d2,e2,s2⟩:=hz;obtain⟨zl,zr⟩:=z;cases(show zr=_ from e2);obtain⟨ms,e3,hms,hml⟩:=eJ z2;cases(show zl=_ from e3);have hml:ms.length=m:=by rw[hml];have:=z1;rw[ck] at this;exact this
   refine⟨rfl,⟨rfl,by decide⟩,?_⟩;show Wp (aB Γ_14 1000 _ [0] (tS d2 ins m n gs none none none (bh (.lst (ms.map iP))) none)) _
   have hint:∀{Γ:Nat->Option Fn} {d:D},aa Γ (.blt "int" (.cons (.cmp .Gt (.bin .Add (.var 4) (.var 3)) (.lit (.int 0))) .nil)) (tS d ins m n gs none none none (bh (.lst (ms.map iP))) none)=some (.sh,.int (if decide ((0:Int)<((ins+m:Nat):Int)+(n:Int)) then 1 else 0)):=λ{Γ d}=>aC (cH (ae (wv (dY (qc (bE rfl rfl) rfl)) (ah ⟨_,rfl,rfl⟩))))
   have h1:(if decide ((0:Int)<((ins+m:Nat):Int)+(n:Int)) then(1:Int) else 0)=1:=by rw[decide_eq_true (by lia),if_pos rfl]
   refine bY (jw (rR (dg (aJ (zI (i:=0) (few:=3) (most:=9) rfl rfl s2 (by decide) (by decide) λko d3 hko s3=>ae (wv hint (ah ⟨_,_,rfl,ki ⟨?_,?_⟩ ?_⟩)))))))
   ·exact Ll (show(ko:Int).natAbs<2^64 by lia) (by unfold lim;decide)
   ·rw[h1];exact mZ
   rw[h1,Nj];refine dh (a6 (by lia) (by lia) (by lia) (by lia) (by lia)) ⟨rfl,by show(cb 0 (ko:Int)).length<=_;rw[ck];lia,?_⟩;show Wp (aw .fz _ (cb 0 (ko:Int)) [none,none,none,fS (iD (ins+m)),fS (iD n),bh d3]) _;refine(mX (λρ=>∃d,ρ=[none,none,none,fS (iD (ins+m)),fS (iD n),bh d]/\dt d) (λy=>∃p:Nat,y=iD p/\p<ins+m+n) ⟨d3,rfl,s3⟩ λx hx ρ hρ=>?_).mono λz hz=>?_
   ·obtain⟨d4,rfl,s4⟩:=hρ;exact p6 (ps:=[(1,x)]) rfl ⟨rfl,rfl⟩ rfl (dH (m:=ins+m+n) (i:=5) rfl rfl s4 vN (by lia) (by lia) λr d5 hr s5=>⟨⟨d5,rfl,s5⟩,_,rfl,rfl,r,rfl,hr⟩)
   ·obtain⟨⟨y1,y2⟩,d4,e4,s4⟩:=hz;obtain⟨zl,zr⟩:=z;cases(show zr=_ from e4);obtain⟨os,e5,hos,hol⟩:=eJ y2;cases(show zl=_ from e5);have hol:os.length<=9:=by rw[hol];have:=y1;rw[ck] at this;lia
    refine⟨rfl,⟨rfl,by decide⟩,?_⟩;show Wp (aB Γ_14 1000 _ [0] (tS d4 ins m n gs none none none (bh (.lst (ms.map iP))) (bh (.lst (os.map iD))))) _;have hN:Ci.n ⟨ins,ms,gs,os⟩=ins+m+n:=by show ins+ms.length+gs.length=_;rw[hml,hl]
    refine aS (kl (aL (a9 (ao rfl ⟨rfl,aL (ff rfl ⟨rfl,aL (ff rfl ⟨rfl,aJ (ff rfl (ah (gu rfl ⟨rfl,bD rfl (q ⟨ins,ms,gs,os⟩ d4 ⟨?_,?_,?_,?_,?_,?_⟩ s4)⟩)))⟩)⟩)⟩))))
    ·intro g hg;rw[hN];exact hG g hg
    ·intro x hx;rw[hN];exact hms x hx
    ·show ins<=100;lia
    ·show ms.length<=100;lia
    ·show gs.length<=100;lia
    ·show os.length<=100;lia
theorem zJ:FL [cD c]=some (.sh,cD c):=by
 unfold FL;refine dq rfl ?_;unfold IU
 walk_at "nm"
 have cl:∀{Γ:Nat->Option Fn} {a:IE} {xs:List D} {ρ:Ro},aa Γ a ρ=some (.sh,.lst xs)->aa Γ (.blt "list" (.cons a .nil)) ρ=some (.fr aZ,.lst xs):=λh=>aC (cH (ae (wv h (ah (mQ rfl rfl)))));have c3:∀{Γ:Nat->Option Fn},aa Γ (.ix (.var 0) (.lit (.int 3))) [fS (cD c)]=some (.sh,.lst (c.outs.map iD)):=aY (k:=.sh) (n:=3) (xs:=cL c) rfl rfl (.inr rfl) rfl rfl;exact cA (x:=(.sh,cD c)) (aC (pW (wv (e4 (c0 rfl) (cl (c1 rfl)) (cl (c2 rfl)) (cl c3)) (gu rfl rfl)))) rfl (aW _)
theorem xt{f:D->Option (Option KD)}(P:D->Prop):∀{ds:List D},(∀d∈ds,Wp (f d) λo=>o=none\/∃kd,o=some kd/\cP r kd=true/\P kd.2)->Wp (aO r f ds) λys=>ys.length<=ds.length/\∀y∈ys,P y
 |[],_=>⟨[],rfl,Kw _,λy hy=>by simp at hy⟩
 |d::ds,h=>by
  obtain⟨ys,e1,l1,p1⟩:=xt P (ds:=ds) λx hx=>h x (Kx _ hx);obtain⟨o,e2,ho⟩:=h d KF;rcases ho with rfl|⟨kd,rfl,hf,hp⟩
  ·exact⟨ys,by simp[aO,e1,e2],by simp;lia,p1⟩
  ·refine⟨kd.2::ys,by simp[aO,e1,e2,hf],by simp;lia,λy hy=>?_⟩;rcases Ku.mp hy with rfl|hy
   ·exact hp
   ·exact p1 y hy
theorem xu{ft:Ro->Option Bool}{fe:Ro->Option KD}{Q:Option KD->Prop}(h1:m7 tg d=some ps)(h2:c6 ps ρ0=true)(h:Wp (ft (setAll ps ρ0)) λb=>(b=true->Wp (fe (setAll ps ρ0)) λx=>Q (some x))/\(b=false->Q none)):Wp (dk tg ft fe ρ0 d) Q:=by
 obtain⟨b,eb,q1,q2⟩:=h
 cases b with
 |true=>exact wJ h1 h2 eb (q1 rfl)
 |false=>exact⟨none,by unfold dk;rw[h1];dsimp only;rw[if_pos h2,eb],q2 rfl⟩
theorem CY{ds:List D}{P:List Nat×List D->Prop}(h:ip k ds=true)(q:P (vd k,ds.mapIdx λi d=>D.tup [.int i,d])):Wp (pF (some (k,.nd .lst ds))) P:=by
 refine⟨_,?_,q⟩
 show(if ip k ds=true then some (vd k,ds) else none).map _=_
 rw[if_pos h];rfl
theorem CZ{Q:Kd×D×Ro->Prop}(h:Wp (aX Γ as ρ) λp=>∃x y,p.1=[x,y]/\Wp (pN x y) λr=>Q (r.1,r.2,p.2)):Wp (aF Γ (.slh as) ρ) Q:=by
 rw[za];exact lB (h.mono λp ⟨x,y,e,w⟩=>by rw[e];exact w)
theorem Jn{xs:List D}{n:Nat}{Q:KD->Prop}(h:ip k xs=true)(q:Q (.fr aZ,.lst (xs.take n))):Wp (pN (k,.nd .lst xs) (k',iD n)) Q:=by
 refine⟨_,if_pos h,?_⟩;unfold dO;rw[HT.ji,HT.dJ,MN,M8];by_cases hn:n<=xs.length
 ·rw[L3 hn];exact q
 ·rw[Mc (by lia),LM,<- Lg (i:=n) (show xs.length<=n by lia)];exact q
theorem zK{Γ:GG}{ρ:Ro}{i:Nat}{ds:List D}{Q:Kd×D×Ro->Prop}(h:ρ[i]?=some (some ⟨false,k0,.nd .lst ds⟩))(he:aa Γ.fn e ρ=some (k,d))(hk:ph k d=true)(hl:ds.length<100000)(q:Q (.sh,.non,ρ.set i (some ⟨false,k0,.lst (d::ds)⟩))):Wp (aF Γ (.mut "insert" (.nm i) (.cons (.lit (.int 0)) (.cons e .nil))) ρ) Q:=by
 refine⟨_,?_,q⟩;rw[fD,show aG Γ.fn (.cons (.lit (.int 0)) (.cons e .nil)) ρ=some [(.sh,.int 0),(k,d)] from e2 rfl he];show dF "insert" i (lr Γ.fn (.nm i) ρ) (some [(.sh,.int 0),(k,d)]) ρ=_;rw[lr,h]
 show(match j4 "insert" [] .fz ds [(.sh,.int 0),(k,d)],ρ[i]? with|some (d',ds'),some (some ⟨false,k,_⟩)=>some (Kd.sh,d',ρ.set i (some ⟨false,k,id (.lst ds')⟩))|_,_=>none)=_
 have:j4 "insert" [] .fz ds [(.sh,.int 0),(k,d)]=some (.non,d::ds):=by
  show(if gE (.own [] .fz)=true/\ph k d=true/\(0:Int)<=0/\(0:Int)<=100000/\ds.length<100000 then _ else none)=_
  rw[if_pos ⟨rfl,hk,by decide,by decide,hl⟩];rfl
 rw[this,h];rfl
theorem zL{c:Ci}(ok:Ok c){p:Nat}(hp:p<c.n){s:Nat×Nat}(h:fu c p=some s):s.1<c.n/\(c.ins<=s.1->c.f<=s.1/\pl c s.1≠[]):=by
 unfold fu at h
 cases e:kw c p with
 |none=>rw[e] at h;cases h
 |some t=>
  rw[e] at h;dsimp only at h;split at h
  ·cases h
  ·rename_i hc;cases h;unfold kw at e;rw[List.find?_range_eq_some] at e;obtain⟨e1,_,e3⟩:=e;have e1:jy c (tr c p t)=false:=by simpa using e1
   refine⟨wU ok hp λj hj=>by have:=e3 j hj;simpa using this,λhi=>?_⟩
   have hf:c.f<=tr c p t:=by
    rcases KW (tr c p t) c.f with g|g
    ·rw[isM_iff.mpr ⟨hi,g⟩] at e1;cases e1
    ·exact g
   exact⟨hf,λz=>hc ⟨hf,z⟩⟩
theorem C0{c:Ci}(ok:Ok c){x s:Nat×Nat}(hx:Vd c x)(h:src c x=some s):s.1<c.n/\(c.ins<=s.1->c.f<=s.1/\pl c s.1≠[]):=by
 refine zL ok ?_ h;obtain⟨y,hy,ey⟩:=lJ hx.1 hx.2.1;rw[KA,Ko hx.2.2];exact(ok.g y (KP hy)).2 _ (by rw[ey];exact Ld hx.2.2)
theorem tH{ls:List Nat}:bf .Eq (.lst (ls.map iD)) (.lst [])=some ls.isEmpty:=by
 show(if cC 90 (.lst (ls.map iD))=true/\cC 90 (.lst [])=true then some (iU (.lst (ls.map iD)) (.lst [])) else none)=_
 rw[if_pos ⟨by show(decide (1<=90)&&bF 89 _)=true;rw[i3];rfl,rfl⟩]
 cases ls<;>rfl
theorem tI{ls:List Nat}:bf .NotEq (.lst (ls.map iD)) (.lst [])=some (!ls.isEmpty):=by
 show(if cC 90 (.lst (ls.map iD))=true/\cC 90 (.lst [])=true then some (!iU (.lst (ls.map iD)) (.lst [])) else De (.lst (ls.map iD)) (.lst []))=_
 rw[if_pos ⟨by show(decide (1<=90)&&bF 89 _)=true;rw[i3];rfl,rfl⟩]
 cases ls<;>rfl
theorem tJ{ls:List Nat}:bf .NotEq (.tup (ls.map iD)) (.tup [])=some (!ls.isEmpty):=by
 show(if cC 90 (.tup (ls.map iD))=true/\cC 90 (.tup [])=true then some (!iU (.tup (ls.map iD)) (.tup [])) else De (.tup (ls.map iD)) (.tup []))=_
 rw[if_pos ⟨by show(decide (1<=90)&&bF 89 _)=true;rw[i3];rfl,rfl⟩]
 cases ls<;>rfl
theorem zM{c:Ci}(ok:Ok c):∃ps:List Nat,aa Γ (.comp .fz [none,none,some 1,some 2] (.nm 1) (.rng (.var 2) (.bin .Add (.var 2) (.blt "len" (.cons (.ix (.var 1) (.lit (.int 2))) .nil)))) (.som (.cmp .NotEq (.ix (.ix (.ix (.var 2) (.lit (.int 2))) (.bin .Sub (.var 1) (.var 3))) (.lit (.int 1))) (.tup .fz .nil))) (.var 1)) [x,fS (cD c),fS (iD c.f),y3,y4,y5,y6,y7,y8]=some (.fr k0,.lst (ps.map iD))/\ps.length<=100/\∀p∈ps,c.f<=p/\p<c.n/\pl c p≠[]:=by
 have hg:=ok.bg;have hbi:=ok.bi;have hbm:=ok.bm;have hf:c.f<=200:=by unfold Ci.f;lia
 obtain⟨ys,ey,hy1,hy2⟩:=xt (r:=.fz) (f:=dk (.nm 1) (cI Γ (.som (.cmp .NotEq (.ix (.ix (.ix (.var 2) (.lit (.int 2))) (.bin .Sub (.var 1) (.var 3))) (.lit (.int 1))) (.tup .fz .nil)))) (aa Γ (.var 1)) [none,none,fS (cD c),fS (iD c.f)]) (λy=>∃p:Nat,y=iD p/\(c.f<=p/\p<c.n/\pl c p≠[])) (ds:=cb c.f ((c.f:Int)+(c.gates.length:Int))) λd hd=>by
  obtain⟨k,hk⟩:=MQ.mp hd;obtain⟨rfl,hk2⟩:=ib hk;have hc:av Γ (.cmp .NotEq (.ix (.ix (.ix (.var 2) (.lit (.int 2))) (.bin .Sub (.var 1) (.var 3))) (.lit (.int 1))) (.tup .fz .nil)) [none,fS (iD (c.f+k)),fS (cD c),fS (iD c.f)]=some (!(pl c (c.f+k)).isEmpty):=bO (wV (g:=c.f+k) (c2 rfl) (cz rfl rfl) (by lia) (by unfold Ci.n;lia)) (d':=.tup []) rfl tJ;refine xu (ps:=[(1,iD (c.f+k))]) rfl rfl (wv hc ⟨λe=>wv (r:=(.sh,iD (c.f+k))) rfl (.inr ⟨_,rfl,rfl,c.f+k,rfl,by lia,by unfold Ci.n;lia,λz=>?_⟩),λ_=>.inl rfl⟩);rw[z] at e;cases e
 obtain⟨ps,rfl,hp,hl⟩:=eJ hy2;refine⟨ps,?_,?_,hp⟩
 ·refine aC (hV (df (ao rfl (wv (bE rfl (aM (.inl rfl) (c2 rfl))) (dh (a6 (by lia) (by lia) (by lia) (by lia) (by lia)) ⟨?_,?_⟩)))))
  ·show(cb c.f ((c.f:Int)+(c.gates.length:Int))).length<=_;rw[km];lia
  ·exact wv ey rfl
 ·rw[hl];rw[km] at hy1
  lia
noncomputable abbrev tT(d:D)(c:Ci)(ps:List Nat)(gs:List (Nat×Nat))(g:D)(x6 x7 x8:Option Sl):Ro:=[bh d,fS (cD c),fS (iD c.f),fS (.lst (ps.map iD)),bh (.lst (gs.map pD)),fS g,x6,x7,x8]
theorem tK{gs:List (Nat×Nat)}(hl:gs.length<=100):∃as:List Nat,aa Γ (.comp .fz [none,none,none,some 5] (.tp [(.nm 1),(.nm 2)]) (.enm (.var 4)) (.som (.cmp .Eq (.ix (.var 2) (.lit (.int 0))) (.var 3))) (.var 1)) (tT d c ps gs (iD g) x6 x7 none)=some (.fr k0,.lst (as.map iD))/\as.length<=100:=by
 obtain⟨ys,ey,hy1,hy2⟩:=xt (r:=.fz) (f:=dk (.tp [.nm 1,.nm 2]) (cI Γ (.som (.cmp .Eq (.ix (.var 2) (.lit (.int 0))) (.var 3)))) (aa Γ (.var 1)) [none,none,none,fS (iD g)]) (λy=>∃p:Nat,y=iD p/\True) (ds:=(gs.map pD).mapIdx λi d=>D.tup [.int i,d]) λd hd=>by
  obtain⟨i,hi,rfl⟩:=List.mem_mapIdx.mp hd;rw[LW];generalize gs[i]'(by simpa using hi)=x;have hc:av Γ (.cmp .Eq (.ix (.var 2) (.lit (.int 0))) (.var 3)) [none,fS (iD i),fS (pD x),fS (iD g)]=some (decide ((x.1:Int)=(g:Int))):=gx (aY (k:=.sh) (n:=0) (xs:=[_,_]) rfl rfl (.inr rfl) rfl rfl) rfl;exact xu (ps:=[(1,iD i),(2,pD x)]) rfl rfl (wv hc ⟨λe=>wv (r:=(.sh,iD i)) rfl (.inr ⟨_,rfl,rfl,i,rfl,trivial⟩),λ_=>.inl rfl⟩)
 obtain⟨as,rfl,_,hl2⟩:=eJ hy2;rw[Na,Kp,Kp] at hy1;refine⟨as,aC (hV (wu (wv (r:=(fX 4 ⟨false,k0,.lst (gs.map pD)⟩)) rfl (CY rfl ⟨?_,wv ey rfl⟩)))),by lia⟩;show((gs.map pD).mapIdx λi d=>D.tup [.int i,d]).length<=_;rw[Na,Kp];lia
noncomputable def Jo(k:Kd)(x:D)(ρ:Ro):Prop:=∃(gs:List (Nat×Nat)) (dd:D) (rest:Ro),(k=.sh\/k=.fr k0)/\x=.lst (gs.map pD)/\gs.length<=9/\dt dd/\ρ=bh dd::rest
theorem xv{c:Ci}(ok:Ok c){d:D}{ps:List Nat}{gs:List (Nat×Nat)}{g s:Nat}{Q:Res->Prop}(hS:dt d)(hs:s<9)(hl:gs.length=s)(h1:c.f<=g)(h2:g<c.n)(h3:pl c g≠[])
  (qr:∀k x ρ',Jo k x ρ'->Q (.rt k x ρ')) (qn:∀(d:D) (gs':List (Nat×Nat)) (g':Nat) (x7 x8:Option Sl),dt d->gs'.length=s+1->c.f<=g'->g'<c.n->pl c g'≠[]->Q (.nx (tT d c ps gs' (iD g') (fS (iD s)) x7 x8))) :
  Wp (aB Γ_21 1000 (match GN with|.cons _ (.cons _ (.cons _ (.cons _ (.cons _ (.cons (.fo _ _ _ b) _)))))=>b|r=>r) [0] (tT d c ps gs (iD g) (fS (iD s)) none none)) Q:=by
 show Wp (aB Γ_21 1000 (.cons (.asg 7 (.io 11 (.ref 0 (.val (.p (.blt "len" (.cons (.ix (.ix (.ix (.var 1) (.lit (.int 2))) (.bin .Sub (.var 5) (.var 2))) (.lit (.int 1))) .nil))) .nil)))) _) [0] (tT d c ps gs (iD g) (fS (iD s)) none none)) _;have hpl:0<(pl c g).length:=MY.mpr h3
 have hp3:(pl c g).length<=3:=by
  obtain⟨x,hx,ex⟩:=lJ h1 h2;rw[<- ex];exact(ok.g x (KP hx)).1
 refine bY (dH (m:=(pl c g).length) (i:=0) rfl rfl hS (aM (.inr rfl) (wV (g:=g) (c2 rfl) (cz rfl rfl) h1 h2)) hpl (by lia) λk d1 hk s1=>⟨⟨rfl,by decide⟩,?_⟩);show Wp (aB Γ_21 1000 _ [0] (tT d1 c ps gs (iD g) (fS (iD s)) (fS (iD k)) none)) _;refine lF (zK (k:=.sh) (d:=pD (g,k)) rfl rfl rfl (by rw[Kp];lia) ?_);show Wp (aB Γ_21 1000 _ [0] (tT d1 c ps ((g,k)::gs) (iD g) (fS (iD s)) (fS (iD k)) none)) _;have hv:Vd c (g,k):=⟨h1,h2,hk⟩;obtain⟨y,hy⟩:=Gc (src c (g,k));have hb:CM [cD c,iD g,iD k]=some (.sh,.tup [lf (src c (g,k)),y]):=by rw[<- hy];exact oI ok h1 h2 hk
 refine aK (aY (k:=.sh) (n:=0) (d:=lf (src c (g,k))) (ce (φ:=CM) (ds:=[cD c,iD g,iD k]) rfl (e3 rfl rfl rfl) rfl rfl hb rfl) rfl (.inr rfl) rfl rfl) (lH _) (by decide) ?_;show Wp (aB Γ_21 1000 _ [0] (tT d1 c ps ((g,k)::gs) (lf (src c (g,k))) (fS (iD s)) (fS (iD k)) none)) _;have fin:∀{Γ:GG} {z:D} {rest:bN},Wp (aB Γ 1000 (.cons (.ret (.mv 4)) .nil) [0] (tT d1 c ps ((g,k)::gs) z (fS (iD s)) (fS (iD k)) none)) (Kt Γ 1000 rest [0] Q):=λ{Γ z rest}=>aS (ff (es:=[]) (r:=.fz) rfl ⟨rfl,bG (qr _ _ _ ⟨(g,k)::gs,d1,_,.inr rfl,rfl,by simp;lia,s1,rfl⟩)⟩)
 cases e:src c (g,k) with
 |none=>exact dZ (z:=true) (bj (x:=true) (y:=true) rfl λe=>by cases e) (λ_=>fin) λe=>by cases e
 |some q=>
  obtain⟨q1,q2⟩:=C0 ok hv e;refine dZ (bj (x:=false) rfl λ_=>bz (jh (i:=(q.1:Int)) rfl (c0 rfl))) (λ_=>fin) λe1=>bT ?_;have e1:¬(q.1:Int)<(c.ins:Int):=by simpa using e1
  obtain⟨q3,q4⟩:=q2 (by lia);obtain⟨as,ha,hal⟩:=tK (c:=c) (d:=d1) (g:=q.1) (x6:=fS (iD s)) (x7:=fS (iD k)) (ps:=ps) (gs:=(g,k)::gs) (Γ:=Γ_21.fn) (by simp;lia);refine aK ha rfl (by decide) ?_;have hnx:∀{d2:D} {x8:Option Sl},dt d2->Q (.nx (tT d2 c ps ((g,k)::gs) (iD q.1) (fS (iD s)) (fS (iD k)) x8)):=λs2=>qn _ ((g,k)::gs) q.1 _ _ s2 (by simp[hl]) q3 q1 q4;show Wp (aB Γ_21 1000 _ [0] (tT d1 c ps ((g,k)::gs) (iD q.1) (fS (iD s)) (fS (iD k)) (bh (.lst (as.map iD))))) _;refine rS (lE (ox (wv (bO (k:=(fX 8 ⟨false,k0,.lst (as.map iD)⟩).1) rfl (d':=.lst []) rfl tI) ?_)))
  cases has:as with
  |nil=>exact⟨λh=>Np (show true=false from h),λ_=>⟨λh=>Np (show false=true from h),λ_=>bX (cK (bX (hnx s1)))⟩⟩
  |cons a as'=>
   refine⟨λ_=>lC (mY (m:=3) (i:=0) rfl rfl s1 rfl (by decide) (by decide) λr d2 hr s2=>wy ⟨λ_=>?_,λ_=>bX (cK (bX (hnx s2)))⟩),λh=>absurd rfl h⟩;refine aS (CZ (aL (hZ rfl ⟨rfl,aJ (dg (aJ (ou (aL (hZ rfl ⟨rfl,aJ (dH (m:=(a::as').length) (i:=0) rfl rfl s2 (aM (l:=a::as') (.inl rfl) rfl) (by simp) (by rw[<- has];lia) λr3 d3 hr3 s3=>ah ?_)⟩)))))⟩)));have hat:((a::as').map iD)[r3]?=some (iD ((a::as').getD r3 0)):=by rw[Kr,fG (x:=0) hr3];rfl
   refine⟨_,_,rfl,gy (n:=r3) (.inl rfl) rfl hat (ae (ar (ah ⟨_,_,rfl,dG (ah ⟨_,_,rfl,Jn (n:=(a::as').getD r3 0+1) rfl ⟨rfl,bG (qr _ _ _ ⟨((g,k)::gs).take ((a::as').getD r3 0+1),d3,_,.inr rfl,?_,?_,s3,rfl⟩)⟩⟩)⟩)))⟩
   ·rw[MX]
   ·rw[La];simp;lia
theorem C3(ok:Ok c){d:D}{Q:Kd×D×List (Option jf)->Prop}(h:dt d)(q:∀(kd:Kd) (gs:List (Nat×Nat)) d',(kd=.sh\/kd=.fr k0)->gs.length<=9->dt d'->Q (kd,.lst (gs.map pD),[some (k0,d'),none])):Wp (FM [(k0,d),(.fz,cD c)]) Q:=by
 unfold FM;refine oA rfl ?_;unfold GN
 walk_at "nm"
 refine aK (FV rfl) rfl (by decide) ?_;obtain⟨ps,ep,hpl,hp⟩:=zM (c:=c) (Γ:=Γ_21.fn) (x:=bh d) (y3:=none) (y4:=none) (y5:=none) (y6:=none) (y7:=none) (y8:=none) ok;refine aK ep rfl (by decide) ?_;refine aK (x:=(.fr k0,.lst [])) rfl rfl (by decide) ?_
 have fin:∀k x ρ',Jo k x ρ'->Wp (j9 2 [0] (some (.rt k x ρ'))) Q:=λk x ρ' ⟨gs,dd,rest,hk,hx,hl,hs,hr⟩=>by
  subst hx hr;rcases hk with rfl|rfl
  ·exact bD rfl (q _ gs dd (.inl rfl) hl hs)
  ·exact bD rfl (q _ gs dd (.inr rfl) hl hs)
 show Wp (aB Γ_21 1000 _ [0] [bh d,fS (cD c),fS (iD c.f),bh (.lst (ps.map iD)),bh (.lst []),none,none,none,none]) _;refine dZ (bO (k:=(fX 3 ⟨false,k0,.lst (ps.map iD)⟩).1) rfl (d':=.lst []) rfl tH) (λ_=>?_) λe=>bT ?_
 ·exact aS (hZ rfl ⟨rfl,bG (fin _ _ _ ⟨[],d,_,.inl rfl,rfl,by simp,h,rfl⟩)⟩)
 ·have hne:0<ps.length:=by
   cases ps with
   |nil=>cases e
   |cons a l=>simp
  refine bY (ou (aL (hZ rfl ⟨rfl,aJ (dH (m:=ps.length) (i:=0) rfl rfl h (aM (.inl rfl) rfl) hne (by lia) λr d1 hr s1=>ah ?_)⟩)));have hat:(ps.map iD)[r]?=some (iD (ps.getD r 0)):=by rw[Kr,fG (x:=0) hr];rfl
  have hg:=hp (ps.getD r 0) (by rw[KA,Ko hr];exact Ld hr);refine⟨_,_,rfl,gy (n:=r) (.inl rfl) rfl hat ⟨⟨rfl,by decide⟩,?_⟩⟩;generalize ps.getD r 0=g at hg;show Wp (aB Γ_21 1000 _ [0] (tT d1 c ps [] (iD g) none none none)) _;refine wL (fR (df (ar (ar (dh (a6 (by lia) (by lia) (by lia) (by lia) (by lia)) ⟨λs ρ=>∃d gs g x6 x7 x8,ρ=tT d c ps gs (iD g) x6 x7 x8/\dt d/\gs.length=s/\c.f<=g/\g<c.n/\pl c g≠[],Jo,⟨d1,[],g,none,none,none,rfl,s1,rfl,hg.1,hg.2.1,hg.2.2⟩,λs x ρ hd hI=>?_,λρ hI=>?_,λk x ρ' hR=>?_⟩)))))
  ·obtain⟨d,gs,g,x6,x7,x8,rfl,hS,hl,h1,h2,h3⟩:=hI;obtain⟨rfl,hj⟩:=ib hd;refine⟨[(6,.int (0+s))],rfl,rfl,?_⟩;rw[M6] at hj⊢;exact xv ok hS (by lia) hl h1 h2 h3 (λk x ρ' hR=>.inr ⟨_,_,_,rfl,hR⟩) λd gs' g' x7 x8 hS hl h1 h2 h3=>.inl ⟨_,.inl rfl,d,gs',g',_,x7,x8,rfl,hS,hl,h1,h2,h3⟩
  ·obtain⟨d,gs,g,x6,x7,x8,rfl,hS,hl,h1,h2,h3⟩:=hI;refine aS (ff (es:=[]) (r:=.fz) rfl ⟨rfl,fin _ _ _ ⟨gs,d,_,.inr rfl,rfl,?_,hS,rfl⟩⟩);have hl:gs.length=(cb 0 9).length:=hl;rw[hl,km];decide
  ·refine⟨?_,fin _ _ _ hR⟩;obtain⟨_,_,_,hk,_⟩:=hR
   rcases hk with rfl|rfl<;>rfl
theorem oR{x:Int}:∀{l:List Int},(G.ja x l).length<=l.length+1
 |[]=>Kw _
 |y::ys=>by
  unfold G.ja;split
  ·exact Kw _
  ·split
   ·simp
   ·have:=oR (x:=x) (l:=ys);simp only[KS];lia
theorem lN:∀{l:List Int},(G.cr l).length<=l.length
 |[]=>Kw _
 |y::ys=>by
  have h1:=oR (x:=y) (l:=G.cr ys);have h2:=lN (l:=ys);show(G.ja y (G.cr ys)).length<=_;simp only[KS];lia
theorem xw{n:Nat}{Q:Kd×D×List (Option jf)->Prop}(h:dt d)(hn:n<=9)(q:∀(ms:List Int) d',ms.length<=11->dt d'->Q (.fr k0,mD ms,[some (k0,d'),none])):Wp (FN [(k0,d),(.fz,iD n)]) Q:=by
 unfold FN;refine oA rfl ?_;unfold IZ
 walk_at "nm"
 refine bY (jw (fR (df (ar (ao rfl (dh (a6 (by lia) (by lia) (by lia) (by lia) (by lia)) ⟨rfl,by show(cb 0 (n:Int)).length<=_;rw[ck];lia,?_⟩))))));show Wp (aw .fz _ (cb 0 (n:Int)) [none,none,none,bh d]) _;refine(xq (λρ=>∃d,ρ=[none,none,none,bh d]/\dt d) (λy=>∃z:Int,y=.int z/\True) ⟨d,rfl,h⟩ λx hx ρ hρ=>?_).mono λz hz=>?_
 ·obtain⟨d2,rfl,s2⟩:=hρ;obtain⟨i,hi⟩:=MQ.mp hx;obtain⟨rfl,_⟩:=ib hi;exact wK (ps:=[(1,.int (0+i))]) rfl ⟨rfl,rfl⟩ (mY (m:=3) (i:=3) rfl rfl s2 rfl (by decide) (by decide) λr d3 hr s3=>rP ⟨λ_=>a9 (ao rfl ⟨⟨d3,rfl,s3⟩,λkd e=>by cases e;exact⟨rfl,_,rfl,trivial⟩⟩),λ_=>⟨⟨d3,rfl,s3⟩,λkd e=>by cases e⟩⟩)
 ·obtain⟨⟨z1,z2⟩,d2,e2,s2⟩:=hz;obtain⟨zl,zr⟩:=z;cases(show zr=_ from e2);obtain⟨ms,e3,_,hml⟩:=eJ z2;cases(show zl=_ from e3);have hml:ms.length<=9:=by rw[hml];have:=z1;rw[ck] at this;lia
  refine⟨rfl,⟨rfl,by decide⟩,?_⟩;show Wp (aB Γ_22 1000 _ [0] [bh d2,fS (iD n),bh (mD ms)]) _;have fin:∀(ms:List Int) (d:D),ms.length<=11->dt d->Wp (aB Γ_22 1000 (.cons (.ret (.mv 2)) .nil) [0] [bh d,fS (iD n),bh (mD ms)]) λr=>Wp (j9 2 [0] (some r)) Q:=λms d hl hS=>aS (ff (es:=[]) (r:=.fz) rfl ⟨rfl,bD rfl (q ms d hl hS)⟩);refine rS (mY (m:=4) (i:=0) rfl rfl s2 rfl (by decide) (by decide) λr d3 hr s3=>wy ⟨λ_=>?_,λ_=>bX (cK (fin ms d3 (by lia) s3))⟩)
  have hs1:∀{Γ:Nat->Option Fn},aa Γ (.bin .Add (.bin .Add (.lst (.own [] .fz) (.cons (.lit (.int 0)) .nil)) (.var 2)) (.lst (.own [] .fz) (.cons (.bin .Sub (.var 1) (.lit (.int 1))) .nil))) [bh d3,fS (iD n),bh (mD ms)]=some (.fr k0,mD ([0]++ms++[(n:Int)-1])):=λ{Γ}=>by
   rw[kr (xs:=.int 0::ms.map D.int) (ys:=[.int ((n:Int)-1)]) ⟨rfl,rfl,by simp;lia⟩ (kr (xs:=[.int 0]) (ys:=ms.map D.int) ⟨rfl,rfl,by simp;lia⟩ rfl rfl) rfl];show some (Kd.fr aZ,D.lst (D.int 0::ms.map D.int++[.int ((n:Int)-1)]))=some (Kd.fr k0,D.lst (([0]++ms++[(n:Int)-1]).map D.int));rw[KR,KR];rfl
  have hlen:([0]++ms++[(n:Int)-1]).length<=11:=by simp;lia
  exact aK (xn (by lia) hs1) rfl (by decide) (bX (cK (fin _ d3 (KN lN hlen) s3)))
inductive Wy where
 |ato (a:At)
 |tup (as:List At)
 |lst (ts:List Th)
 |dic
noncomputable def Wy.d:Wy->D
 |.ato a=>a.d
 |.tup as=>.tup (as.map At.d)
 |.lst ts=>.lst (ts.map Th.d)
 |.dic=>.nd (.dic 0 []) []
noncomputable def Pk(x:D):Prop:=cC 80 x=true\/D5 x=true
structure Jp(c:Ci)(x:D):Prop where
 w:∃wo,Wk c x wo
 m:∃mo,Mk x mo
 d:∃io,Dk x io
 p:Pk x
theorem xx{ts:List Th}(hl:ts.length<=100):∃wo,Wk c (.lst (ts.map Th.d)) wo:=by
 by_cases h:∃t∈ts,bA c t=none
 ·exact⟨_,.bad hl h⟩
 ·have:∃gs:List (Nat×Nat),ts=gs.map oW/\∀x∈gs,Vd c x:=by
   clear hl
   induction ts with
   |nil=>exact⟨[],rfl,λx hx=>by simp at hx⟩
   |cons t ts ih=>
    obtain⟨gs,e,hv⟩:=ih λ⟨t',ht,e⟩=>h ⟨t',Kx _ ht,e⟩
    cases e2:bA c t with
    |none=>exact absurd ⟨t,KF,e2⟩ h
    |some x=>
     obtain⟨rfl,hx⟩:=qg e2;exact⟨x::gs,by rw[e];rfl,λy hy=>(Ku.mp hy).elim (λz=>z▸hx) (hv y)⟩
  obtain⟨gs,rfl,hv⟩:=this;refine⟨some gs,?_⟩;rw[KQ];exact .ok (by simpa using hl) hv
theorem C4{w:Wy}(hs:∀ts,w=.lst ts->ts.length<=1)(hp:Pk w.d):Jp c w.d:=by
 cases w with
 |ato a=>
  obtain⟨t,ht⟩:=oK a
  refine⟨⟨none,.no (by cases a<;>rfl)⟩,⟨none,.no (by cases a<;>rfl)⟩,?_,hp⟩
  cases a with
  |int i=>exact⟨_,.ok i⟩
  |_=>exact⟨_,.no rfl rfl⟩
 |tup as=>exact⟨⟨none,.no rfl⟩,⟨none,.no rfl⟩,⟨none,.no rfl rfl⟩,hp⟩
 |lst ts=>
  have h1:=hs ts rfl;exact⟨xx (by lia),⟨none,.few (by rw[Kp];lia)⟩,⟨none,.no rfl rfl⟩,hp⟩
 |dic=>exact⟨⟨none,.no rfl⟩,⟨none,.no rfl⟩,⟨none,.no rfl rfl⟩,hp⟩
noncomputable def As(f:Nat):List Wy:=[.ato .non,.ato (.bl true),.ato (.str "way"),.tup [],.lst [],.lst [.tup []],.ato (.int (-1)),.ato (.int (10^20)),.lst [.ato (.bl true)],.lst [.tup [.int f]],.lst [.tup [.int f,.int 0,.int 0]],.lst [.lst [.int f,.int 0]]]
noncomputable def C5(f:Nat):List Wy:=[.lst [.tup [.int f,.bl true]],.lst [.tup [.bl true,.int 0]],.lst [.tup [.int (-1),.int 0]],.lst [.tup [.int f,.int (-1)]],.lst [.tup [.int f,.str "0"]],.lst [.tup [.int f,.int 3]],.lst [.ato .non],.dic]
noncomputable def C6:Wy->Bool
 |.lst ts=>decide (ts.length<=1)
 |_=>true
theorem xy(f:Nat):((As f++C5 f).all λw=>C6 w&&(cC 80 w.d||D5 w.d))=true:=by kernel_rfl
theorem C7{c:Ci}{Q:Kd×D×List (Option jf)->Prop}(h:dt d)(q:∀x d',Jp c x->dt d'->Q (.sh,x,[some (k0,d'),none])):Wp (FO [(k0,d),(.fz,iD c.f)]) Q:=by
 unfold FO;refine oA rfl ?_;unfold Ja
 walk_at "nm"
 refine aK (x:=(.fr k0,.lst ((As c.f).map Wy.d))) rfl rfl (by decide) ?_;refine CH (s:=⟨false,k0,.lst ((As c.f).map Wy.d)⟩) rfl (a9 (wv (r:=(.fr k0,.lst ((C5 c.f).map Wy.d))) rfl ⟨by decide,rfl,wv (r:=(.sh,.non,[bh d,fS (iD c.f),bh (.lst ((As c.f++C5 c.f).map Wy.d))])) rfl ?_⟩));refine aS (ou (aL (hZ rfl ⟨rfl,aJ (dH (m:=20) (i:=0) rfl rfl h rfl (by decide) (by decide) λr d1 hr s1=>ah ?_)⟩)));have hlen:r<(As c.f++C5 c.f).length:=hr;have hat:((As c.f++C5 c.f).map Wy.d)[r]?=some ((As c.f++C5 c.f)[r].d):=by rw[Kr,Ko hlen];rfl
 have hw:=Lc.mp (xy c.f) _ (Ld hlen);generalize (As c.f++C5 c.f)[r]=w at hat hw;rw[Kn,K8] at hw;refine⟨_,_,rfl,gy (n:=r) (.inl rfl) rfl hat ⟨lH _,bD (lH _) (q _ d1 (C4 (λts e=>?_) hw.2) s1)⟩⟩;subst e;exact of_decide_eq_true hw.1
structure F3(c:Ci)(x y z:D):Prop where
 w:∃wo,Wk c x wo
 m:∃mo,Mk y mo
 d:∃io,Dk z io
 px:Pk x
 py:Pk y
 pz:Pk z
theorem qj{gs:List (Nat×Nat)}(hl:gs.length<=100):∃wo,Wk c (.lst (gs.map pD)) wo:=by
 have:=xx (c:=c) (ts:=gs.map oW) (by simpa using hl);rw[KQ] at this;exact this
theorem eK{ms:List Int}(hl:ms.length<=60):∃mo,Mk (mD ms) mo:=by
 by_cases h:2<=ms.length
 ·exact⟨_,.ok h hl⟩
 ·exact⟨none,.few (by rw[Kp];lia)⟩
theorem xz{n:Nat}(hn:1<=n):∀gs:List (Nat×Nat),bF n (gs.map pD)=true
 |[]=>rfl
 |g::gs=>by
  rw[K6];show(cC n (pD g)&&bF n (gs.map pD))=true;rw[xz hn gs,Bool.and_true];show(decide (1<=n)&&(true&&(true&&true)))=true;rw[decide_eq_true hn];rfl
theorem qk(gs:List (Nat×Nat)):Pk (.lst (gs.map pD)):=.inl (by show(decide (1<=80)&&bF 79 _)=true;rw[xz (by decide)];rfl)
theorem eL(ms:List Int):Pk (mD ms):=.inl (by show(decide (1<=80)&&bF 79 _)=true;rw[oQ];rfl)
theorem C8(ms:List Int):Pk (.tup (ms.map D.int)):=.inl (by show(decide (1<=80)&&bF 79 _)=true;rw[oQ];rfl)
theorem xA{α:Type}(xs:List α)(f:α->D)(n:Nat):dO (xs.map f) none (some (n:Int))=(xs.take n).map f:=by
 unfold dO;rw[HT.dJ,HT.ji,MN,M8,MX,Kp];rcases Nat.le_total n xs.length with h|h
 ·rw[L3 h]
 ·rw[Mc h,Lg (by simp),Lg (by simpa using h)]
theorem xB{α:Type}(xs:List α)(f:α->D)(n:Nat):dO (xs.map f) (some (n:Int)) none=(xs.drop n).map f:=by
 unfold dO;rw[HT.dJ,HT.ji,Mo,Kp];rcases Nat.le_total n xs.length with h|h
 ·rw[L3 h];exact Lg (by simp)
 ·rw[Mc h,Nat.sub_self,List.take_zero,List.drop_of_length_le (by simpa using h)]
theorem xC(xs:List Int):dO (xs.map D.int) (some (-1)) none=(xs.drop (xs.length-1)).map D.int:=by
 unfold dO
 have e:HT.i6 (xs.map D.int).length 0 (some (-1))=(-1+((xs.map D.int).length:Int)).toNat:=by
  show(if(-1:Int)<0 then(-1+((xs.map D.int).length:Int)).toNat else min (-1:Int).toNat (xs.map D.int).length)=_
  rw[if_pos (by decide)]
 rw[HT.dJ,e,Mo,Kp,show(-1+(xs.length:Int)).toNat=xs.length-1 by lia];exact Lg (by simp)
theorem Jq{Γ:GG}{ρ:Ro}{c:Ci}{Q:Kd×D×Ro->Prop}(hΓ:Γ.fm 24=some FO)(h0:ρ[0]?=some (bh d))(h6:ρ[6]?=some (fS (iD c.f)))(h:dt d)(q:∀x d',Jp c x->dt d'->Q (.sh,x,ρ.set 0 (bh d'))):Wp (aF Γ (.io 24 (.ref 0 (.val (.p (.var 6)) .nil))) ρ) Q:=by
 refine iZ hΓ (eG h0 (bM (a9 (ao h6 ⟨rfl,eE ⟨by simp[bU],[(k0,d),(.fz,iD c.f)],?_,C7 h λx d' hx hs=>⟨rfl,rfl,q x d' hx hs⟩⟩⟩))))
 show(match ρ[0]?,some [((.fz:Ow),iD c.f)] with|some (some ⟨false,k,d⟩),some ks=>some ((k,d)::ks)|_,_=>none)=_
 rw[h0]
noncomputable abbrev oX(d:D)(c:Ci)(gs:List (Nat×Nat))(ms:List Int)(dd:Int)(x7 x8:Option Sl):Ro:=[bh d,fS (cD c),fS (.lst [.lst (gs.map pD),mD ms,.int dd]),fS (.lst (gs.map pD)),fS (mD ms),fS (.int dd),fS (iD c.f),x7,x8]
theorem tL{c:Ci}(ok:Ok c){d:D}{gs:List (Nat×Nat)}{ms:List Int}{dd:Int}{Q:Kd×D×List (Option jf)->Prop}(h:dt d)(hg:gs.length<=9)(hm:ms.length<=11)(q:∀x y z d',F3 c x y z->dt d'->Q (.fr k0,.lst [x,y,z],[some (k0,d'),none,none])):Wp (FQ [(k0,d),(.fz,cD c),(.fz,.lst [.lst (gs.map pD),mD ms,.int dd])]) Q:=by
 have hf:c.f<=200:=by have:=ok.bi;have:=ok.bm;unfold Ci.f;lia
 have fw:∀{gs':List (Nat×Nat)} {y:D},gs'.length<=100->(∃mo,Mk y mo)->Pk y->F3 c (.lst (gs'.map pD)) y (.int dd):=λhl hy py=>⟨qj hl,hy,⟨_,.ok dd⟩,qk _,py,.inl rfl⟩;have fm:∀{gs':List (Nat×Nat)} {ms':List Int},gs'.length<=100->ms'.length<=60->F3 c (.lst (gs'.map pD)) (mD ms') (.int dd):=λhl hl'=>fw hl (eK hl') (eL _);unfold FQ;refine oA rfl ?_;unfold Jd
 walk_at "nm"
 refine CG (a9 (wv (r:=(.sh,.lst [.lst (gs.map pD),mD ms,.int dd])) rfl ⟨_,_,_,rfl,rfl,⟨rfl,rfl⟩,?_⟩));refine aK (FV rfl) rfl (by decide) ?_;refine bY (dH (m:=8) (i:=0) rfl rfl h rfl (by decide) (by decide) λhow d1 hh s1=>⟨⟨rfl,by decide⟩,?_⟩);show Wp (aB Γ_24 1000 _ [0] (oX d1 c gs ms dd (fS (iD how)) none)) _;refine dZ (gx (i:=(how:Int)) (j:=0) rfl rfl) (λ_=>?_) λ_=>bT ?_
 ·exact aS (fj (aJ (Jq (c:=c) rfl rfl rfl s1 λx d2 hx s2=>ae (ao rfl (ae (ao rfl (ah (bv rfl ⟨rfl,bG (bD rfl (q _ _ _ d2 ⟨hx.w,eK (by lia),⟨_,.ok dd⟩,hx.p,eL _,.inl rfl⟩ s2))⟩))))))))
 refine dZ (gx (i:=(how:Int)) (j:=1) rfl rfl) (λ_=>?_) λ_=>bT ?_
 ·exact aS (fj (aL (a9 (ao rfl ⟨rfl,aJ (Jq (c:=c) rfl rfl rfl s1 λx d2 hx s2=>ae (ao rfl (ah (bv rfl ⟨rfl,bG (bD rfl (q _ _ _ d2 (fw (by lia) hx.m hx.p) s2))⟩))))⟩))))
 refine dZ (gx (i:=(how:Int)) (j:=2) rfl rfl) (λ_=>?_) λ_=>bT ?_
 ·exact aS (fj (aL (a9 (ao rfl ⟨rfl,aL (a9 (ao rfl ⟨rfl,aJ (Jq (c:=c) rfl rfl rfl s1 λx d2 hx s2=>ah (bv rfl ⟨rfl,bG (bD rfl (q _ _ _ d2 ⟨qj (by lia),eK (by lia),hx.d,qk _,eL _,hx.p⟩ s2))⟩))⟩))⟩))))
 have hl1:∀{Γ:Nat->Option Fn} {x8:Option Sl} {d:D},aa Γ (.bin .Add (.blt "len" (.cons (.var 3) .nil)) (.lit (.int 1))) (oX d c gs ms dd (fS (iD how)) x8)=some (.sh,iD (gs.length+1)):=λ{Γ x8 d}=>bE (j:=1) (aM (l:=gs) (f:=pD) (.inl rfl) rfl) rfl;refine bY (dH (m:=gs.length+1) (i:=0) rfl rfl s1 hl1 (by lia) (by lia) λat_ d2 hat s2=>⟨⟨rfl,by decide⟩,?_⟩);show Wp (aB Γ_24 1000 _ [0] (oX d2 c gs ms dd (fS (iD how)) (fS (iD at_)))) _;have st:∀{Γ:Nat->Option Fn} {d:D},aa Γ (.sl (.var 3) .non (.som (.var 8))) (oX d c gs ms dd (fS (iD how)) (fS (iD at_)))=some (.fr k0,.lst ((gs.take at_).map pD)):=λ{Γ d}=>by rw[<- xA];rfl
 have sd:∀{Γ:Nat->Option Fn} {d:D},aa Γ (.sl (.var 3) (.som (.bin .Add (.var 8) (.lit (.int 1)))) .non) (oX d c gs ms dd (fS (iD how)) (fS (iD at_)))=some (.fr k0,.lst ((gs.drop (at_+1)).map pD)):=λ{Γ d}=>by rw[<- xB];rfl
 have tl:(gs.take at_).length<=9:=by rw[La];lia
 have dl:(gs.drop (at_+1)).length<=9:=by rw[Ma];lia
 refine dZ (gx (i:=(how:Int)) (j:=3) rfl rfl) (λ_=>?_) λ_=>bT ?_
 ·refine aS (fj (aJ (dg (aJ (dg (aL (a9 (wv st ⟨rfl,aJ (fj (aJ (kl (aL (dg (aL (a9 (ao rfl ⟨rfl,aJ (dH (m:=9) (i:=0) rfl rfl s2 rfl (by decide) (by decide) λr d3 hr s3=>ah ⟨_,_,rfl,dG ⟨rfl,aJ (dH (m:=3) (i:=0) rfl rfl s3 rfl (by decide) (by decide) λr4 d4 hr4 s4=>ah (gu rfl (ah (bv rfl (ah ⟨_,_,rfl,pY (xs:=(gs.take at_).map pD) (ys:=[pD (c.f+r,r4)]) ⟨rfl,rfl,by simp;lia⟩ (ae (wv sd (ah ⟨_,_,rfl,pY (xs:=(gs.take at_).map pD++[pD (c.f+r,r4)]) (ys:=(gs.drop (at_+1)).map pD) ⟨rfl,rfl,by simp;lia⟩ (ae (ao rfl (ae (ao rfl (ah (bv rfl ⟨rfl,bG (bD rfl ?_)⟩))))))⟩)))⟩)))))⟩⟩)⟩))))))))⟩))))))));have:=q (.lst ((gs.take at_++[(c.f+r,r4)]++gs.drop (at_+1)).map pD)) (mD ms) (.int dd) d4 (fm (by simp;lia) (by lia)) s4;rw[KR,KR] at this;exact this
 refine dZ (gx (i:=(how:Int)) (j:=4) rfl rfl) (λ_=>?_) λ_=>bT ?_
 ·refine aS (a9 (wv (aC (de (wv (e3 (kr ⟨rfl,rfl,by simp;lia⟩ st sd) rfl rfl) (bv (r:=(.fr k0,.lst [.lst ((gs.take at_).map pD++(gs.drop (at_+1)).map pD),mD ms,.int dd])) rfl rfl)))) ⟨rfl,bG (bD rfl ?_)⟩));have:=q (.lst ((gs.take at_++gs.drop (at_+1)).map pD)) (mD ms) (.int dd) d2 (fm (by simp;lia) (by lia)) s2;rw[KR] at this;exact this
 refine dZ (gx (i:=(how:Int)) (j:=5) rfl rfl) (λ_=>?_) λ_=>bT ?_
 ·have sl5:∀{Γ:Nat->Option Fn},aa Γ (.sl (.var 4) (.som (.neg (.lit (.int 1)))) .non) (oX d2 c gs ms dd (fS (iD how)) (fS (iD at_)))=some (.fr k0,mD (ms.drop (ms.length-1))):=λ{Γ}=>by show some (Kd.fr aZ,D.lst (dO (ms.map D.int) (some (-1)) none))=_;rw[xC]
  refine aS (a9 (wv (aC (de (wv (e3 rfl (kr (xs:=ms.map D.int) ⟨rfl,rfl,by simp;lia⟩ rfl sl5) rfl) (bv (r:=(.fr k0,.lst [.lst (gs.map pD),.lst (ms.map D.int++(ms.drop (ms.length-1)).map D.int),.int dd])) rfl rfl)))) ⟨rfl,bG (bD rfl ?_)⟩));have:=q (.lst (gs.map pD)) (mD (ms++ms.drop (ms.length-1))) (.int dd) d2 (fm (by lia) (by simp;lia)) s2;unfold mD at this;rw[KR] at this;exact this
 refine dZ (gx (i:=(how:Int)) (j:=6) rfl rfl) (λ_=>?_) λ_=>bT ?_
 ·have t1:∀{Γ:Nat->Option Fn},aa Γ (.blt "tuple" (.cons (.var 4) .nil)) (oX d2 c gs ms dd (fS (iD how)) (fS (iD at_)))=some (.sh,.tup (ms.map D.int)):=λ{Γ}=>aC (cH (ae (ao rfl (ah (kj rfl rfl)))));have t2:∀{Γ:Nat->Option Fn},aa Γ (.sl (.var 4) (.som (.lit (.int 1))) .non) (oX d2 c gs ms dd (fS (iD how)) (fS (iD at_)))=some (.fr k0,mD (ms.drop 1)):=mV rfl rfl;have t3:∀{Γ:Nat->Option Fn},aa Γ (.sl (.var 4) .non (.som (.neg (.lit (.int 1))))) (oX d2 c gs ms dd (fS (iD how)) (fS (iD at_)))=some (.fr k0,mD ms.dropLast):=mU rfl rfl
  have t4:∀{Γ:Nat->Option Fn},aa Γ (.lrev (.var 4)) (oX d2 c gs ms dd (fS (iD how)) (fS (iD at_)))=some (.fr k0,mD ms.reverse):=λ{Γ}=>by
   show(match toInts (ms.map D.int) with|some ks=>if ks.length<=100000 then some (Kd.fr aZ,D.lst (ks.reverse.map D.int)) else none|none=>none)=_
   rw[c5];exact if_pos (by lia)
  have l12:∀{Γ:Nat->Option Fn},aa Γ (.lst (.own [] .fz) (.cons (.blt "tuple" (.cons (.var 4) .nil)) (.cons (.sl (.var 4) (.som (.lit (.int 1))) .non) .nil))) (oX d2 c gs ms dd (fS (iD how)) (fS (iD at_)))=some (.fr k0,.lst [.tup (ms.map D.int),mD (ms.drop 1)]):=λ{Γ}=>aC (de (wv (e2 t1 t2) (bv rfl rfl)));have l34:∀{Γ:Nat->Option Fn},aa Γ (.lst (.own [] .fz) (.cons (.sl (.var 4) .non (.som (.neg (.lit (.int 1))))) (.cons (.lrev (.var 4)) .nil))) (oX d2 c gs ms dd (fS (iD how)) (fS (iD at_)))=some (.fr k0,.lst [mD ms.dropLast,mD ms.reverse]):=λ{Γ}=>aC (de (wv (e2 t3 t4) (bv rfl rfl)));have lL:∀{Γ:Nat->Option Fn},aa Γ (.lst (.own [] .fz) (.cons (.lst (.own [] .fz) (.cons (.blt "tuple" (.cons (.var 4) .nil)) (.cons (.sl (.var 4) (.som (.lit (.int 1))) .non) .nil))) (.cons (.lst (.own [] .fz) (.cons (.sl (.var 4) .non (.som (.neg (.lit (.int 1))))) (.cons (.lrev (.var 4)) .nil))) .nil))) (oX d2 c gs ms dd (fS (iD how)) (fS (iD at_)))=some (.fr k0,.lst [.lst [.tup (ms.map D.int),mD (ms.drop 1)],.lst [mD ms.dropLast,mD ms.reverse]]):=λ{Γ}=>aC (de (wv (e2 l12 l34) (bv rfl rfl)));have ia:∀{Γ:Nat->Option Fn},aa Γ (.bin .Mod (.var 8) (.lit (.int 2))) (oX d2 c gs ms dd (fS (iD how)) (fS (iD at_)))=some (.sh,.int ((at_:Int)%2)):=wN (by decide) rfl rfl;have id_:∀{Γ:Nat->Option Fn},aa Γ (.bin .Mod (.var 5) (.lit (.int 2))) (oX d2 c gs ms dd (fS (iD how)) (fS (iD at_)))=some (.sh,.int (dd%2)):=wN (by decide) rfl rfl
  have key:∀{y:D} {i j:Nat} {zs:List D},(at_:Int)%2=(i:Int)->dd%2=(j:Int)->[D.lst [.tup (ms.map D.int),mD (ms.drop 1)],.lst [mD ms.dropLast,mD ms.reverse]][i]?=some (.lst zs)->zs[j]?=some y->(∃mo,Mk y mo)->Pk y->Wp (aB Γ_24 1000 (.cons (.ret (.p (.lst (.own [] .fz) (.cons (.var 3) (.cons (.ix (.ix (.lst (.own [] .fz) (.cons (.lst (.own [] .fz) (.cons (.blt "tuple" (.cons (.var 4) .nil)) (.cons (.sl (.var 4) (.som (.lit (.int 1))) .non) .nil))) (.cons (.lst (.own [] .fz) (.cons (.sl (.var 4) .non (.som (.neg (.lit (.int 1))))) (.cons (.lrev (.var 4)) .nil))) .nil))) (.bin .Mod (.var 8) (.lit (.int 2)))) (.bin .Mod (.var 5) (.lit (.int 2)))) (.cons (.var 5) .nil)))))) .nil) [0] (oX d2 c gs ms dd (fS (iD how)) (fS (iD at_)))) (Kt Γ_24 1000 (.cons (.ret (.p (.lst (.own [] .fz) (.cons (.var 3) (.cons (.comp .fz [none,none] (.nm 1) (.e (.var 4)) .non (.bin .Add (.var 1) (.lit (.int 1)))) (.cons (.var 5) .nil)))))) .nil) [0] λr=>Wp (j9 3 [0] (some r)) Q):=λea ed hz hy hm hp=>
   aS (a9 (wv (aC (de (wv (e3 rfl (aY (aY lL ia (.inl rfl) ea hz) id_ (.inl rfl) ed hy) rfl) (bv rfl rfl)))) ⟨rfl,bG (bD rfl (q _ _ _ d2 (fw (by lia) hm hp) s2))⟩))
  have ha:(at_:Int)%2=0\/(at_:Int)%2=1:=by lia
  have hd:dd%2=0\/dd%2=1:=by lia
  rcases ha with ha|ha<;>rcases hd with hd|hd
  ·exact key (i:=0) (j:=0) ha hd rfl rfl ⟨none,.no rfl⟩ (C8 _)
  ·exact key (i:=0) (j:=1) ha hd rfl rfl (eK (by simp;lia)) (eL _)
  ·exact key (i:=1) (j:=0) ha hd rfl rfl (eK (by simp;lia)) (eL _)
  ·exact key (i:=1) (j:=1) ha hd rfl rfl (eK (by simp;lia)) (eL _)
 ·refine aS (a9 (wv (aC (de (wv (e3 rfl (ku (l:=ms) (f:=D.int) (g:=λz=>D.int (z+1)) (.inl rfl) rfl rfl (by lia) λz hz=>zq rfl (wv (bE rfl rfl) ⟨_,rfl,rfl⟩)) rfl) (bv (r:=(.fr k0,.lst [.lst (gs.map pD),.lst (ms.map λz=>D.int (z+1)),.int dd])) rfl rfl)))) ⟨rfl,bD rfl ?_⟩));have:=q (.lst (gs.map pD)) (mD (ms.map (·+1))) (.int dd) d2 (fm (by lia) (by simp;lia)) s2;unfold mD at this;rw[KQ] at this;exact this
theorem oT:∀{l:List D},(∀d∈l,Pk d)->uN l l=some true
 |[],_=>rfl
 |d::l,h=>by
  have ih:=oT (l:=l) λx hx=>h x (Kx _ hx);unfold uN;rcases h d KF with hp|hp
  ·rw[if_pos ⟨hp,hp⟩,ih];show some (iU d d&&true)=_;rw[ig hp];rfl
  ·split
   ·rename_i hq;rw[ih];show some (iU d d&&true)=_;rw[ig hq.1];rfl
   ·rw[if_pos ⟨hp,hp⟩,ih]
theorem zN{l:List D}(h:∀d∈l,Pk d):bf .NotEq (.lst l) (.lst l)=some false:=by
 show(if cC 90 (.lst l)=true/\cC 90 (.lst l)=true then some (!iU (.lst l) (.lst l)) else(uN l l).map (!·))=_
 split
 ·rename_i hp;rw[ig hp.1];rfl
 ·rw[oT h];rfl
theorem xD{n:Nat}(hn:1<=n):∀ms:List (Nat×Nat),bF n (ms.map iP)=true:=xz hn
theorem lO{n:Nat}(hn:2<=n):∀gs:List (Nat×List Nat),bF n (gs.map di)=true
 |[]=>rfl
 |g::gs=>by
  rw[K6];show(cC n (di g)&&bF n (gs.map di))=true;rw[lO hn gs,Bool.and_true];show(decide (1<=n)&&(true&&((decide (1<=n-1)&&bF (n-1-1) (g.2.map iD))&&true)))=true;rw[decide_eq_true (by lia),decide_eq_true (by lia),i3];rfl
theorem Jr:bf .NotEq (cD c) (cD c)=some false:=by
 have hp:cC 90 (cD c)=true:=by
  show(decide (1<=90)&&(true&&((decide (1<=89)&&bF 88 (c.mems.map iP))&&((decide (1<=89)&&bF 88 (c.gates.map di))&&((decide (1<=89)&&bF 88 (c.outs.map iD))&&true)))))=true;rw[xD (by decide),lO (by decide),i3];rfl
 show(if cC 90 (cD c)=true/\cC 90 (cD c)=true then some (!iU (cD c) (cD c)) else De (cD c) (cD c))=_
 rw[if_pos ⟨hp,hp⟩,ig hp];rfl
theorem Js{b:Bool}:bf .NotEq (.bl b) (.bl b)=some false:=by cases b<;>rfl
noncomputable def zO(x:D):Prop:=eV "list" x=some false\/∃xs,x=.lst xs
theorem Wk.part(h:Wk c x wo):zO x:=by
 cases h with
 |no h=>exact .inl h
 |bad _ _=>exact .inr ⟨_,rfl⟩
 |ok _ _=>exact .inr ⟨_,rfl⟩
theorem Mk.part(h:Mk x mo):zO x:=by
 cases h with
 |no h=>exact .inl h
 |few _=>exact .inr ⟨_,rfl⟩
 |ok _ _=>exact .inr ⟨_,rfl⟩
theorem Dk.part(h:Dk x io):zO x:=by
 cases h with
 |@no _ t h _=>
  cases x with
  |nd hd ds=>cases hd with
   |lst=>exact .inr ⟨_,rfl⟩
   |tup=>exact .inl rfl
   |dic n ks=>cases n with
    |zero=>exact .inl rfl
    |succ n=>cases h
   |obj _ _=>cases h
  |scr _=>cases h
  |_=>exact .inl rfl
 |ok i=>exact .inl rfl
theorem xE{ρ:Ro}(h:zO x)(hx:ρ[1]?=some (fS x)):Wp (aa Γ (.ifx (.isi "list" (.var 1)) (.blt "list" (.cons (.var 1) .nil)) (.var 1)) ρ) λy=>∃kd,some y=some (kd,x)/\cP .fz (kd,x)=true:=by
 have hv:aa Γ (.var 1) ρ=some (.sh,x):=by rw[mx,hx];rfl
 rcases h with h|⟨xs,rfl⟩
 ·exact wv (wR (x:=false) (p:=(.sh,x)) (cN hv h) (λe=>by cases e) λ_=>hv) ⟨_,rfl,rfl⟩
 ·exact wv (wR (x:=true) (p:=(.fr aZ,.lst xs)) (cN hv rfl) (λ_=>aC (cH (ae (wv hv (ah (mQ rfl rfl)))))) λe=>by cases e) ⟨_,rfl,rfl⟩
noncomputable abbrev r8(n:List Int)(d:D)(c:Ci)(x4 x5 x6 x7 x8 x9 x10 x11:Option Sl):Ro:=[fS (.scr n),bh d,fS (cD c),fS (cD c),x4,x5,x6,x7,x8,x9,x10,x11]
theorem Kl(ok:Ok c){x y z:D}{x4 x5 x6 y11:Option Sl}{Q:Res->Prop}(h:F3 c x y z)(q:∀x8 x9 x10 x11,Q (.nx (r8 ns d c x4 x5 x6 (fS (.lst [x,y,z])) x8 x9 x10 x11))) :
  Wp (aB kQ 1000 (.cons (.asg 8 (.p (.fn 20 (.cons (.var 2) (.cons (.ix (.var 7) (.lit (.int 0))) (.cons (.ix (.var 7) (.lit (.int 1))) (.cons (.ix (.var 7) (.lit (.int 2))) .nil))))))) (.cons (.asg 9 (.p (.comp .fz [none,none,none,none] (.nm 1) (.e (.var 7)) .non (.ifx (.isi "list" (.var 1)) (.blt "list" (.cons (.var 1) .nil)) (.var 1))))) (.cons (.fo [10,11] (.nm 10) (.p (.rng (.lit (.int 0)) (.lit (.int 2)))) (.cons (.asg 11 (.p (.fn 10 (.cons (.var 3) (.cons (.ix (.var 9) (.lit (.int 0))) (.cons (.ix (.var 9) (.lit (.int 1))) (.cons (.ix (.var 9) (.lit (.int 2))) .nil))))))) (.cons (.ifs (.p (.bool .Or (.cons (.not (.isi "bool" (.var 11))) (.cons (.cmp .NotEq (.var 11) (.var 8)) (.cons (.cmp .NotEq (.var 9) (.var 7)) (.cons (.cmp .NotEq (.var 3) (.var 2)) .nil)))))) (.cons (.ret (.p (.lit (.bl false)))) .nil) .nil) .nil))) .nil))) [] (r8 ns d c x4 x5 x6 (fS (.lst [x,y,z])) none none none y11)) Q:=by
 obtain⟨wo,hw⟩:=h.w;obtain⟨mo,hm⟩:=h.m;obtain⟨io,hd⟩:=h.d;have p0:∀{Γ:Nat->Option Fn} {a b c' e f g:Option Sl} {j:Nat} {v:D} {x8 x9 x10 x11:Option Sl},[x,y,z][j]?=some v->aa Γ (.ix (.var 7) (.lit (.int j))) [a,b,c',e,f,g,x6,fS (.lst [x,y,z]),x8,x9,x10,x11]=some (.sh,v):=λ{Γ a b c' e f g j v x8 x9 x10 x11} hj=>aY (k:=.sh) (n:=j) rfl rfl (.inl rfl) rfl hj;refine aK (ce (φ:=FK) (ds:=[cD c,x,y,z]) rfl (e4 rfl (p0 (j:=0) rfl) (p0 (j:=1) rfl) (p0 (j:=2) rfl)) rfl rfl (tF ok hw hm hd) rfl) rfl (by decide) ?_;have sh:=xl ok hw hm hd;generalize oP c wo mo io=b at sh;refine aK (x:=(.fr k0,.lst [x,y,z])) (ku (l:=[x,y,z]) (f:=λx=>x) (g:=λx=>x) (.inl rfl) rfl rfl (by simp) λv hv=>zq rfl (xE ?_ rfl)) rfl (by decide) ?_
 ·simp only[Ku,KO,or_false] at hv;rcases hv with rfl|rfl|rfl
  ·exact hw.part
  ·exact hm.part
  ·exact hd.part
 show Wp (aB kQ 1000 _ [] (r8 ns d c x4 x5 x6 (fS (.lst [x,y,z])) (fS (.bl b)) (bh (.lst [x,y,z])) none y11)) _;refine oz (fR (df (ar (ar (dh (a6 (by lia) (by lia) (by lia) (by lia) (by lia)) ⟨λs ρ=>∃x10 x11,ρ=r8 ns d c x4 x5 x6 (fS (.lst [x,y,z])) (fS (.bl b)) (bh (.lst [x,y,z])) x10 x11,⟨none,y11,rfl⟩,λs v ρ hv hI=>?_,λρ hI=>?_⟩)))))
 ·obtain⟨x10,x11,rfl⟩:=hI;refine⟨[(10,v)],rfl,rfl,?_⟩;show Wp (aB kQ 1000 _ [] (r8 ns d c x4 x5 x6 (fS (.lst [x,y,z])) (fS (.bl b)) (bh (.lst [x,y,z])) (fS v) none)) _;have p9:∀{Γ:Nat->Option Fn} {j:Nat} {w:D} {u:Option Sl},[x,y,z][j]?=some w->aa Γ (.ix (.var 9) (.lit (.int j))) (r8 ns d c x4 x5 x6 (fS (.lst [x,y,z])) (fS (.bl b)) (bh (.lst [x,y,z])) u none)=some (.sh,w):=λ{Γ j w u} hj=>aY (k:=(fX 9 ⟨false,k0,.lst [x,y,z]⟩).1) (n:=j) rfl rfl (.inl rfl) rfl hj;refine aK (ce (φ:=CK) (ds:=[cD c,x,y,z]) rfl (e4 rfl (p9 (j:=0) rfl) (p9 (j:=1) rfl) (p9 (j:=2) rfl)) rfl rfl sh rfl) rfl (by decide) ?_
  have hpk:∀d∈[x,y,z],Pk d:=λd hd=>by
   simp only[Ku,KO,or_false] at hd;rcases hd with rfl|rfl|rfl
   ·exact h.px
   ·exact h.py
   ·exact h.pz
  exact aP (z:=false) (x:=(.sh,.bl false)) (bj (x:=false) (y:=false) (aQ (cN (x:=true) rfl rfl)) λ_=>bj (x:=false) (y:=false) (bO (k:=.sh) (k':=.sh) rfl rfl Js) λ_=>bj (x:=false) (y:=false) (bO (k:=(fX 9 ⟨false,k0,.lst [x,y,z]⟩).1) (k':=.sh) rfl rfl (zN hpk)) λ_=>bz (bO (k:=.sh) (k':=.sh) rfl rfl Jr)) (λe=>by cases e) λ_=>bX ⟨_,.inl rfl,_,_,rfl⟩
 ·obtain⟨x10,x11,rfl⟩:=hI;exact bX (q _ _ _ _)
theorem zP{Γ:GG}{Q:Kd×D×Ro->Prop}(h13:Γ.fm 13=some Dr)(h15:Γ.fm 15=some Dt)(h:dt d)(q:∀c d',Ok c->dt d'->Q (.sh,cD c,[fS (.scr ns),bh d',x2,x3,x4,x5,x6,x7,x8,x9,x10,x11])) :
  Wp (aF Γ (.io 15 (.ref 1 (.val (.io 13 (.ref 1 (.val (.p (.lit (.int 2))) (.val (.p (.lit (.int 9))) .nil)))) (.val (.io 13 (.ref 1 (.val (.p (.lit (.int 4))) (.val (.p (.lit (.int 9))) .nil)))) (.val (.bin .Add (.cons (.p (.lit (.int 1))) (.fin (.io 13 (.ref 1 (.val (.p (.lit (.int 8))) (.val (.p (.lit (.int 24))) .nil)))) .nil))) .nil))))) [fS (.scr ns),bh d,x2,x3,x4,x5,x6,x7,x8,x9,x10,x11]) Q:=by
 refine iZ (φ:=Dt) h15 (eG (i:=1) rfl (bM (zI (i:=1) (few:=2) (most:=9) h13 rfl h (by decide) (by decide) λr1 d1 hr1 s1=>⟨rfl,bM (zI (i:=1) (few:=4) (most:=9) h13 rfl s1 (by decide) (by decide) λr2 d2 hr2 s2=>⟨rfl,bM (dg (aL (a9 (ar ⟨rfl,aJ (zI (i:=1) (few:=8) (most:=24) h13 rfl s2 (by decide) (by decide) λr3 d3 hr3 s3=>ah ⟨_,_,rfl,dG ⟨rfl,eE ⟨by simp[bU],[(k0,d3),(.fz,iD r1),(.fz,iD r2),(.fz,.int (1+(r3:Int)))],rfl,?_⟩⟩⟩)⟩))))⟩)⟩)));rw[show D.int (1+(r3:Int))=iD (1+r3) from congrArg D.int (by lia)];exact qi s3 hr1 hr2 (by lia) (by lia) λc d' hc hs=>⟨rfl,rfl,q c d' hc hs⟩
theorem turn{d:D}(ok:Ok c){v:D}{x8 x9 x10 x11:Option Sl}{Q:Res->Prop}(h:dt d)(q:∀d x5 x6 x7 x8 x9 x10 x11,dt d->Q (.nx (r8 ns d c (fS v) x5 x6 x7 x8 x9 x10 x11))) :
  Wp (aB kQ 1000 (match GQ with|.cons _ (.cons _ (.cons _ (.cons (.fo _ _ _ b) _)))=>b|r=>r) [] (r8 ns d c (fS v) none none none x8 x9 x10 x11)) Q:=by
 show Wp (aB kQ 1000 (.cons (.asg 5 (.io 22 (.ref 1 (.val (.p (.var 2)) .nil)))) _) [] (r8 ns d c (fS v) none none none x8 x9 x10 x11)) _;refine bY (iZ (φ:=FM) rfl (eG (i:=1) rfl (bM (a9 (ao rfl ⟨rfl,eE ⟨by simp[bU],[(k0,d),(.fz,cD c)],rfl,C3 ok h λkd gs d1 hk hg s1=>?_⟩⟩)))))
 have hb:bp kd=false/\bp (bW kd (.lst (gs.map pD)))=false:=by rcases hk with rfl|rfl<;>exact⟨rfl,rfl⟩
 refine⟨hb.1,rfl,⟨hb.2,by decide⟩,?_⟩;obtain⟨k5,hk5⟩:∃k5:Ow,Aa (bW kd (.lst (gs.map pD)))=k5:=⟨_,rfl⟩;show Wp (aB kQ 1000 _ [] (r8 ns d1 c (fS v) (some ⟨false,Aa (bW kd (.lst (gs.map pD))),.lst (gs.map pD)⟩) none none x8 x9 x10 x11)) _;rw[hk5];refine bY (fj (aL (hZ rfl ⟨rfl,aL (iZ (φ:=FN) rfl (eG (i:=1) rfl (bM (a9 (wv (aM (l:=gs) (f:=pD) (k:=.sh) (.inl rfl) rfl) ⟨rfl,eE ⟨by simp[bU],[(k0,d1),(.fz,iD gs.length)],rfl,xw s1 hg λms d2 hm s2=>⟨rfl,rfl,rfl,aJ (dg (aJ (dH (m:=7) (i:=1) rfl rfl s2 rfl (by decide) (by decide) λr d3 hr s3=>ae (ar (ah ⟨_,_,rfl,kh (ah (bv rfl ⟨⟨rfl,by decide⟩,?_⟩))⟩)))))⟩⟩⟩)))))⟩)));show Wp (aB kQ 1000 _ [] (r8 ns d3 c (fS v) (fS (.lst (gs.map pD))) (bh (.lst [.lst (gs.map pD),mD ms,.int ((r:Int)-1)])) none x8 x9 x10 x11)) _;have hA:F3 c (.lst (gs.map pD)) (mD ms) (.int ((r:Int)-1)):=⟨qj (by lia),eK (by lia),⟨_,.ok _⟩,qk _,eL _,.inl rfl⟩;refine oz (Ah (fj (aL (hZ rfl ⟨rfl,aJ (iZ (φ:=FQ) rfl (eG (i:=1) rfl (bM (a9 (ao rfl ⟨rfl,bM (hZ rfl ⟨rfl,eE ⟨by simp[bU],[(k0,d3),(.fz,cD c),(.fz,.lst [.lst (gs.map pD),mD ms,.int ((r:Int)-1)])],rfl,tL ok s3 hg hm λx y z d4 hF s4=>⟨rfl,rfl,ah (bv rfl (pZ rfl ?_))⟩⟩⟩)⟩)))))⟩))));refine⟨λs ρ=>∃x7 x8 x9 x10 x11,ρ=r8 ns d4 c (fS v) (fS (.lst (gs.map pD))) (fS (.lst [.lst (gs.map pD),mD ms,.int ((r:Int)-1)])) x7 x8 x9 x10 x11,⟨none,x8,x9,x10,x11,rfl⟩,λs w ρ hw hI=>?_,λρ hI=>?_⟩
 ·obtain⟨x7,x8,x9,x10,x11,rfl⟩:=hI
  have hw:∃a b e,w=.lst [a,b,e]/\F3 c a b e:=by
   have hw:[D.lst [.lst (gs.map pD),mD ms,.int ((r:Int)-1)],.lst [x,y,z]][s]?=some w:=hw
   match s,hw with
   |0,hw=>cases hw;exact⟨_,_,_,rfl,hA⟩
   |1,hw=>cases hw;exact⟨_,_,_,rfl,hF⟩
  obtain⟨a,b,e,rfl,hF2⟩:=hw;refine⟨[(7,.lst [a,b,e])],rfl,rfl,?_⟩;exact Kl ok hF2 λx8 x9 x10 x11=>⟨_,.inl rfl,_,x8,x9,x10,x11,rfl⟩
 ·obtain⟨x7,x8,x9,x10,x11,rfl⟩:=hI;exact bX (q d4 _ _ _ _ _ _ _ s4)
theorem xF(ns:List Int)(hl:ns.length<=63):FR [.scr ns]=some (.sh,.bl true):=by
 unfold FR;refine aC (CI rfl ?_);unfold GQ
 walk_at "nm"
 refine bY (a9 (wq (φ:=FH) rfl (ae (ao rfl (ah (wC ((xp hl λd h=>⟨rfl,.inl rfl,⟨rfl,by decide⟩,?_⟩))))))));show Wp (aB kQ 1000 _ [] [fS (.scr ns),bh d,none,none,none,none,none,none,none,none,none,none]) _;refine bY (zP rfl rfl h λc d1 ok s1=>⟨⟨rfl,by decide⟩,?_⟩);refine aK (ce (φ:=FL) (ds:=[cD c]) rfl (e1 rfl) rfl rfl zJ rfl) rfl (by decide) ?_;show Wp (aB kQ 1000 _ [] (r8 ns d1 c none none none none none none none none)) _;refine oz (fR (df (ar (ar (dh (a6 (by lia) (by lia) (by lia) (by lia) (by lia)) ⟨λs ρ=>∃d x4 x5 x6 x7 x8 x9 x10 x11,ρ=r8 ns d c x4 x5 x6 x7 x8 x9 x10 x11/\dt d,⟨d1,none,none,none,none,none,none,none,none,rfl,s1⟩,λs v ρ hv hI=>?_,λρ hI=>?_⟩)))))
 ·obtain⟨d,x4,x5,x6,x7,x8,x9,x10,x11,rfl,hS⟩:=hI;refine⟨[(4,v)],rfl,rfl,?_⟩;exact turn ok hS λd x5 x6 x7 x8 x9 x10 x11 hS=>⟨_,.inl rfl,d,_,x5,x6,x7,x8,x9,x10,x11,rfl,hS⟩
 ·obtain⟨d,x4,x5,x6,x7,x8,x9,x10,x11,rfl,hS⟩:=hI;exact aS (a9 (ar ⟨rfl,fU rfl rfl⟩))
noncomputable abbrev C9:Pos:=match wM with|.FunctionDef _ _ _ _ _ _ _ _ _ p=>p|_=>⟨0,0,0,0⟩
noncomputable abbrev sv(x:String)(t:Tok):Value:=.str (Str.ofString x) t
noncomputable abbrev E(P:Params)(x:String)(t:Tok)(v:Value):DictEntry:=⟨PyData.keyHash P (Str.ofString x),.str (Str.ofString x) t,v⟩
noncomputable abbrev fO(x:String)(st:Stmt)(m:Value)(c:Addr):Obj:=⟨.type "function",none,.func (LG (Str.ofString x) (Str.ofString x) (du st) (bH st) (ab st) .none .none .none m none (.ref c) .none),#[]⟩
noncomputable abbrev mL:Value:=sv "law_gatepapers_k73_ways_that_show" 282
noncomputable abbrev cO(x:String)(t:Nat)(l n:Int)(r:Addr)(b:Bool)(q:Addr)(A B C:Value)(s:Addr)(u:Nat):Obj:=⟨.type "code",none,.fields #[sv x t,sv x (t+1),sv "/claim/cut.py" (t+2),.int l 0,.int n 0,.int 0 0,.int 0 0,.int 3 0,.ref r,.bool b,.int 181 0,.ref q,A,B,C,.ref s,.int u 0,.int l 0,sv "/claim/cut.py" (u+1)],#[]⟩
noncomputable def KK(P:Params):Km:=[(3,⟨(.type "dict"),none,(.dict #[E P "__name__" 165 mL,E P "__doc__" 166 .none,E P "__package__" 167 .none,E P "__loader__" 168 (.builtin "__main__.__loader__#opaque"),E P "__spec__" 169 .none,E P "__annotations__" 170 (.ref 6),E P "__builtins__" 171 (.ref 4),E P "__file__" 173 (sv "/claim/cut.py" 172),E P "__cached__" 174 .none,E P "is_whole" 195 (.ref 21),E P "is_below" 203 (.ref 28),E P "is_tuple" 213 (.ref 35),E P "gate_at" 224 (.ref 42),E P "led_back" 237 (.ref 49),E P "step_back" 247 (.ref 56),E P "steps_of" 253 (.ref 61),E P "is_open" 261 (.ref 68),E P "are_marks" 267 (.ref 73),E P "block_sizes" 273 (.ref 78),E P "shows" 281 (.ref 83),E P "_law_next" 292 (.ref 90),E P "_law_state" 301 (.ref 97),E P "_law_many" 310 (.ref 104),E P "_law_place" 321 (.ref 111),E P "_law_circuit" 327 (.ref 116),E P "_law_whole" 334 (.ref 123),E P "_law_back" 347 (.ref 130),E P "_law_is_thing" 356 (.ref 137),E P "_law_blocks" 362 (.ref 142),E P "_law_shows" 368 (.ref 147),E P "_law_kept" 375 (.ref 154),E P "_law_way" 381 (.ref 159),E P "_law_marks" 387 (.ref 164),E P "_law_odd" 396 (.ref 171),E P "_law_spoilt" 402 (.ref 176),E P "law" 408 (.ref 181)] 36),#[]⟩),
 (21,fO "is_whole" s0 (sv "gatepapers.bits" 187) 20),
 (20,cO "is_whole" 189 2 1 15 true 16 .none (.ref 17) (.ref 18) 19 193),
 (28,fO "is_below" s1 (sv "gatepapers.bits" 187) 27),
 (27,cO "is_below" 196 4 2 22 true 23 .none (.ref 24) (.ref 25) 26 201),
 (35,fO "is_tuple" s2 (sv "gatepapers.circuits" 204) 34),
 (34,cO "is_tuple" 206 7 2 29 true 30 .none (.ref 31) (.ref 32) 33 211),
 (42,fO "gate_at" s3 (sv "gatepapers.ways" 214) 41),
 (41,cO "gate_at" 216 10 2 36 true 37 .none (.ref 38) (.ref 39) 40 222),
 (49,fO "led_back" s4 (sv "gatepapers.ways" 214) 48),
 (48,cO "led_back" 225 13 2 43 true 44 .none (.ref 45) (.ref 46) 47 235),
 (56,fO "step_back" s5 (sv "gatepapers.ways" 214) 55),
 (55,cO "step_back" 238 24 2 50 true 51 .none (.ref 52) (.ref 53) 54 245),
 (61,fO "steps_of" s6 (sv "gatepapers.ways" 214) 60),
 (60,cO "steps_of" 248 32 2 57 true 58 .none .none .none 59 251),
 (68,fO "is_open" s7 (sv "gatepapers.ways" 214) 67),
 (67,cO "is_open" 254 44 2 62 true 63 .none (.ref 64) (.ref 65) 66 259),
 (73,fO "are_marks" s8 (sv "gatepapers.ways" 214) 72),
 (72,cO "are_marks" 262 46 3 69 true 70 .none .none .none 71 265),
 (78,fO "block_sizes" s9 (sv "gatepapers.ways" 214) 77),
 (77,cO "block_sizes" 268 52 3 74 true 75 .none .none .none 76 271),
 (83,fO "shows" Gw (sv "gatepapers.move" 274) 82),
 (82,cO "shows" 276 58 4 79 true 80 .none .none .none 81 279),
 (90,fO "_law_next" Gx mL 89),
 (89,cO "_law_next" 284 68 2 84 true 85 .none (.ref 86) (.ref 87) 88 290),
 (97,fO "_law_state" Gy mL 96),
 (96,cO "_law_state" 293 77 1 91 true 92 .none (.ref 93) (.ref 94) 95 299),
 (104,fO "_law_many" Gz mL 103),
 (103,cO "_law_many" 302 84 3 98 true 99 .none (.ref 100) (.ref 101) 102 308),
 (111,fO "_law_place" GA mL 110),
 (110,cO "_law_place" 311 88 4 105 true 106 .none (.ref 107) (.ref 108) 109 319),
 (116,fO "_law_circuit" GB mL 115),
 (115,cO "_law_circuit" 322 95 4 112 true 113 .none .none .none 114 325),
 (123,fO "_law_whole" GD mL 122),
 (122,cO "_law_whole" 328 105 1 117 true 118 .none (.ref 119) (.ref 120) 121 332),
 (130,fO "_law_back" GE mL 129),
 (129,cO "_law_back" 335 107 3 124 true 125 .none (.ref 126) (.ref 127) 128 345),
 (137,fO "_law_is_thing" GF mL 136),
 (136,cO "_law_is_thing" 348 118 2 131 true 132 .none (.ref 133) (.ref 134) 135 354),
 (142,fO "_law_blocks" GI mL 141),
 (141,cO "_law_blocks" 357 123 3 138 true 139 .none .none .none 140 360),
 (147,fO "_law_shows" GJ mL 146),
 (146,cO "_law_shows" 363 128 4 143 true 144 .none .none .none 145 366),
 (154,fO "_law_kept" GL mL 153),
 (153,cO "_law_kept" 369 146 1 148 true 149 .none (.ref 150) (.ref 151) 152 373),
 (159,fO "_law_way" GM mL 158),
 (158,cO "_law_way" 376 148 2 155 true 156 .none .none .none 157 379),
 (164,fO "_law_marks" sQ mL 163),
 (163,cO "_law_marks" 382 165 2 160 true 161 .none .none .none 162 385),
 (171,fO "_law_odd" z4 mL 170),
 (170,cO "_law_odd" 388 170 2 165 true 166 .none (.ref 167) (.ref 168) 169 394),
 (176,fO "_law_spoilt" GO mL 175),
 (175,cO "_law_spoilt" 397 174 3 172 true 173 .none .none .none 174 400),
 (181,fO "law" wM mL 180),
 (180,cO "law" 403 194 1 177 true 178 .none .none .none 179 406)]
noncomputable def HH:PySem.W.Hook:=PySem.W.kHook KK [3,21,20,28,27,35,34,42,41,49,48,56,55,61,60,68,67,73,72,78,77,83,82,90,89,97,96,104,103,111,110,116,115,123,122,130,129,137,136,142,141,147,146,154,153,159,158,164,163,171,170,176,175,181,180] (λ_=>rfl)
noncomputable def qv:Program:=PySem.W.view PySem.Challenge.pw_gatepapers_k73_ways_that_show [31]
noncomputable def lo:List Str:=(["__name__","is_whole","is_below","is_tuple","gate_at","led_back","step_back","steps_of","is_open","are_marks","block_sizes","shows","_law_next","_law_state","_law_many","_law_place","_law_circuit","_law_whole","_law_back","_law_is_thing","_law_blocks","_law_shows","_law_kept","_law_way","_law_marks","_law_odd","_law_spoilt"]:List String).map Str.ofString
theorem left:PySem.W.LeftO (PySem.Challenge.rw_gatepapers_k73_ways_that_show).row.toRowW.prog qv lo (λs=>PySem.W.xlAt qv [] s&&PySem.W.recOk (PySem.W.RowW.records (PySem.Challenge.rw_gatepapers_k73_ways_that_show).row.toRowW) s) (PySem.W.Hook.obs HH) (PySem.W.Hook.val HH) 20000:=λw=>by kernel_rfl
theorem fI{P:Params}{h:Heap}{mg:Str->Option Value}(X:(KK P).In h)(G:h.Ns mainGlobals mg){x:Str}{v:Value}(e:Mu (KK P) mainGlobals x=some (some v)):mg x=some v:=PySem.W.mg_of X G e
theorem fm{P:Params}(x:String)(st:Stmt)(f:Addr)(m:Value)(c:Addr)(h:(KK P).lookup f=some (fO x st m c):=by kernel_rfl)(k:Mi (KK P) (.ref c) (Str.ofString x)=true:=by kernel_rfl)(j:Lo (KK P) (.ref f)=true:=by kernel_rfl):Fun (KK P) (Str.ofString x) (Str.ofString x) st f (LG (Str.ofString x) (Str.ofString x) (du st) (bH st) (ab st) .none .none .none m none (.ref c) .none):=A0 h k j
theorem Da{l:PySem.W.OpenLaw}{w:World}{P:Params}{h:Heap}{mg:Str->Option Value}{fa:Addr}(X:(KK P).In h)(G:h.Ns mainGlobals mg)(hfa:mg "law" = some (.ref fa)):∃fd:FuncData,(∀(s:Shared) (v:Value),BindsTo s fd ⟨[v],[]⟩ [("_law_script",v)])/\∀base:Heap,(KK P).In base->base.Ns mainGlobals mg->FnOk l.prog w (KK P) mg base qE 27 fa fd ["_law_script"] (xG (KK P) FR):=by
 have e:=hfa.symm.trans (fI X G (v:=.ref 181) (by kernel_rfl));cases e;have F0:=fm (P:=P) "is_whole" s0 21 (sv "gatepapers.bits" 187) 20;have B0:=F0.binds (ps:=["thing"]) λ_ _ _ _ _ _=>Fg (λ_=>rfl);have F1:=fm (P:=P) "is_below" s1 28 (sv "gatepapers.bits" 187) 27;have B1:=F1.binds (ps:=["thing","bound"]) λ_ _ _ _ _ _=>tP (λ_ _=>rfl);have F2:=fm (P:=P) "is_tuple" s2 35 (sv "gatepapers.circuits" 204) 34;have B2:=F2.binds (ps:=["thing","many"]) λ_ _ _ _ _ _=>tP (λ_ _=>rfl);have F3:=fm (P:=P) "gate_at" s3 42 (sv "gatepapers.ways" 214) 41;have B3:=F3.binds (ps:=["circuit","place"]) λ_ _ _ _ _ _=>tP (λ_ _=>rfl);have F4:=fm (P:=P) "led_back" s4 49 (sv "gatepapers.ways" 214) 48;have B4:=F4.binds (ps:=["circuit","place"]) λ_ _ _ _ _ _=>tP (λ_ _=>rfl);have F5:=fm (P:=P) "step_back" s5 56 (sv "gatepapers.ways" 214) 55;have B5:=F5.binds (ps:=["circuit","thing"]) λ_ _ _ _ _ _=>tP (λ_ _=>rfl);have F6:=fm (P:=P) "steps_of" s6 61 (sv "gatepapers.ways" 214) 60;have B6:=F6.binds (ps:=["circuit","way"]) λ_ _ _ _ _ _=>tP (λ_ _=>rfl);have F7:=fm (P:=P) "is_open" s7 68 (sv "gatepapers.ways" 214) 67;have B7:=F7.binds (ps:=["circuit","steps"]) λ_ _ _ _ _ _=>tP (λ_ _=>rfl);have F8:=fm (P:=P) "are_marks" s8 73 (sv "gatepapers.ways" 214) 72;have B8:=F8.binds (ps:=["marks","many","ends"]) λ_ _ _ _ _ _=>Dp (λ_ _ _=>rfl);have F9:=fm (P:=P) "block_sizes" s9 78 (sv "gatepapers.ways" 214) 77;have B9:=F9.binds (ps:=["marks","many","ends"]) λ_ _ _ _ _ _=>Dp (λ_ _ _=>rfl);have F10:=fm (P:=P) "shows" Gw 83 (sv "gatepapers.move" 274) 82;have B10:=F10.binds (ps:=["circuit","way","marks","d"]) λ_ _ _ _ _ _=>Gv (λ_ _ _ _=>rfl);have F11:=fm (P:=P) "_law_next" Gx 90 mL 89;have B11:=F11.binds (ps:=["_law_state_here","_law_many_here"]) λ_ _ _ _ _ _=>tP (λ_ _=>rfl);have F12:=fm (P:=P) "_law_state" Gy 97 mL 96;have B12:=F12.binds (ps:=["_law_script"]) λ_ _ _ _ _ _=>Fg (λ_=>rfl);have F13:=fm (P:=P) "_law_many" Gz 104 mL 103;have B13:=F13.binds (ps:=["_law_state_here","_law_few","_law_most"]) λ_ _ _ _ _ _=>Dp (λ_ _ _=>rfl);have F14:=fm (P:=P) "_law_place" GA 111 mL 110;have B14:=F14.binds (ps:=["_law_state_here","_law_ins","_law_first","_law_below"]) λ_ _ _ _ _ _=>Gv (λ_ _ _ _=>rfl);have F15:=fm (P:=P) "_law_circuit" GB 116 mL 115;have B15:=F15.binds (ps:=["_law_state_here","_law_ins","_law_memories","_law_many_here"]) λ_ _ _ _ _ _=>Gv (λ_ _ _ _=>rfl);have F16:=fm (P:=P) "_law_whole" GD 123 mL 122;have B16:=F16.binds (ps:=["_law_thing"]) λ_ _ _ _ _ _=>Fg (λ_=>rfl);have F17:=fm (P:=P) "_law_back" GE 130 mL 129;have B17:=F17.binds (ps:=["_law_circuit_here","_law_gate","_law_k"]) λ_ _ _ _ _ _=>Dp (λ_ _ _=>rfl);have F18:=fm (P:=P) "_law_is_thing" GF 137 mL 136;have B18:=F18.binds (ps:=["_law_circuit_here","_law_thing"]) λ_ _ _ _ _ _=>tP (λ_ _=>rfl);have F19:=fm (P:=P) "_law_blocks" GI 142 mL 141;have B19:=F19.binds (ps:=["_law_marks_here","_law_size","_law_ring"]) λ_ _ _ _ _ _=>Dp (λ_ _ _=>rfl);have F20:=fm (P:=P) "_law_shows" GJ 147 mL 146;have B20:=F20.binds (ps:=["_law_circuit_here","_law_way_here","_law_marks_here","_law_d"]) λ_ _ _ _ _ _=>Gv (λ_ _ _ _=>rfl);have F21:=fm (P:=P) "_law_kept" GL 154 mL 153;have B21:=F21.binds (ps:=["_law_circuit_here"]) λ_ _ _ _ _ _=>Fg (λ_=>rfl);have F22:=fm (P:=P) "_law_way" GM 159 mL 158;have B22:=F22.binds (ps:=["_law_state_here","_law_circuit_here"]) λ_ _ _ _ _ _=>tP (λ_ _=>rfl);have F23:=fm (P:=P) "_law_marks" sQ 164 mL 163;have B23:=F23.binds (ps:=["_law_state_here","_law_size"]) λ_ _ _ _ _ _=>tP (λ_ _=>rfl);have F24:=fm (P:=P) "_law_odd" z4 171 mL 170;have B24:=F24.binds (ps:=["_law_state_here","_law_first"]) λ_ _ _ _ _ _=>tP (λ_ _=>rfl);have F25:=fm (P:=P) "_law_spoilt" GO 176 mL 175;have B25:=F25.binds (ps:=["_law_state_here","_law_circuit_here","_law_handed"]) λ_ _ _ _ _ _=>Dp (λ_ _ _=>rfl);have F26:=fm (P:=P) "law" wM 181 mL 180;have B26:=F26.binds (ps:=["_law_script"]) λ_ _ _ _ _ _=>Fg (λ_=>rfl);refine⟨LG "law" "law" (du wM) (bH wM) (ab wM) .none .none .none mL none (.ref 180) .none,λs v=>.of_eq rfl,λbase _ _=>?_⟩
 have T0:TabF l.prog w (KK P) mg base (dc fns Γ0) 0:=⟨λx φ hx=>by (have hx:(bu x fns.fns).bind Γ0.fn=some φ:=hx;cases q:bu x fns.fns<;>rw[q] at hx<;>cases hx),(λc fs C hc _=>nomatch (show([]:List (Str×List Str)).lookup c=some fs from hc)),λx φ hx=>by (have hx:(bu x fns.fns).bind (λi=>(Γ0.fm i).map λφ=>λK=>z6 K φ)=some φ:=hx;cases q:bu x fns.fns<;>rw[q] at hx<;>cases hx),(λx hx=>by
  simp only[aq,Ku,KO,or_false] at hx;rcases hx with rfl|rfl|rfl|rfl|rfl|rfl|rfl|rfl|rfl|rfl|rfl|rfl|rfl|rfl|rfl|rfl|rfl|rfl|rfl|rfl|rfl
  all_goals exact PySem.W.mg_none_of X G (by kernel_rfl)),λx d hx=>by
  have hx:MD x fns.cs=some d:=hx;simp only[fns,MD] at hx;cases hx⟩
 have T1:=T0.addI (i:=0) (ψ:=ψ0) F0 JY (fI X G (v:=.ref 21) (by kernel_rfl)) B0 rfl rfl JX λ_=>Le.refl _;have T2:=T1.addI (i:=1) (ψ:=ψ1) F1 J1 (fI X G (v:=.ref 28) (by kernel_rfl)) B1 rfl rfl JZ λ_=>Le.refl _;have T3:=T2.addI (i:=2) (ψ:=ψ2) F2 J3 (fI X G (v:=.ref 35) (by kernel_rfl)) B2 rfl rfl J2 λ_=>Le.refl _;have T4:=T3.addI (i:=3) (ψ:=ψ3) F3 J5 (fI X G (v:=.ref 42) (by kernel_rfl)) B3 rfl rfl J4 λ_=>Le.refl _;have T5:=T4.addI (i:=4) (ψ:=ψ4) F4 J7 (fI X G (v:=.ref 49) (by kernel_rfl)) B4 rfl rfl J6 λ_=>Le.refl _;have T6:=T5.addI (i:=5) (ψ:=ψ5) F5 J9 (fI X G (v:=.ref 56) (by kernel_rfl)) B5 rfl rfl J8 λ_=>Le.refl _;have T7:=T6.addI (i:=7) (ψ:=ψ7) F7 Ke (fI X G (v:=.ref 68) (by kernel_rfl)) B7 rfl rfl Kc λ_=>Le.refl _;have T8:=T7.addI (i:=6) (ψ:=ψ6) F6 Kb (fI X G (v:=.ref 61) (by kernel_rfl)) B6 rfl rfl Ka λ_=>Le.refl _;have T9:=T8.addI (i:=8) (ψ:=ψ8) F8 Kg (fI X G (v:=.ref 73) (by kernel_rfl)) B8 rfl rfl Kf λ_=>Le.refl _;have T10:=T9.addI (i:=9) (ψ:=ψ9) F9 Ki (fI X G (v:=.ref 78) (by kernel_rfl)) B9 rfl rfl Kh λ_=>Le.refl _;have T11:=T10.addI (i:=10) (ψ:=CK) F10 Ik (fI X G (v:=.ref 83) (by kernel_rfl)) B10 rfl rfl Ij λ_=>Le.refl _;have T12:=T11.addM (i:=11) (ψ:=Dq) (pn:=[0]) F11 Io (fI X G (v:=.ref 90) (by kernel_rfl)) B11 rfl rfl Im λ_=>Le.refl _;have T13:=T12.addI (i:=12) (ψ:=FH) F12 Ir (fI X G (v:=.ref 97) (by kernel_rfl)) B12 rfl rfl Iq λ_=>Le.refl _;have T14:=T13.addM (i:=13) (ψ:=Dr) (pn:=[0]) F13 Iw (fI X G (v:=.ref 104) (by kernel_rfl)) B13 rfl rfl Iv λ_=>Le.refl _;have T15:=T14.addM (i:=14) (ψ:=Ds) (pn:=[0]) F14 Iz (fI X G (v:=.ref 111) (by kernel_rfl)) B14 rfl rfl Iy λ_=>Le.refl _;have T16:=T15.addM (i:=15) (ψ:=Dt) (pn:=[0]) F15 IB (fI X G (v:=.ref 116) (by kernel_rfl)) B15 rfl rfl IA λ_=>Le.refl _;have T17:=T16.addI (i:=16) (ψ:=CL) F16 ID (fI X G (v:=.ref 123) (by kernel_rfl)) B16 rfl rfl IC λ_=>Le.refl _;have T18:=T17.addI (i:=17) (ψ:=CM) F17 IH (fI X G (v:=.ref 130) (by kernel_rfl)) B17 rfl rfl IG λ_=>Le.refl _;have T19:=T18.addI (i:=18) (ψ:=FI) F18 IK (fI X G (v:=.ref 137) (by kernel_rfl)) B18 rfl rfl IJ λ_=>Le.refl _;have T20:=T19.addI (i:=19) (ψ:=FJ) F19 IN (fI X G (v:=.ref 142) (by kernel_rfl)) B19 rfl rfl IM λ_=>Le.refl _;have T21:=T20.addI (i:=20) (ψ:=FK) F20 IQ (fI X G (v:=.ref 147) (by kernel_rfl)) B20 rfl rfl IP λ_=>Le.refl _;have T22:=T21.addI (i:=21) (ψ:=FL) F21 IW (fI X G (v:=.ref 154) (by kernel_rfl)) B21 rfl rfl IV λ_=>Le.refl _;have T23:=T22.addM (i:=22) (ψ:=FM) (pn:=[0]) F22 IY (fI X G (v:=.ref 159) (by kernel_rfl)) B22 rfl rfl IX λ_=>Le.refl _;have T24:=T23.addM (i:=23) (ψ:=FN) (pn:=[0]) F23 I9 (fI X G (v:=.ref 164) (by kernel_rfl)) B23 rfl rfl I0 λ_=>Le.refl _;have T25:=T24.addM (i:=24) (ψ:=FO) (pn:=[0]) F24 Jc (fI X G (v:=.ref 171) (by kernel_rfl)) B24 rfl rfl Jb λ_=>Le.refl _;have T26:=T25.addM (i:=25) (ψ:=FQ) (pn:=[0]) F25 Jf (fI X G (v:=.ref 176) (by kernel_rfl)) B25 rfl rfl Je λ_=>Le.refl _;exact(rN (n:=60) (an:=an) F26 Jh T26 Jg).imp λvs H Q E s=>wl (λ_=>Le.refl _) s
theorem Jt{l:PySem.W.OpenLaw}{YP:World->Heap->Prop}{d:DefRec}{K:Params->Km}(hn:l.most=some 63)(hdf:d.params.defaults=[])(hY:∀(w:World) (h:Heap),YP w h->(K w.params).In h)(F:∀(w:World) (mg:Str->Option Value) (fa:Addr) (h:Heap),(K w.params).In h->h.Ns mainGlobals mg->mg d.name=some (.ref fa)->
   ∃fd:FuncData,(∀(s:Shared) (u:Value),BindsTo s fd ⟨[u],[]⟩ [("_law_script",u)])/\∀base:Heap,(K w.params).In base->base.Ns mainGlobals mg->FnOk l.prog w (K w.params) mg base qE 27 fa fd ["_law_script"] (xG (K w.params) FR)) :
  PySem.W.WalkO q loose XP YP l.row.toRowW d [] (λf vs=>PySem.call f vs):=
 L2.xW (n:=63) (k:=27) (x:="_law_script") (CX:=λ_=>qE) (sp:=λw=>xG (K w.params) FR) hn (by decide) hdf ⟨rfl,by decide,by decide,rfl⟩ hY F (λ_ _ a ns hl _ hS=>Cs hS (xF ns hl)) λ_ _ _ _ _ z=>z
end K73
open PySem PySem.W PyProof.Rows
set_option maxRecDepth 100000 in
set_option maxHeartbeats 0 in
theorem PySem.Challenge.cw_gatepapers_k73_ways_that_show_holds : PySem.Challenge.rw_gatepapers_k73_ways_that_show.Holds := by
 refine holds_law (by kernel_rfl) λsaid=>?_;refine holds_open (d:=⟨"law",L2.du K73.wM,L2.bH K73.wM,L2.ab K73.wM,K73.C9⟩) (kwd:=[]) (q:=K73.qv) (loose:=K73.lo) (XP:=XL K73.qv []) (YP:=Hook.says K73.HH) K73.left (Hook.of K73.HH) (Hook.keeps K73.HH) (λs e=>xl_of s (MV.mp e).1) XL.keeps (by kernel_rfl) (by kernel_rfl) (by kernel_rfl) (λs e=>recFacts_of (MV.mp e).2) (by kernel_rfl) said (by kernel_rfl) ⟨rfl,rfl,rfl,rfl,rfl,by kernel_rfl⟩ ?hw ?hc
 case hw=>w_witness2
 case hc=>
  refine K73.Jt (l:=PySem.Challenge.rw_gatepapers_k73_ways_that_show) rfl rfl (λw h Y=>PySem.W.kIn_of Y) ?F;intro w mg fa h KX G hmg;exact K73.Da KX G hmg
end
