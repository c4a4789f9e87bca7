import PyProof.Rows.All
import Wide.All
import OpenK.AllK
import Wide.FinOn
import PyProof.TupleKey
import Lean
import PyProof.EqAt
import PyProof.EqKinds
import PyProof.TupleCall
import KE.KRevSl
import KE.KUnpack
import PyProof.SumAny
import PyProof.WalksS
import PyProof.NeKinds
import PyProof.ZipIter
import PyProof.WalkInts
import PyProof.AttrMissHeap
import KE.KDictOf
import PyProof.ListRange
import PyProof.StrWalks
import PyProof.StrOps2
import PyProof.Rows.SetFrom
import PyProof.P3Eq
import PyProof.NeData
import PyProof.P3In
import PyProof.IsRules
import PyProof.ReprRoads
import PyProof.ReprBulk
import PyProof.ReprRoom
import PyProof.CallFns
import KE.BitLaws
import PySem.Challenge.RW_gatepapers_k55_changed_and_judged
set_option Elab.async false
set_option linter.all false
set_option maxRecDepth 100000
set_option autoImplicit true
set_option relaxedAutoImplicit true
set_option genInjectivity false
set_option genSizeOf false
set_option genSizeOfSpec false
set_option maxHeartbeats 4000000
noncomputable section
open PySem.W renaming Frag->Ka,kia_one->KZ,keepIn->K3,kitOne->La,fnOf->Lh,findIn->Lv,nsIn->LL,codeIn->LR,methodObj->LX,instObj->L6,cellsFrom_some->Mc,lookIn->Mg,specialIn->MA,kitx_list->MB,kitx_dict->MC,plainGet->MJ,isFn->MV
open List renaming getElem?_eq_some_iff->Kb,length_map->Kc,getElem?_map->Kf,getElem?_eq_getElem->Kg,range->Kh,mem_cons->Kn,size_toArray->Ko,mem_cons_of_mem->Kp,map_append->Kq,getD_eq_getElem?_getD->Kr,getElem?_append_left->Ks,getElem?_set_ne->Kv,mem_of_getElem?->Kw,length_range->Kx,mem_append_right->Ky,getElem?_set_self->Kz,mem_cons_self->KA,lookup_cons->KG,map_map->KH,filterMap_cons->KL,map_cons->KM,getElem?_range->KN,all_eq_true->KO,getElem?_append_right->KP,length_take->KQ,nodup_cons->KR,length_cons->KS,findIdx?_cons->KU,mem_map->KW,getElem?_eq_none->KY,mem_singleton->K0,not_mem_nil->K1,length_append->K5,map->K6,take_length->K7,take_add_one->K8,mem_append->Lb,getElem?_mapIdx->Lc,map_congr_left->Lg,find?_cons->Lj,mem_append_left->Lk,drop_eq_getElem_cons->Ll,getElem_mem->Lo,cons_append->Lp,all_cons->Lq,findIdx?_map->Ls,mem_range->Lu,mem_iff_getElem?->Lx,getElem?_eq_none_iff->LB,mem_or_eq_of_mem_set->LD,reverse_cons->LH,append_nil->LK,mem_map_of_mem->LQ,mem_filterMap->LS,getElem?_replicate->L4,length_eq_zero_iff->L5,of_mem_zip->L7,length_nil->L8,range_succ->L9,lookup->Me,length_replicate->Mh,take_append_drop->Mj,findIdx?_isSome->Ml,any_cons->Mn,map_nil->Mr,set_cons_succ->Mu,length_mapIdx->My,any_eq_false->Mz,ext_getElem?->MF,foldl_append->MG,length->MH,length_drop->MK,drop_length->MN,mem_filter->MP,length_set->MQ,forIn_cons->MS
open Bool renaming and_eq_true->Ke,false_ne_true->K4,false_eq_true->K9,or_eq_true->Lr,and_eq_true_iff->LN,not_true->LV,not_eq_true'->L0,eq_iff_iff->MU
open Nat renaming le_refl->Ki,lt_of_lt_of_le->Km,ne_of_lt->KB,le_trans->KF,pow_le_pow_right->KI,zero_le->KJ,lt_irrefl->Ld,lt_of_le_of_lt->Li,ne_of_gt->Lm,le_add_right->Ln,sub_self->Lw,lt_succ_self->Ly,le_succ->LA,two_pow_pos->LC,lt_trans->LF,add_assoc->LI,pow_succ->LO,le_of_succ_le->LY,lt_succ_of_lt->LZ,le_of_lt->L1,not_lt_zero->Ma,pow_add->Mf,add_le_add_right->Mm,mul_assoc->Mo,add_le_add_left->Mp,xor_lt_two_pow->Mv,lt_of_not_le->MM
open PySem.Heap renaming get?_push_of_some->Kj,lt_size->Kl,get?_push_size->Ku,size_push->LG,get?_update_self->LJ,get?_update_other->Md
open Int renaming toNat_natCast->KC,fdiv_eq_ediv_of_nonneg->Lz,emod_lt_of_pos->LU,fmod_eq_emod_of_nonneg->LW,emod_nonneg->Mb,sub_zero->Mt,zero_add->Mw,natAbs_natCast->Mx
open Option renaming bind_some->K2,bind_eq_some_iff->Lf,map_some->LM,getD_none->L3,isSome_some->Ms,isSome_map->MD,getD_some->ML
open Array renaming length_toList->LP,getElem?_toList->Mi,forIn_toList->Mq
namespace PySem
open Sem (wp)
section
variable {prog:Program} {w:World} {K:Type} [DecidableEq K] (knd:KeyKind prog w K)
inductive Its2 (h:Heap):Nat->List (K ⊕ List K)->List Value->Prop
 |nil {m:Nat}:Its2 h m [] []
 |key {m:Nat} {k:K} {v:Value} {xs:List (K ⊕ List K)} {vs:List Value}:m%2=0->knd.is k v=true->Its2 h (m / 2) xs vs->Its2 h m (.inl k::xs) (v::vs)
 |tup {m:Nat} {ks:List K} {b:Addr} {xs:List (K ⊕ List K)} {vs:List Value}:m%2=1->IsTupleKey knd h ks b->Its2 h (m / 2) xs vs->Its2 h m (.inr ks::xs) (.ref b::vs)
noncomputable def IsDeep(m:Nat)(h:Heap)(xs:List (K ⊕ List K))(a:Addr):Prop:=∃o items n,h.get? a=some o/\o.cls=.type "tuple"/\o.data=.seq items n/\Its2 knd h m xs items.toList
noncomputable def du:K ⊕ List K->Int
 |.inl k=>knd.hash k
 |.inr ks=>tupleKeyHash knd ks
noncomputable def cr:K ⊕ List K->Nat
 |.inl _=>1
 |.inr ks=>ks.length+1
noncomputable def jn(xs:List (K ⊕ List K)):Int:=reduceHash (Builtin.Tuple.tupleHashOf (xs.map (du knd)))
variable {knd}
theorem Its2.inj{m:Nat}(hx:Its2 knd h m x vs)(hy:Its2 knd h m y vs):x=y:=by
 induction hx generalizing y with
 |nil=>cases hy;rfl
 |key e h1 _ ih=>
  cases hy with
  |key _ h2 t2=>rw[knd.inj _ _ _ h1 h2,ih t2]
  |tup e2 _ _=>lia
 |tup e h1 _ ih=>
  cases hy with
  |key e2 _ _=>lia
  |tup _ h2 t2=>rw[h1.inj h2,ih t2]
theorem Its2.keeps{m:Nat}(k:∀ks b,IsTupleKey knd h ks b->IsTupleKey knd h' ks b)(hx:Its2 knd h m x vs):Its2 knd h' m x vs:=by
 induction hx with
 |nil=>exact .nil
 |key e h1 _ ih=>exact .key e h1 ih
 |tup e h1 _ ih=>exact .tup e (k _ _ h1) ih
theorem IsDeep.ty{s:Shared}{m:Nat}(x:IsDeep knd m s.heap xs a):s.TypeIs (.ref a) "tuple":=by
 unfold IsDeep at x;rcases x with⟨o,_,_,g,c,_⟩;exact⟨o,g,c⟩
theorem IsDeep.one{m:Nat}(p:IsDeep knd m h x a)(q:IsDeep knd m h y a):x=y:=by
 unfold IsDeep at p q;rcases p with⟨o,i,n,g,_,d,r⟩;rcases q with⟨o2,i2,n2,g2,_,d2,r2⟩;cases g.symm.trans g2;cases d.symm.trans d2;exact r.inj r2
theorem IsDeep.stay{h h':Heap}{m:Nat}{o:Obj}{es ep}(x:IsDeep knd m h xs a)(g:h.get? d=some o)(e:o.data=.dict es ep)(q:Heap.SameBut d h h'):IsDeep knd m h' xs a:=by
 unfold IsDeep at x⊢;rcases x with⟨o2,i,n,g2,c,d2,r⟩;refine⟨o2,i,n,?_,c,d2,r.keeps λks b z=>z.keeps g e q⟩;refine(q.2 a λz=>?_).trans g2;rw[z,g] at g2;cases g2;rw[e] at d2;cases d2
variable {A:Around} {E:Value->Shared->Prop} {s:Shared}
theorem gm{m:Nat}{xs:List (K ⊕ List K)}{Q:Int->Shared->Prop}(hu:A.units+8<cLine)(hk:IsDeep knd m s.heap xs a)(h:Q (jn knd xs) { s with toks:=s.toks+((xs.map cr).sum+1) }) :
  wpAny (model prog w) A (pyHash (.ref a)) Q E s:=by
 have ty:=hk.ty;have lk:=F.slot_tuple_hash.lookup;rcases hk with⟨o,its,n,g,c,d,r⟩
 have turn:∀(rest:List Value) (b:Array Int) (z:Shared) (v:Value),(∃done left m',xs=done++left/\Its2 knd s.heap m' left (v::rest)/\b.toList=done.map (du knd)/\z={ s with toks:=s.toks+(done.map cr).sum })->
   ∃i k,(∀(A:Around) (R:Int->Shared->Prop),A.units<cLine->R i { z with toks:=z.toks+k }->wpAny (model prog w) A (pyHash v) R E z)/\∃done left m',xs=done++left/\Its2 knd s.heap m' left rest/\(b.push i).toList=done.map (du knd)/\{ z with toks:=z.toks+k }={ s with toks:=s.toks+(done.map cr).sum }:=by
  rintro rest b z v ⟨done,left,m',e,it,eb,rfl⟩
  cases it with
  |@key _ k _ left' _ _ h1 it'=>
   exact⟨knd.hash k,1,λA R _ q=>knd.pyHash h1 q,done++[.inl k],left',m' / 2,by simp[e],it',by simp[eb,du],by simp[cr,LI]⟩
  |@tup _ ks _ left' _ _ h1 it'=>
   exact⟨tupleKeyHash knd ks,ks.length+1,λA R u q=>wpAny_pyHash_tuple (knd:=knd) u h1 q,done++[.inr ks],left',m' / 2,by simp[e],it',by simp[eb,du],by simp[cr,LI]⟩
 unfold pyHash
 first|unfold pyHashByItsType|skip
 first|refine wpAny_bind (wpAny_cRoomFor_or (.inr (by lia)) ?_)|skip
 refine wpAny_bind (wpAny_specialOf ty lk ((if_neg (show ¬(some (Value.builtin "tuple.__hash__")==some Value.none)=true by rw[beq_builtin_none];exact K4)).symm▸wpAny_bind (wpAny_specialOf ty lk (wpAny_bind (wpAny_callSpecialIfBoundUnlessNone?_slot ty F.slot_tuple_hash (wpAny_call_entry F.slot_tuple_hash ty F.entry_tuple_hash (show wpAny _ _ (Builtin.Tuple.tupleItemsOf (.ref a) >>= _) _ _ s from wpAny_bind (wpAny_tupleItemsOf g d (wpAny_bind ?_))) (F.args_tuple_hash_1 _)))))));rw[<- Mq];refine wpAny_forIn_list _ (λrest (b:Array Int) z=>∃done left m',xs=done++left/\Its2 knd s.heap m' left rest/\b.toList=done.map (du knd)/\z={ s with toks:=s.toks+(done.map cr).sum }) _ (λv rest b z hz=>?_) (λb z hz=>?_) _ _ ⟨[],xs,m,rfl,r,rfl,rfl⟩
 ·obtain⟨i,k,run,nxt⟩:=turn rest b z v hz
  exact wpAny_bind (run _ _ (by first|lia|(show _+1<_;lia)) (by first|exact wpAny_pure nxt|exact wpAny_bind (wpAny_pure (wpAny_pure nxt))))
 ·obtain⟨done,left,m',e,it,eb,rfl⟩:=hz;cases it;have e':done=xs:=by rw[e,LK]
  subst e';show wpAny _ _ (retInt (Builtin.Tuple.tupleHashOf b.toList)) _ _ _;rw[eb];refine wpAny_ret_mkInt ?_;unfold jn reduceHash at h;generalize Builtin.Tuple.tupleHashOf (done.map (du knd))=y at h⊢
  show wpAny _ _ (if(decide (-(2:Int)^63<=y)&&decide (y<2^63))=true then _ else _) Q E _
  split
  ·rename_i hr;rw[if_pos hr] at h;exact wpAny_pure (by simpa[LI] using h)
  ·rename_i hr;rw[if_neg hr] at h;exact wpAny_bind (wpAny_rule (wpAny_pure (by simpa[LI] using h)))
theorem Its2.two{h:Heap}{m:Nat}{us vs:List Value}(p:Its2 knd h m x us)(q:Its2 knd h m y vs)(z:(u,v)::rest=us.zip vs) :
  ∃(i j:K ⊕ List K) (x2 y2:List (K ⊕ List K)) (us2 vs2:List Value),x=i::x2/\y=j::y2/\us=u::us2/\vs=v::vs2/\Its2 knd h (m / 2) x2 us2/\Its2 knd h (m / 2) y2 vs2/\rest=us2.zip vs2/\
   ∀(A:Around) (E:Value->Shared->Prop) (s:Shared) (Q:Bool->Shared->Prop),s.heap=h->A.units<cLine->Q (decide (i=j)) s->wpAny (model prog w) A (eqBool u v) Q E s:=by
 cases p with
 |nil=>cases z
 |@key _ k1 u' x2 us2 e h1 p2=>
  cases q with
  |nil=>cases z
  |@key _ k2 v' y2 vs2 e2 h2 q2=>
   cases z;exact⟨_,_,_,_,_,_,rfl,rfl,rfl,rfl,p2,q2,rfl,λA E s Q es u qq=>knd.eqBool h1 h2 (by simpa using qq)⟩
  |tup e2 _ _=>lia
 |@tup _ k1 b1 x2 us2 e h1 p2=>
  cases q with
  |nil=>cases z
  |key e2 _ _=>lia
  |@tup _ k2 b2 y2 vs2 e2 h2 q2=>
   cases z;exact⟨_,_,_,_,_,_,rfl,rfl,rfl,rfl,p2,q2,rfl,λA E s Q es u qq=>wpAny_eqBool_tuple u (es▸h1) (es▸h2) (by simpa using qq)⟩
theorem Its2.ends{m:Nat}{us vs:List Value}(p:Its2 knd h m x us)(q:Its2 knd h m y vs)(z:us.zip vs=[]):(us.length==vs.length)=decide (x=y):=by
 cases p<;>cases q<;>first|rfl|(simp at z;done)|simp
theorem lF{m:Nat}{P:Fin->Shared->Prop}(hu:A.units+4<cLine)(hx:IsDeep knd m s.heap x a)(hy:IsDeep knd m s.heap y b)(h:P (.done (.ret (.bool (decide (x=y))))) s) :
  wpAny (model prog w) A (Builtin.«tuple.__eq__» ⟨[.ref a,.ref b],[]⟩) P E s:=by
 have ty:=hy.ty;rcases hx with⟨o,us,n,g,c,d,p⟩;rcases hy with⟨o2,vs,n2,g2,c2,d2,q⟩;refine(show wpAny _ _ (isInstance (.ref b) (.type "tuple") >>= _) _ _ s from wpAny_bind (wpAny_isInstance ty isSubtype_tuple_tuple ?_));simp only[LV,K9,if_false];refine wpAny_bind (wpAny_tupleItemsOf g d (wpAny_bind (wpAny_tupleItemsOf g2 d2 (wpAny_bind ?_))));refine wpAny_forIn_list _ (λrest r z=>r.1=none/\z=s/\∃m' x' y' us' vs',rest=List.zip us' vs'/\Its2 knd s.heap m' x' us'/\Its2 knd s.heap m' y' vs'/\decide (x'=y')=decide (x=y)/\(us'.length==vs'.length)=(us.size==vs.size))
  _ (λuv rest r z hz=>?_) (λr z hz=>?_) _ _ ⟨rfl,rfl,m,x,y,us.toList,vs.toList,rfl,p,q,rfl,by simp⟩
 ·obtain⟨u,v⟩:=uv;obtain⟨hr,rfl,m',x',y',us',vs',e,p',q',hd,hl⟩:=hz;obtain⟨i,j,x2,y2,us2,vs2,rfl,rfl,rfl,rfl,p2,q2,rfl,run⟩:=p'.two q' e;refine wpAny_bind (run _ _ _ _ rfl (by lia) ?_)
  cases hk:decide (i=j) with
  |true=>
   have hk:=of_decide_eq_true hk;subst hk;simp only[LV,K9,if_false];exact wpAny_pure ⟨rfl,rfl,m' / 2,x2,y2,us2,vs2,rfl,p2,q2,hd▸by simp,by simpa using hl⟩
  |false=>
   have hk:=of_decide_eq_false hk;simp only[Bool.not_false,if_true];have hf:decide (x=y)=false:=hd▸by simp[hk]
   exact wpAny_bind (wpAny_pure (wpAny_pure (wpAny_pure (hf▸h))))
 ·obtain⟨r1,r2⟩:=r;obtain⟨hr,rfl,m',x',y',us',vs',e,p',q',hd,hl⟩:=hz;cases(show r1=none from hr);refine wpAny_pure ?_;show P (.done (.ret (.bool (us.size==vs.size)))) z;rw[<- hl,p'.ends q' e.symm,hd];exact h
theorem gp{m:Nat}{Q:Bool->Shared->Prop}(hu:A.units+8<cLine)(hx:IsDeep knd m s.heap x a)(hy:IsDeep knd m s.heap y b)(h:Q (decide (x=y)) s) :
  wpAny (model prog w) A (eqBool (.ref a) (.ref b)) Q E s:=by
 unfold eqBool
 try with_reducible refine wpAny_holding ?_
 refine(show wpAny _ _ (if(Value.ref a==Value.ref b)=true then _ else _) Q E s from ?_)
 split
 ·rename_i hab;cases eq_of_beq hab;cases hx.one hy;exact wpAny_bind (wpAny_rule (wpAny_pure (by simpa using h)))
 ·have tree:=lF (E:=E) (A:=A.in1) (P:=λfin s'=>∃v,fin=Fin.done (Flow.ret v)/\v≠.notImplemented/\wpAny (model prog w) A (truthOfDropped v) Q E s') (by show A.units+1+4<cLine;lia) hx hy ⟨_,rfl,(λe=>nomatch e),wpAny_truthy_bool h⟩
  exact wpAny_bind (wpAny_richCompare_same_room (op:=.Eq) hx.ty hy.ty F.slot_tuple_eq (wpAny_call_entry F.slot_tuple_eq hx.ty F.entry_tuple_eq tree (F.args_tuple_eq_2 _ _)) (by lia))
theorem mB{n:Nat}{o:Obj}{its:Array Value}{ep:Nat}{Q:Bool->Shared->Prop}(g:s.heap.get? a=some o)(c:o.cls=.type "tuple")(d:o.data=.seq its ep)(hi:∀v∈its.toList,∀R:Bool->Shared->Prop,R true s->wpAny (model prog w) A (eqIsQuiet n v) R E s)(q:Q true s) :
  wpAny (model prog w) A (eqIsQuiet (n+1) (.ref a)) Q E s:=by
 have ty:s.TypeIs (.ref a) "tuple":=⟨o,g,c⟩;unfold eqIsQuiet;refine wpAny_bind (wpAny_specialOf ty F.slot_tuple_eq.lookup (show wpAny _ _ (isInstance (.ref a) (.type "tuple") >>= _) _ _ s from wpAny_bind (wpAny_isInstance ty isSubtype_tuple_tuple ?_)));simp only[LV,K9,if_false];refine wpAny_bind (wpAny_seqItems g d (wpAny_bind (show wpAny _ _ (forIn its _ _) _ _ s from ?_)));rw[<- Mq];refine wpAny_forIn_list _ (λrest r z=>r.1=none/\z=s/\∀v∈rest,v∈its.toList) _ (λv rest r z hz=>?_) (λr z hz=>?_) _ _ ⟨rfl,rfl,λv hv=>hv⟩
 ·obtain⟨hr,rfl,hm⟩:=hz;refine wpAny_bind (hi v (hm v KA) _ ?_);simp only[LV,K9,if_false];exact wpAny_pure ⟨rfl,rfl,λu hu=>hm u (Kp _ hu)⟩
 ·obtain⟨r1,r2⟩:=r;obtain⟨hr,rfl,_⟩:=hz;cases(show r1=none from hr);exact wpAny_pure q
theorem Its2.items{m:Nat}{vs:List Value}(p:Its2 knd h m x vs):∀v∈vs,(∃k,knd.is k v=true)\/∃ks b,v=.ref b/\IsTupleKey knd h ks b:=by
 induction p with
 |nil=>intro v hv;cases hv
 |key _ h1 _ ih=>intro v hv;exact(Kn.mp hv).elim (λe=>.inl ⟨_,e▸h1⟩) (ih v)
 |tup _ h1 _ ih=>intro v hv;exact(Kn.mp hv).elim (λe=>.inr ⟨_,_,e,h1⟩) (ih v)
theorem og{m:Nat}{Q:Bool->Shared->Prop}(hk:IsDeep knd m s.heap xs a)(h:Q true s):wpAny (model prog w) A (eqIsQuiet 8 (.ref a)) Q E s:=by
 rcases hk with⟨o,its,n,g,c,d,r⟩;refine mB (n:=7) g c d (λv hv R q=>?_) h;rcases r.items v hv with⟨k,e⟩|⟨ks,b,rfl,o2,its2,n2,g2,c2,d2,r2⟩
 ·rw[eqIsQuiet_byValue _ (knd.byValue _ _ e)];exact wpAny_pure q
 ·refine mB (n:=6) g2 c2 d2 (λv hv R q=>?_) q;rw[eqIsQuiet_byValue _ (r2.byValue v hv)];exact wpAny_pure q
end
noncomputable def cG{prog:Program}{w:World}{K:Type}[DecidableEq K](m:Nat)(knd:KeyKind prog w K):HeapKind prog w (List (K ⊕ List K)) where
 is:=IsDeep knd m
 hash:=jn knd
 draws:=λxs=>(xs.map cr).sum+1
 room:=λA=>A.units+8<cLine
 inj:=λp q=>p.one q
 keeps:=λx g e q=>x.stay g e q
 pyHash:=λhu hk h=>gm hu hk h
 eqBool:=λhu hx hy h=>gp hu hx hy h
 quiet:=λhk h=>og hk h
end PySem
namespace L2
open PySem PySem.Spec PyProof.Rows
noncomputable abbrev aI:=Sum Int Str
noncomputable def kO:aI->Value->Bool
 |.inl k,v=>Value.isInt k v
 |.inr x,v=>Value.isStrOf x v
noncomputable def Gi(w:World):aI->Int
 |.inl k=>hashInt k
 |.inr x=>hashStr w x
theorem bu:∀{k:aI} {v:Value},kO k v=true->(∃i t,k=Sum.inl i/\v=Value.int i t)\/(∃x t,k=Sum.inr x/\v=Value.str x t)
 |.inl i,v,h=>by
  obtain⟨t,e⟩:=Value.isInt_shape (k:=i) (v:=v) h;exact .inl ⟨i,t,rfl,e⟩
 |.inr x,v,h=>by
  obtain⟨t,e⟩:=Value.isStrOf_shape (x:=x) (v:=v) h;exact .inr ⟨x,t,rfl,e⟩
theorem q0(i:Int)(t:Tok):kO (.inl i) (.int i t)=true:=by simp[kO,Value.isInt]
theorem q8(x:Str)(t:Tok):kO (.inr x) (.str x t)=true:=by simp[kO,Value.isStrOf]
theorem zG(a b:Int):decide ((Sum.inl a:aI)=Sum.inl b)=(a==b):=by
 by_cases e:a=b
 ·subst e;simp
 ·have h:¬(Sum.inl a:aI)=Sum.inl b:=λq=>e (Sum.inl.inj q);rw[decide_eq_false h];exact(beq_eq_false_iff_ne.mpr e).symm
theorem zH(a b:Str):decide ((Sum.inr a:aI)=Sum.inr b)=decide (a=b):=by
 by_cases e:a=b
 ·subst e;simp
 ·have h:¬(Sum.inr a:aI)=Sum.inr b:=λq=>e (Sum.inr.inj q);rw[decide_eq_false h,decide_eq_false e]
theorem zI(a:Int)(b:Str):decide ((Sum.inl a:aI)=Sum.inr b)=false:=decide_eq_false (λq=>nomatch q)
theorem zJ(a:Str)(b:Int):decide ((Sum.inr a:aI)=Sum.inl b)=false:=decide_eq_false (λq=>nomatch q)
noncomputable def a9(prog:Program)(w:World):PySem.KeyKind prog w aI where
 is:=kO
 hash:=Gi w
 inj:=λv a b ha hb=>by
  rcases bu ha with⟨i,t,rfl,rfl⟩|⟨x,t,rfl,rfl⟩
  ·rcases bu hb with⟨j,u,rfl,e⟩|⟨y,u,rfl,e⟩
   ·injection e with e1 _;rw[e1]
   ·exact nomatch e
  ·rcases bu hb with⟨j,u,rfl,e⟩|⟨y,u,rfl,e⟩
   ·exact nomatch e
   ·injection e with e1 _;rw[e1]
 byValue:=λk v h=>by
  rcases bu h with⟨i,t,rfl,rfl⟩|⟨x,t,rfl,rfl⟩<;>rfl
 pyHash:=λhv h=>by
  rcases bu hv with⟨i,t,rfl,rfl⟩|⟨x,t,rfl,rfl⟩
  ·exact wpAny_pyHash_int h
  ·exact wpAny_pyHash_str h
 eqBool:=λhu hv h=>by
  rcases bu hu with⟨i,t,rfl,rfl⟩|⟨x,t,rfl,rfl⟩
  ·rcases bu hv with⟨j,u,rfl,rfl⟩|⟨y,u,rfl,rfl⟩
   ·rw[zG] at h;exact wpAny_eqBool_int h
   ·rw[zI] at h;exact SeqAt.EqAt.int_str i t y u _ _ _ _ h
  ·rcases bu hv with⟨j,u,rfl,rfl⟩|⟨y,u,rfl,rfl⟩
   ·rw[zJ] at h;exact SeqAt.EqAt.str_int x t j u _ _ _ _ h
   ·rw[zH] at h;exact wpAny_eqBool_str h
 «strs»:=λk x t v h=>by
  rcases bu h with⟨i,u,rfl,e⟩|⟨y,u,rfl,e⟩
  ·exact nomatch e
  ·injection e with e1 _;subst e1
   cases v<;>rfl
theorem mC(prog:Program)(w:World)(i:Int)(t:Tok):(a9 prog w).is (.inl i) (.int i t)=true:=q0 i t
theorem mE(prog:Program)(w:World)(x:Str)(t:Tok):(a9 prog w).is (.inr x) (.str x t)=true:=q8 x t
end L2
namespace L2
open PySem PySem.Spec PyProof.Rows
inductive V where
 |non|bl (b:Bool)|int (i:Int)|str (x:Str)|byt (b:Array UInt8)|flt (b:UInt64)|ref (a:Addr)|ty (n:String)
 deriving DecidableEq
noncomputable def RelV:V->Value->Prop
 |.non,u=>u=Value.none
 |.bl b,u=>u=Value.bool b
 |.int i,u=>∃t,u=Value.int i t
 |.str x,u=>∃t,u=Value.str x t
 |.byt b,u=>∃t,u=Value.bytes b t
 |.flt b,u=>∃t,u=Value.float b t
 |.ref a,u=>u=Value.ref a
 |.ty n,u=>u=Value.type n
noncomputable abbrev Vals:List V->List Value->Prop:=Paired RelV
theorem Vals.length{xs:List V}{us:List Value}(r:Vals xs us):xs.length=us.length:=Paired.length r
theorem Vals.get:∀{xs:List V} {us:List Value} {i:Nat} {x:V},Vals xs us->xs[i]?=some x->∃u,us[i]?=some u/\RelV x u
 |_,_,_,_,.nil,e=>by simp at e
 |_,_,0,_,.cons r _,e=>by simp at e;subst e;exact⟨_,rfl,r⟩
 |_,_,i+1,x,.cons _ t,e=>by
  obtain⟨u,h1,h2⟩:=Vals.get (i:=i) (x:=x) t (by simpa using e);exact⟨u,by simpa using h1,h2⟩
theorem Vals.set(r:RelV x u):∀{xs:List V} {us:List Value} (i:Nat),Vals xs us->Vals (xs.set i x) (us.set i u)
 |_,_,_,.nil=>.nil
 |_,_,0,.cons _ t=>.cons r t
 |_,_,i+1,.cons q t=>.cons q (Vals.set r i t)
theorem Vals.append:∀{xs ys:List V} {us ws:List Value},Vals xs us->Vals ys ws->Vals (xs++ys) (us++ws)
 |_,_,_,_,.nil,s=>s
 |_,_,_,_,.cons r t,s=>.cons r (Vals.append t s)
theorem Vals.take:∀{xs:List V} {us:List Value} (n:Nat),Vals xs us->Vals (xs.take n) (us.take n)
 |_,_,0,_=>.nil
 |_,_,_+1,.nil=>.nil
 |_,_,n+1,.cons r t=>.cons r (Vals.take n t)
theorem Vals.drop:∀{xs:List V} {us:List Value} (n:Nat),Vals xs us->Vals (xs.drop n) (us.drop n)
 |_,_,0,r=>r
 |_,_,_+1,.nil=>.nil
 |_,_,n+1,.cons _ t=>Vals.drop n t
theorem Vals.none_of:∀{xs:List V} {us:List Value} {i:Nat},Vals xs us->xs[i]?=none->us[i]?=none:=λ{xs us i} r e=>by
 have h1:=r.length;have h2:xs.length<=i:=LB.mp e;exact LB.mpr (by lia)
noncomputable def RelO:Option V->Option Value->Prop
 |some v,some u=>RelV v u
 |none,none=>True
 |_,_=>False
noncomputable def KV{κ:Type}:List (κ×V)->List (κ×Value)->Prop:=Paired λ(p:κ×V) (q:κ×Value)=>p.1=q.1/\RelV p.2 q.2
noncomputable def kV:aI->V
 |.inl i=>.int i
 |.inr x=>.str x
inductive HO where
 |lst (xs:List V)
 |tup (xs:List V)
 |dK (kvs:List (aI×V))|dT (m ep:Nat) (kvs:List (List (aI ⊕ List aI)×V))
 |set (S:Int->Bool) (n:Nat)
 |ins (C dx:Addr) (fs:List (Str×V))
 |own (x:Addr)
 |xd (fs:List (Str×V))
 |met (f x:Addr)
 |rng (lo hi:Int)
 |frz (o:Obj) (u:HO)
 |tbl (ps:Array Value)
 |ext (φ:Heap->Prop)
noncomputable abbrev Hp:=Addr->Option HO
noncomputable def upd(H:Hp)(a:Addr)(o:HO):Hp:=λb=>if b=a then some o else H b
theorem aG:upd H a o a=some o:=by unfold upd;rw[if_pos rfl]
theorem am{H:Hp}(h:b≠a):upd H a o b=H b:=by unfold upd;rw[if_neg h]
theorem yN{H:Hp}{a b:Addr}{o u:HO}(h:H a=some o)(h':H b=some u)(d:o≠u):a≠b:=by
 intro e;subst e;rw[h] at h';exact d (Option.some.inj h')
theorem av{H:Hp}{a b:Addr}{o:HO}(h:H a=some o)(h':H b=none):a≠b:=by
 intro e;subst e;rw[h] at h';cases h'
noncomputable def TkIts(H:Hp):Nat->List (aI ⊕ List aI)->List V->Prop
 |_,[],vs=>vs=[]
 |m,.inl k::xs,vs=>∃r,vs=kV k::r/\m%2=0/\TkIts H (m / 2) xs r
 |m,.inr ks::xs,vs=>∃b r,vs=.ref b::r/\m%2=1/\H b=some (.tup (ks.map kV))/\TkIts H (m / 2) xs r
noncomputable def TkAt(H:Hp)(m:Nat)(ks:List (aI ⊕ List aI))(b:Addr):Prop:=∃vs,H b=some (.tup vs)/\TkIts H m ks vs
theorem TkIts.keep{H H':Hp}(ht:∀b xs,H b=some (.tup xs)->H' b=some (.tup xs)):∀{m:Nat} {ks:List (aI ⊕ List aI)} {vs:List V},TkIts H m ks vs->TkIts H' m ks vs
 |_,[],_,h=>h
 |m,.inl k::xs,vs,h=>by obtain⟨r,e,z,t⟩:=h;exact⟨r,e,z,t.keep ht⟩
 |m,.inr ks::xs,vs,h=>by obtain⟨b,r,e,z,g,t⟩:=h;exact⟨b,r,e,z,ht _ _ g,t.keep ht⟩
theorem TkAt.keep{H H':Hp}{m:Nat}{b:Addr}(x:TkAt H m ks b)(ht:∀b xs,H b=some (.tup xs)->H' b=some (.tup xs)):TkAt H' m ks b:=by
 obtain⟨vs,g,r⟩:=x;exact⟨vs,ht _ _ g,r.keep ht⟩
section
variable (P:Program) (w:World)
noncomputable def ObjOk(H:Hp)(h:Heap)(a:Addr):HO->Prop
 |.lst xs=>xs.length<=sizeLine/\∃(its:List Value) (n:Nat),Vals xs its/\h.get? a=some { cls:=.type "list",data:=.seq its.toArray n }
 |.tup xs=>xs.length<=sizeLine/\∃its:List Value,Vals xs its/\IsTup h a its.toArray
 |.dK kvs=>kvs.length<=sizeLine/\(a==sysModules)=false/\∃vs,KV kvs vs/\h.DictOf (a9 P w) a vs
 |.dT m ep kvs=>kvs.length<=sizeLine/\(a==sysModules)=false/\∃xs:List (List (aI ⊕ List aI)×Addr×Value),
   Paired (λ(p:List (aI ⊕ List aI)×V) (q:List (aI ⊕ List aI)×Addr×Value)=>p.1=q.1/\TkAt H m p.1 q.2.1/\RelV p.2 q.2.2) kvs xs/\
   ∃o es,h.get? a=some o/\o.ExactDict/\o.data=.dict es ep/\es.toList=xs.map (entryOfKey (cG m (a9 P w)))/\(xs.map (·.1)).Nodup
 |.set S n=>h.SetOf (intKind P w) a S n
 |.ins C dx fs=>H dx=some (.own a)/\fs.length<=1000/\dx≠a/\h.get? a=some (L6 C dx)/\
   ∃mA,h.Ns1 dx mA/\(∀f,RelO (fs.lookup f) (mA f))/\PySem.Within mA (fs.map (·.1))
 |.own _=>∃o,h.get? a=some o
 |.xd fs=>∃mA,h.Ns1 a mA/\∀f,RelO (fs.lookup f) (mA f)
 |.rng lo hi=>∃t u v,h.get? a=some { cls:=.type "range",data:=.fields #[.int lo t,.int hi u,.int 1 v] }
 |.frz o u=>h.get? a=some o/\ObjOk H h a u
 |.tbl ps=>h.get? a=some { cls:=.none,data:=.fields ps }
 |.met f x=>h.get? a=some (LX (.ref f) (.ref x))
 |.ext φ=>φ h/\(∃o,h.get? a=some o)/\∀h1 h2:Heap,φ h1->(∀o,h1.get? a=some o->h2.get? a=some o)->φ h2
noncomputable def HOk(H:Hp)(h:Heap):Prop:=∀a o,H a=some o->ObjOk P w H h a o
end
section
variable {P:Program} {w:World} {H H':Hp} {h h':Heap} {a:Addr} {o:HO}
theorem ObjOk.lt(x:ObjOk P w H h a o):a<h.objs.size:=by
 cases o with
 |lst xs=>obtain⟨_,_,_,_,e⟩:=x;exact Kl e
 |tup xs=>obtain⟨_,_,_,p⟩:=x;exact p.lt
 |dK kvs=>obtain⟨_,_,_,_,o,_,_,e,_⟩:=x;exact Kl e
 |dT m ep kvs=>obtain⟨_,_,_,_,o,_,e,_⟩:=x;exact Kl e
 |set S n=>obtain⟨o,_,_,_,e,_⟩:=x;exact Kl e
 |ins C dx fs=>obtain⟨_,_,_,e,_⟩:=x;exact Kl e
 |own y=>obtain⟨_,e⟩:=x;exact Kl e
 |xd fs=>obtain⟨_,⟨_,_,_,e,_⟩,_⟩:=x;exact Kl e
 |rng lo hi=>obtain⟨_,_,_,e⟩:=x;exact Kl e
 |frz ob u=>obtain⟨e,_⟩:=x;exact Kl e
 |tbl ps=>exact Kl (show h.get? a=some _ from x)
 |met f y=>exact Kl (show h.get? a=some _ from x)
 |ext φ=>obtain⟨_,⟨_,e⟩,_⟩:=x;exact Kl e
theorem Paired.mapP{α β:Type}{F G:α->β->Prop}:∀{l₁:List α} {l₂:List β},Paired F l₁ l₂->(∀a b,F a b->G a b)->Paired G l₁ l₂
 |_,_,.nil,_=>.nil
 |_,_,.cons r t,f=>.cons (f _ _ r) (Paired.mapP t f)
theorem ObjOk.stay(x:ObjOk P w H h a o)(k:∀b u,(b=a\/H b=some (.own a))->h.get? b=some u->h'.get? b=some u)
  (ho:∀b,H b=some (.own a)->H' b=some (.own a)) (ht:∀b xs,H b=some (.tup xs)->H' b=some (.tup xs)):ObjOk P w H' h' a o:=by
 induction o with
 |lst xs=>obtain⟨z,its,n,r,e⟩:=x;exact⟨z,its,n,r,k _ _ (.inl rfl) e⟩
 |tup xs=>obtain⟨z,its,r,ob,e,c⟩:=x;exact⟨z,its,r,ob,k _ _ (.inl rfl) e,c⟩
 |dK kvs=>obtain⟨z,y,vs,r,ob,es,ep,e,c⟩:=x;exact⟨z,y,vs,r,ob,es,ep,k _ _ (.inl rfl) e,c⟩
 |dT m ep kvs=>
  obtain⟨z,y,xs,r,ob,es,e,c⟩:=x;exact⟨z,y,xs,Paired.mapP r λp q z=>⟨z.1,z.2.1.keep ht,z.2.2⟩,ob,es,k _ _ (.inl rfl) e,c⟩
 |set S n=>obtain⟨ob,es,ep,t,e,c⟩:=x;exact⟨ob,es,ep,t,k _ _ (.inl rfl) e,c⟩
 |ins C dx fs=>
  obtain⟨d,z,ne,e,mA,⟨od,es,ep,e2,c⟩,r⟩:=x;exact⟨ho _ d,z,ne,k _ _ (.inl rfl) e,mA,⟨od,es,ep,k _ _ (.inr d) e2,c⟩,r⟩
 |own y=>obtain⟨ob,e⟩:=x;exact⟨ob,k _ _ (.inl rfl) e⟩
 |xd fs=>obtain⟨mA,⟨od,es,ep,e,c⟩,r⟩:=x;exact⟨mA,⟨od,es,ep,k _ _ (.inl rfl) e,c⟩,r⟩
 |rng lo hi=>obtain⟨t,u,v,e⟩:=x;exact⟨t,u,v,k _ _ (.inl rfl) e⟩
 |frz ob u ih=>obtain⟨e,q⟩:=x;exact⟨k _ _ (.inl rfl) e,ih q⟩
 |tbl ps=>
  have e:h.get? a=some { cls:=.none,data:=.fields ps }:=x;show h'.get? a=some { cls:=.none,data:=.fields ps };exact k a _ (.inl rfl) e
 |met f y=>
  have e:h.get? a=some (LX (.ref f) (.ref y)):=x;show h'.get? a=some (LX (.ref f) (.ref y));exact k a _ (.inl rfl) e
 |ext φ=>obtain⟨p,⟨o,e⟩,st⟩:=x;exact⟨st _ _ p λo q=>k _ _ (.inl rfl) q,⟨o,k _ _ (.inl rfl) e⟩,st⟩
theorem HOk.lt(x:HOk P w H h)(e:H a=some o):a<h.objs.size:=(x a o e).lt
theorem HOk.fresh(x:HOk P w H h)(e:h.objs.size<=a):H a=none:=by
 cases q:H a with
 |none=>rfl
 |some u=>exact absurd (Km (x.lt q) e) (Ld _)
theorem HOk.kept(x:HOk P w H h)(k:∀b u,h.get? b=some u->h'.get? b=some u):HOk P w H h':=λa o e=>
 (x a o e).stay (λb u _ q=>k b u q) (λ_ q=>q) λ_ _ q=>q
theorem HOk.laid(x:HOk P w H h)(k:∀b u,h.get? b=some u->h'.get? b=some u)(hp:h.objs.size<=a)(new:ObjOk P w (upd H a o) h' a o):HOk P w (upd H a o) h':=λb u e=>by
 have hn:=x.fresh hp;by_cases hb:b=a
 ·subst hb;rw[aG] at e;cases e;exact new
 ·rw[am hb] at e;exact(x b u e).stay (λc v _ q=>k c v q) (λc q=>by rw[am (av q hn)];exact q) λc xs q=>by rw[am (av q hn)];exact q
end
noncomputable def Rd(H:Hp)(a:Addr)(u:HO):Prop:=H a=some u\/∃o,H a=some (.frz o u)
theorem Rd.ok(r:Rd H a u)(x:HOk P w H h):ObjOk P w H h a u:=by
 rcases r with r|⟨o,r⟩
 ·exact x a u r
 ·obtain⟨_,q⟩:=x a _ r;exact q
noncomputable def CL:Option HO->Prop
 |some (.lst _)=>True
 |some (.dK _)=>True
 |some (.dT _ _ _)=>True
 |some (.set _ _)=>True
 |some (.ins _ _ _)=>True
 |some (.ext _)=>True
 |_=>False
section
variable {P:Program} {w:World} {H:Hp} {h h':Heap} {x e:Addr} {o':HO}
theorem HOk.write(ok:HOk P w H h)(mu:CL (H x))(he:e=x\/H e=some (.own x))(k:∀b u,b≠e->h.get? b=some u->h'.get? b=some u)(heo:∃u,h'.get? e=some u)
  (new:ObjOk P w (upd H x o') h' x o'):HOk P w (upd H x o') h':=λb u q=>by
 have nown:∀c y,H c=some (.own y)->c≠x:=λc y r z=>by subst z;rw[r] at mu;exact mu
 have ntup:∀c xs,H c=some (.tup xs)->c≠x:=λc xs r z=>by subst z;rw[r] at mu;exact mu
 by_cases hb:b=x
 ·subst hb;rw[aG] at q;cases q;exact new
 ·rw[am hb] at q;by_cases hbe:b=e
  ·have q':H b=some (.own x):=by
    rcases he with z|z
    ·exact absurd (hbe.trans z) hb
    ·rw[hbe];exact z
   rw[q] at q';cases q';obtain⟨v,hv⟩:=heo;exact⟨v,by rw[hbe];exact hv⟩
  ·refine(ok b u q).stay (λc v hc r=>k c v ?_ r) (λc r=>by rw[am (nown c b r)];exact r) λc xs r=>by rw[am (ntup c xs r)];exact r
   rcases hc with rfl|hc
   ·exact hbe
   ·rintro rfl
    rcases he with z|z
    ·exact nown c b hc z
    ·rw[hc] at z;cases z;exact hb rfl
end
structure Un(fs ex:List Addr)(H H':Hp)(h h':Heap):Prop where
 keep:∀b o,h.get? b=some o->H b=none->b∉fs->b∉ex->h'.get? b=some o
 slot:∀b o,h.get? b=some o->H b=none->b∈fs->b∉ex->∃sl,h'.get? b=some { o with slots:=sl }
 free:∀b o,h.get? b=some o->H b=none->b∉ex->H' b=none
 there:∀b o,h.get? b=some o->b∉ex->∃o',h'.get? b=some o'
 tups:∀b xs,H b=some (.tup xs)->H' b=some (.tup xs)
 frzs:∀b o u,H b=some (.frz o u)->H' b=some (.frz o u)
 tbls:∀b ps,H b=some (.tbl ps)->∃more,H' b=some (.tbl (ps++more))
section
variable {fs fs' ex ex':List Addr} {H H1 H2:Hp} {h h1 h2 h':Heap} {a x e:Addr} {o:HO}
theorem Un.any(u:Un fs ex H H1 h h1){b:Addr}{ob:Obj}(q:h.get? b=some ob)(n:H b=none)(hx:b∉ex):∃sl,h1.get? b=some { ob with slots:=sl }:=by
 by_cases hb:b∈fs
 ·exact u.slot b ob q n hb hx
 ·exact⟨ob.slots,u.keep b ob q n hb hx⟩
theorem Un.kept(k:∀b u,h.get? b=some u->h'.get? b=some u):Un fs ex H H h h':=
 ⟨λb ob q _ _ _=>k b ob q,λb ob q _ _ _=>⟨ob.slots,k b ob q⟩,λ_ _ _ n _=>n,λb ob q _=>⟨ob,k b ob q⟩,λ_ _ q=>q,λ_ _ _ q=>q,λ_ ps q=>⟨#[],by rw[q];simp⟩⟩
theorem Un.refl:Un fs ex H H h h:=Un.kept λ_ _ q=>q
theorem Un.laid(k:∀b u,h.get? b=some u->h'.get? b=some u)(hp:h.objs.size<=a)(hn:H a=none):Un fs ex H (upd H a o) h h' where
 keep:=λb u q _ _ _=>k b u q
 slot:=λb u q _ _ _=>⟨u.slots,k b u q⟩
 free:=λb u q n _=>by rw[am (KB (Km (Kl q) hp))];exact n
 there:=λb u q _=>⟨u,k b u q⟩
 tups:=λb xs q=>by rw[am (av q hn)];exact q
 frzs:=λb u xs q=>by rw[am (av q hn)];exact q
 tbls:=λb ps q=>⟨#[],by rw[am (av q hn),q];simp⟩
theorem Un.write(mu:CL (H x))(he:e=x\/H e=some (.own x))(k:∀b u,b≠e->h.get? b=some u->h'.get? b=some u)(heo:∃u,h'.get? e=some u):Un fs ex H (upd H x o) h h':=by
 have hx:∀b,H b=none->b≠x:=λb n z=>by subst z;rw[n] at mu;exact mu
 have hb:∀b,H b=none->b≠e:=λb n z=>by
  subst z;rcases he with r|r
  ·exact hx b n r
  ·rw[n] at r;cases r
 have hm:∀b u,H b=some u->¬CL (some u)->b≠x:=λb u q nm z=>by subst z;rw[q] at mu;exact nm mu
 refine⟨λb u q n _ _=>k b u (hb b n) q,λb u q n _ _=>⟨u.slots,k b u (hb b n) q⟩,λb u q n _=>by rw[am (hx b n)];exact n,λb u q _=>?_,
  λb xs q=>by rw[am (hm b _ q λz=>z)];exact q,λb u xs q=>by rw[am (hm b _ q λz=>z)];exact q,λb ps q=>⟨#[],by rw[am (hm b _ q λz=>z),q];simp⟩⟩
 by_cases hbe:b=e
 ·subst hbe;exact heo
 ·exact⟨u,k b u hbe q⟩
end
noncomputable def FC(h:Heap)(H:Hp):List Addr:=(Kh h.objs.size).filter λa=>(H a).isSome
noncomputable def lG(h:Heap)(H:Hp):Heap:=PySem.W.hideAll h (FC h H)
theorem q9(h:Heap)(H:Hp):(lG h H).objs.size=h.objs.size:=PySem.W.hideAll_size _ _
theorem sN{h:Heap}{H:Hp}(e:h.get? b=some o)(n:H b=none):(lG h H).get? b=some o:=
 PySem.W.hideAll_get _ e λhm=>by
  have q:(H b).isSome=true:=(MP.mp hm).2;rw[n] at q;simp at q
theorem wc{h:Heap}{H:Hp}(e:(lG h H).get? b=some o):h.get? b=some o/\H b=none:=by
 have e':h.get? b=some o:=PySem.W.of_hideAll (FC h H) e;refine⟨e',?_⟩
 cases q:H b with
 |none=>rfl
 |some x=>
  have hm:b∈FC h H:=MP.mpr ⟨Lu.mpr (Kl e'),by simp[q]⟩;have z:(lG h H).get? b=none:=PySem.W.hideAll_none (FC h H) hm;rw[z] at e;cases e
noncomputable def wd(g h:Heap)(L:Addr):List (Addr×Obj):=(Kh h.objs.size).filterMap λa=>if a=L\/(g.get? a).isSome=true then none else(h.get? a).map λo=>(a,o)
noncomputable def rest(g h:Heap)(L d:Addr):List (Addr×Obj):=(wd g h L).filter λp=>decide (p.1≠d)
end L2
namespace L2
open PySem PySem.Spec PyProof.Rows
structure Mod(K:Ka)(mg:Str->Option Value)(base:Heap):Prop where
 kin:K.In base
 glob:base.Ns mainGlobals mg
 blt:∃mb,base.Ns builtinsNs mb/\∀x:Str,x≠"__name__"->mb x=bootBuiltins x
 nolimit:base.NoLimit
structure Cx where
 prog:Program
 w:World
 K:Ka
 mg:Str->Option Value
 base:Heap
 A:Around
 N:List Str
 s₀:Shared
 H₀:Hp
 env:Env
 outer:List Env
 stack:List Env
 ex:List Addr
 fn:Str->Bool
 calm:Bool
 pn:List (Addr×Obj)
 xe:Value->Shared->Prop
noncomputable def sH(l:List Env):List Addr:=l.filterMap (·.frame)
noncomputable abbrev Cx.fs(X:Cx):List Addr:=sH X.outer
noncomputable def CM(sc:Scope)(x:Str):Prop:=sc.names.lookup x=some .local\/sc.names.lookup x=some .cell\/sc.names.lookup x=some .free
noncomputable def zK(sc:Scope)(x:Str):Prop:=sc.names.lookup x=some .local\/sc.names.lookup x=some .cell
noncomputable def Gj(env:Env)(h:Heap)(m:Str->Option Value)(x:Str)(u:Value):Prop:=
 (env.kindOf x=some .local/\m x=some u)\/((env.kindOf x=some .cell\/env.kindOf x=some .free)/\∃c,env.cells.lookup x=some c/\h.IsCell c (some u))
structure Cx.Ok(X:Cx):Prop where
 mod:Mod X.K X.mg X.base
 kind:X.env.scope.kind=.function
 glob:X.env.globals=mainGlobals
 blt:X.env.builtins=builtinsNs
 above:X.s₀.heap.objs.size<=X.env.locals
 inj:∀x y c,X.env.cells.lookup x=some c->X.env.cells.lookup y=some c->x=y
 has:∀x,(X.env.kindOf x=some .cell\/X.env.kindOf x=some .free)->∃c,X.env.cells.lookup x=some c
 cab:∀x c,X.fn x=true->X.env.cells.lookup x=some c->X.s₀.heap.objs.size<=c
 hd:X.calm=true->X.A.handled=none
 frames:X.A.frames=some X.stack
 stk:X.stack=X.outer\/(X.stack=X.env::X.outer/\X.env.frame=some X.env.locals)
 exf:∀b∈X.ex,b≠X.env.locals/\∀x c,X.env.cells.lookup x=some c->c≠b
 bs:∀b o,X.base.get? b=some o->X.s₀.heap.get? b=some o/\X.H₀ b=none
 bsz:X.base.objs.size<=X.s₀.heap.objs.size
 noex:∀b o,X.base.get? b=some o->b∉X.ex
 exfs:∀b∈X.ex,b∉X.fs
 funs:X.s₀.heap.FunFrames X.base X.outer
 frf:∀b∈X.fs,X.H₀ b=none
structure Inv(X:Cx)(pins:List (Addr×Obj))(σ:List (Option V))(H:Hp)(s:Shared):Prop where
 ok:X.Ok
 os:s.os=X.s₀.os
 bare:AllBare s.gens
 base:Un X.fs X.ex X.H₀ H X.s₀.heap s.heap
 loc:∃m,s.heap.Ns X.env.locals m/\∀(i:Nat) (x:Str) (v:V),X.N[i]?=some x->σ[i]?=some (some v)->CM X.env.scope x->∃u,RelV v u/\Gj X.env s.heap m x u
 cell:∀x c,X.env.cells.lookup x=some c->∃v,s.heap.IsCell c v
 free:H X.env.locals=none
 freeC:∀x c,X.env.cells.lookup x=some c->H c=none
 pin:∀p∈X.pn++pins,s.heap.get? p.1=some p.2/\H p.1=none/\p.1≠X.env.locals/\p.1∉X.fs/\∀v,p.2.data≠.cell v
 hok:HOk X.prog X.w H s.heap
 len:σ.length=X.N.length
section
variable {X:Cx} {pins:List (Addr×Obj)} {σ:List (Option V)} {H H':Hp} {s:Shared} {h':Heap}
theorem Cx.Ok.nofr(ok:X.Ok){b:Addr}{o:Obj}(e:X.base.get? b=some o):b∉X.fs:=λhb=>by
 have:=(ok.funs.mem hb).1;rw[e] at this;cases this
theorem Inv.bs(I:Inv X pins σ H s):∀b o,X.base.get? b=some o->s.heap.get? b=some o/\H b=none:=λb o e=>
 ⟨I.base.keep b o (I.ok.bs b o e).1 (I.ok.bs b o e).2 (I.ok.nofr e) (I.ok.noex b o e),I.base.free b o (I.ok.bs b o e).1 (I.ok.bs b o e).2 (I.ok.noex b o e)⟩
theorem Inv.bk(I:Inv X pins σ H s):∀b o,X.base.get? b=some o->s.heap.get? b=some o:=λb o e=>(I.bs b o e).1
theorem Inv.mod(I:Inv X pins σ H s):Mod X.K X.mg X.base:=I.ok.mod
theorem Inv.kIn(I:Inv X pins σ H s):X.K.In s.heap:=I.ok.mod.kin.keeps I.bk
theorem Inv.lt(I:Inv X pins σ H s):X.env.locals<s.heap.objs.size:=let ⟨_,hn,_⟩:=I.loc;hn.lt
theorem Inv.sz(I:Inv X pins σ H s):X.s₀.heap.objs.size<=s.heap.objs.size:=KF I.ok.above (L1 I.lt)
theorem Inv.nofs(I:Inv X pins σ H s){a:Addr}(h:s.heap.objs.size<=a):a∉X.fs:=λhb=>by
 obtain⟨_,o,ho,_⟩:=I.ok.funs.mem hb;exact absurd (Km (Kl ho) (KF I.sz h)) (Ld _)
theorem Inv.cne(I:Inv X pins σ H s):∀x c,X.env.cells.lookup x=some c->c≠X.env.locals:=λx c e z=>by
 obtain⟨v,o,ho,hd⟩:=I.cell x c e;obtain⟨m,⟨o',es,ep,ho',hd',_⟩,_⟩:=I.loc;rw[z,ho'] at ho;cases ho;rw[hd'] at hd;cases hd
theorem Inv.funs(I:Inv X pins σ H s):s.heap.FunFrames X.base X.outer:=by
 have all:∀(l:List Env),(∀b∈sH l,b∈X.fs)->X.s₀.heap.FunFrames X.base l->s.heap.FunFrames X.base l:=by
  intro l
  induction l with
  |nil=>intro _ _;trivial
  |cons env r ih=>
   intro hs hl;obtain⟨hk,⟨L,o,hf,hn,ho,hd⟩,hr⟩:=hl;have hL:L∈X.fs:=hs L (by unfold sH;rw[KL,hf];exact KA);obtain⟨sl,e⟩:=I.base.slot L o ho (I.ok.frf L hL) hL λz=>I.ok.exfs L z hL;exact⟨hk,⟨L,_,hf,hn,e,hd⟩,ih (λb hb=>hs b (by unfold sH;rw[KL,hf];exact Kp _ hb)) hr⟩
 exact all X.outer (λ_ hb=>hb) I.ok.funs
theorem Inv.stack(I:Inv X pins σ H s):s.heap.FunFrames X.base X.stack:=by
 rcases I.ok.stk with e|⟨e,hf⟩
 ·rw[e];exact I.funs
 ·rw[e];obtain⟨m,hn,_⟩:=I.loc;refine .cons (by rw[I.ok.kind];decide) hf hn ?_ I.funs;exact Heap.get?_none_of_le (KF I.ok.bsz I.ok.above)
theorem Inv.stkSub(I:Inv X pins σ H s):∀b∈sH X.stack,b∈X.env.locals::X.fs:=λb hb=>by
 rcases I.ok.stk with e|⟨e,hf⟩
 ·rw[e] at hb;exact Kp _ hb
 ·rw[e] at hb;unfold sH at hb;rw[KL,hf] at hb;exact hb
theorem Inv.stkFree(I:Inv X pins σ H s):∀b∈sH X.stack,H b=none:=λb hb=>by
 rcases Kn.mp (I.stkSub b hb) with e|hb
 ·rw[e];exact I.free
 ·obtain⟨_,o,ho,_⟩:=I.ok.funs.mem hb;exact I.base.free b o ho (I.ok.frf b hb) λz=>I.ok.exfs b z hb
theorem Inv.step{t':Nat}{ch:List Addr}(I:Inv X pins σ H s)(hch:∀b∈ch,(b∈X.ex\/X.s₀.heap.objs.size<=b)/\b≠X.env.locals/\(∀x c,X.env.cells.lookup x=some c->c≠b)/\∀p∈X.pn++pins,p.1≠b)(keep:∀b o,b≠X.env.locals->b∉X.fs->b∉ch->s.heap.get? b=some o->H b=none->h'.get? b=some o)(slot:∀b o,b≠X.env.locals->b∈X.fs->b∉ch->s.heap.get? b=some o->H b=none->∃sl,h'.get? b=some { o with slots:=sl })(free:∀b o,b∉ch->s.heap.get? b=some o->H b=none->H' b=none)(there:∀b o,b∉ch->s.heap.get? b=some o->∃o',h'.get? b=some o')(tups:∀b xs,H b=some (.tup xs)->H' b=some (.tup xs))(frzs:∀b o u,H b=some (.frz o u)->H' b=some (.frz o u))(tbls:∀b ps,H b=some (.tbl ps)->∃more,H' b=some (.tbl (ps++more)))(ns:∀m,s.heap.Ns X.env.locals m->h'.Ns X.env.locals m)(hok:HOk X.prog X.w H' h')(hg:AllBare g') :
  Inv X pins σ H' { s with heap:=h',gens:=g',drawn:=d',toks:=t' }:=by
 have neL:∀b o,X.s₀.heap.get? b=some o->b≠X.env.locals:=λb o e=>KB (Km (Kl e) I.ok.above)
 have neC:∀b o,X.s₀.heap.get? b=some o->b∉X.ex->b∉ch:=λb o e hx hb=>by
  rcases(hch b hb).1 with z|z
  ·exact hx z
  ·exact absurd (Km (Kl e) z) (Ld _)
 have cellK:∀x c,X.env.cells.lookup x=some c->∀v,s.heap.IsCell c v->h'.IsCell c v:=λx c e v ⟨o,ho,hd⟩=>by
  have nch:c∉ch:=λz=>(hch c z).2.2.1 x c e rfl;by_cases hc:c∈X.fs
  ·obtain⟨sl,q⟩:=slot c o (I.cne x c e) hc nch ho (I.freeC x c e);exact⟨_,q,hd⟩
  ·exact⟨o,keep c o (I.cne x c e) hc nch ho (I.freeC x c e),hd⟩
 refine⟨I.ok,I.os,hg,⟨λb o e n hb hx=>?_,λb o e n hb hx=>?_,λb o e n hx=>?_,λb o e hx=>?_,λb xs e=>tups b xs (I.base.tups b xs e),λb o xs e=>frzs b o xs (I.base.frzs b o xs e),λb ps e=>?_⟩,?_,λx c e=>?_,?_,λx c e=>?_,λp hp=>?_,hok,I.len⟩
 ·exact keep b o (neL b o e) hb (neC b o e hx) (I.base.keep b o e n hb hx) (I.base.free b o e n hx)
 ·obtain⟨sl,e1⟩:=I.base.slot b o e n hb hx;obtain⟨sl',e2⟩:=slot b _ (neL b o e) hb (neC b o e hx) e1 (I.base.free b o e n hx);exact⟨sl',e2⟩
 ·obtain⟨o',e1⟩:=I.base.there b o e hx;exact free b o' (neC b o e hx) e1 (I.base.free b o e n hx)
 ·obtain⟨o',e1⟩:=I.base.there b o e hx;exact there b o' (neC b o e hx) e1
 ·obtain⟨m1,e1⟩:=I.base.tbls b ps e;obtain⟨m2,e2⟩:=tbls b _ e1;exact⟨m1++m2,by rw[e2,Array.append_assoc]⟩
 ·obtain⟨m,hn,hl⟩:=I.loc;refine⟨m,ns m hn,λi x v e1 e2 e3=>?_⟩;obtain⟨u,r,l⟩:=hl i x v e1 e2 e3;refine⟨u,r,?_⟩;rcases l with l|⟨k,c,e,z⟩
  ·exact .inl l
  ·exact .inr ⟨k,c,e,cellK x c e _ z⟩
 ·obtain⟨v,z⟩:=I.cell x c e;exact⟨v,cellK x c e v z⟩
 ·obtain⟨m,⟨o,_,_,ho,_⟩,_⟩:=I.loc;exact free _ o (λz=>(hch _ z).2.1 rfl) ho I.free
 ·obtain⟨v,o,ho,hd⟩:=I.cell x c e;exact free c o (λz=>(hch c z).2.2.1 x c e rfl) ho (I.freeC x c e)
 ·obtain⟨e,n,ne,nf,d⟩:=I.pin p hp;have nch:p.1∉ch:=λz=>(hch p.1 z).2.2.2 p hp rfl;exact⟨keep p.1 p.2 ne nf nch e n,free p.1 p.2 nch e n,ne,nf,d⟩
theorem Inv.un{t':Nat}(I:Inv X pins σ H s)(u:Un X.fs [] H H' s.heap h')(hok:HOk X.prog X.w H' h'):Inv X pins σ H' { s with heap:=h',toks:=t' }:=by
 obtain⟨m,⟨o,es,ep,ho,r⟩,_⟩:=id I.loc;obtain⟨sl,hL⟩:=u.any ho I.free (by simp)
 exact I.step (g':=s.gens) (d':=s.drawn) (ch:=[]) (λ_ z=>nomatch z) (λb o _ hb _ e n=>u.keep b o e n hb (by simp)) (λb o _ hb _ e n=>u.slot b o e n hb (by simp)) (λb o _ e n=>u.free b o e n (by simp)) (λb o _ e=>u.there b o e (by simp)) u.tups u.frzs u.tbls (λm' hm=>by
  obtain⟨o',es',ep',ho',r'⟩:=hm;rw[ho] at ho';cases ho';exact⟨_,es',ep',hL,r'⟩) hok I.bare
theorem Inv.call{t':Nat}{ch:List Addr}(I:Inv X pins σ H s)(u:Un (sH X.stack) ch H H' s.heap h')(hok:HOk X.prog X.w H' h')(hg:AllBare g')(hch:∀b∈ch,(b∈X.ex\/X.s₀.heap.objs.size<=b)/\b≠X.env.locals/\(∀x c,X.env.cells.lookup x=some c->c≠b)/\∀p∈X.pn++pins,p.1≠b) :
  Inv X pins σ H' { s with heap:=h',gens:=g',drawn:=d',toks:=t' }:=by
 obtain⟨m,⟨o,es,ep,ho,r⟩,_⟩:=id I.loc;obtain⟨sl,hL⟩:=u.any ho I.free λz=>(hch _ z).2.1 rfl
 exact I.step (ch:=ch) hch (λb o hL hb hc e n=>u.keep b o e n (λz=>(Kn.mp (I.stkSub b z)).elim hL hb) hc) (λb o _ _ hc e n=>u.any e n hc) (λb o hc e n=>u.free b o e n hc) (λb o hc e=>u.there b o e hc) u.tups u.frzs u.tbls (λm' hm=>by
  obtain⟨o',es',ep',ho',r'⟩:=hm;rw[ho] at ho';cases ho';exact⟨_,es',ep',hL,r'⟩) hok hg
theorem Inv.turned{t':Nat}{it:Addr}(I:Inv X pins σ H s)(k:∀b o,b≠it->s.heap.get? b=some o->h'.get? b=some o)(hn:H it=none)(hL:it≠X.env.locals)
  (h1:it∈X.ex\/X.s₀.heap.objs.size<=it) (h2:∀x c,X.env.cells.lookup x=some c->c≠it) (h3:∀p∈X.pn++pins,p.1≠it):Inv X pins σ H { s with heap:=h',toks:=t' }:=by
 have nit:∀b u,H b=some u->b≠it:=λb u e z=>by rw[z,hn] at e;cases e
 refine I.step (g':=s.gens) (d':=s.drawn) (ch:=[it]) (λb hb=>?_) (λb o _ _ hc e _=>k b o (λz=>hc (by simp[z])) e) (λb o _ _ hc e _=>⟨o.slots,k b o (λz=>hc (by simp[z])) e⟩) (λ_ _ _ _ n=>n)
  (λb o hc e=>⟨o,k b o (λz=>hc (by simp[z])) e⟩) (λ_ _ e=>e) (λ_ _ _ e=>e) (λb ps e=>⟨#[],by rw[e];simp⟩) (λm hm=>?_) (λb u e=>?_) I.bare
 ·have e:b=it:=by simpa using hb
  subst e;exact⟨h1,hL,h2,h3⟩
 ·obtain⟨o,es,ep,ho,r⟩:=hm;exact⟨o,es,ep,k _ o (Ne.symm hL) ho,r⟩
 ·refine(I.hok b u e).stay (λc v hc q=>k c v ?_ q) (λ_ q=>q) λ_ _ q=>q;rcases hc with z|z
  ·rw[z];exact nit b u e
  ·exact nit c _ z
theorem Inv.tok(I:Inv X pins σ H s)(t:Nat):Inv X pins σ H { s with toks:=t }:=I.un (h':=s.heap) (t':=t) Un.refl I.hok
theorem Inv.kept{t':Nat}(I:Inv X pins σ H s)(k:∀b u,s.heap.get? b=some u->h'.get? b=some u):Inv X pins σ H { s with heap:=h',toks:=t' }:=I.un (Un.kept k) (I.hok.kept k)
theorem Inv.laid{t':Nat}(I:Inv X pins σ H s)(k:∀b u,s.heap.get? b=some u->h'.get? b=some u)(hp:s.heap.objs.size<=a)(new:ObjOk X.prog X.w (upd H a o) h' a o) :
  Inv X pins σ (upd H a o) { s with heap:=h',toks:=t' }:=I.un (Un.laid k hp (I.hok.fresh hp)) (I.hok.laid k hp new)
theorem Inv.write{x e:Addr}{t':Nat}(I:Inv X pins σ H s)(mu:CL (H x))(he:e=x\/H e=some (.own x))(k:∀b u,b≠e->s.heap.get? b=some u->h'.get? b=some u)(heo:∃u,h'.get? e=some u)(new:ObjOk X.prog X.w (upd H x o) h' x o):Inv X pins σ (upd H x o) { s with heap:=h',toks:=t' }:=I.un (Un.write mu he k heo) (I.hok.write mu he k heo new)
theorem Inv.pins_of{pins':List (Addr×Obj)}(I:Inv X pins σ H s)(h:∀p∈pins',s.heap.get? p.1=some p.2/\H p.1=none/\p.1≠X.env.locals/\p.1∉X.fs/\∀v,p.2.data≠.cell v):Inv X pins' σ H s:=
 ⟨I.ok,I.os,I.bare,I.base,I.loc,I.cell,I.free,I.freeC,λp hp=>(Lb.mp hp).elim (λz=>I.pin p (Lk _ z)) (h p),I.hok,I.len⟩
theorem mF{N:List Str}(hN:N.Nodup){i j:Nat}{x:Str}(a:N[i]?=some x)(b:N[j]?=some x):i=j:=by
 obtain⟨h1,e1⟩:=Kb.mp a;obtain⟨h2,e2⟩:=Kb.mp b;exact(List.getElem_inj hN).mp (e1.trans e2.symm)
theorem kP{i:Nat}{x:Str}{Q:Unit->Shared->Prop}(I:Inv X pins σ H s)(hN:X.N.Nodup)(hi:X.N[i]?=some x)(hx:zK X.env.scope x)(r:RelV v u)(h:∀s',Inv X pins (σ.set i (some v)) H s'->(∃a,Heap.SameBut a s.heap s'.heap/\(a=X.env.locals\/X.env.cells.lookup x=some a))->Q () s')(hf:X.fn x=true\/X.env.scope.names.lookup x=some .local:=by first|exact .inl rfl|exact .inr rfl|assumption):wpAny M A (storeName X.env x u) Q E s:=by
 obtain⟨m,hn,hl⟩:=id I.loc;have hcls:(X.env.scope.kind==.class||(X.env.scope.kind==.module&&X.env.locals != X.env.globals))=false:=by rw[I.ok.kind];rfl
 have hiσ:i<σ.length:=by rw[I.len];exact(Kb.mp hi).1
 have cne:=I.cne
 have tracked:∀{a:Addr} {h':Heap},(∃o,s.heap.get? a=some o/\H a=none)->Heap.SameBut a s.heap h'->HOk X.prog X.w H h':=λ{a h'} ha hs b ob e=>by
  obtain⟨_,_,hfree⟩:=ha;refine(I.hok b ob e).stay (λc w' hc q=>(hs.2 c ?_).trans q) (λ_ q=>q) λ_ _ q=>q
  rintro rfl
  rcases hc with rfl|hc
  ·rw[hfree] at e;cases e
  ·rw[hfree] at hc;cases hc
 rcases hx with hk|hk
 ·refine wpAny_storeName_local hk hn (λh' hn' hs=>?_) hcls;obtain⟨oL,_,_,hoL,_⟩:=id hn;refine h _ ⟨I.ok,I.os,I.bare,⟨λb o e n hb hx=>?_,λb o e n hb hx=>?_,I.base.free,λb o e hx=>?_,I.base.tups,I.base.frzs,I.base.tbls⟩,⟨_,hn',λj y v' e1 e2 e3=>?_⟩,λy c e=>?_,I.free,I.freeC,λp hp=>?_,tracked ⟨oL,hoL,I.free⟩ hs,by simpa using I.len⟩ ⟨_,hs,.inl rfl⟩
  ·exact(hs.2 b (KB (Km (Kl e) I.ok.above))).trans (I.base.keep b o e n hb hx)
  ·obtain⟨sl,e1⟩:=I.base.slot b o e n hb hx;exact⟨sl,(hs.2 b (KB (Km (Kl e) I.ok.above))).trans e1⟩
  ·obtain⟨o',e1⟩:=I.base.there b o e hx;exact⟨o',(hs.2 b (KB (Km (Kl e) I.ok.above))).trans e1⟩
  ·by_cases hj:j=i
   ·subst hj;rw[hi] at e1;cases e1;rw[Kz hiσ] at e2;cases e2;exact⟨u,r,.inl ⟨hk,by simp⟩⟩
   ·rw[Kv (Ne.symm hj)] at e2;obtain⟨u',r',q⟩:=hl j y v' e1 e2 e3;refine⟨u',r',?_⟩;rcases q with⟨k,e⟩|⟨k,c,e,z⟩
    ·refine .inl ⟨k,?_⟩;have:y≠x:=λe=>hj (mF hN e1 (e▸hi));simp[this,e]
    ·exact .inr ⟨k,c,e,z.sameBut hs (cne y c e)⟩
  ·obtain⟨w',z⟩:=I.cell y c e;exact⟨w',z.sameBut hs (cne y c e)⟩
  ·obtain⟨e,n,ne,nf,d⟩:=I.pin p hp;exact⟨(hs.2 p.1 ne).trans e,n,ne,nf,d⟩
 ·have hfn:X.fn x=true:=by
   rcases hf with z|z
   ·exact z
   ·rw[z] at hk;cases hk
  obtain⟨c,hc⟩:=I.ok.has x (.inl hk);obtain⟨w',z⟩:=I.cell x c hc;refine wpAny_storeName_cell I.ok.kind hk hc z (λh' hc' hs=>?_);obtain⟨oc,hoc,hocd⟩:=id z;refine h { s with heap:=h' } ⟨I.ok,I.os,I.bare,⟨λb o e n hb hx=>?_,λb o e n hb hx=>?_,I.base.free,λb o e hx=>?_,I.base.tups,I.base.frzs,I.base.tbls⟩,⟨m,hn.sameBut hs (Ne.symm (cne x c hc)),λj y v' e1 e2 e3=>?_⟩,λy c' e=>?_,I.free,I.freeC,λp hp=>?_,tracked ⟨oc,hoc,I.freeC x c hc⟩ hs,by simpa using I.len⟩ ⟨c,hs,.inr hc⟩
  ·exact(hs.2 b (KB (Km (Kl e) (I.ok.cab x c hfn hc)))).trans (I.base.keep b o e n hb hx)
  ·obtain⟨sl,e1⟩:=I.base.slot b o e n hb hx;exact⟨sl,(hs.2 b (KB (Km (Kl e) (I.ok.cab x c hfn hc)))).trans e1⟩
  ·obtain⟨o',e1⟩:=I.base.there b o e hx;exact⟨o',(hs.2 b (KB (Km (Kl e) (I.ok.cab x c hfn hc)))).trans e1⟩
  ·by_cases hj:j=i
   ·subst hj;rw[hi] at e1;cases e1;rw[Kz hiσ] at e2;cases e2;exact⟨u,r,.inr ⟨.inl hk,c,hc,hc'⟩⟩
   ·rw[Kv (Ne.symm hj)] at e2;obtain⟨u',r',q⟩:=hl j y v' e1 e2 e3;refine⟨u',r',?_⟩;rcases q with q|⟨k,c',e,z'⟩
    ·exact .inl q
    ·refine .inr ⟨k,c',e,z'.sameBut hs ?_⟩
     rintro rfl
     exact hj (mF hN e1 (I.ok.inj _ _ _ e hc▸hi))
  ·by_cases hcc:c'=c
   ·subst hcc;exact⟨_,hc'⟩
   ·obtain⟨w2,z2⟩:=I.cell y c' e;exact⟨w2,z2.sameBut hs hcc⟩
  ·obtain⟨e,n,ne,nf,d⟩:=I.pin p hp;refine⟨(hs.2 p.1 ?_).trans e,n,ne,nf,d⟩;intro q;rw[q,hoc] at e;have q':oc=p.2:=Option.some.inj e;exact d w' (by rw[<- q'];exact hocd)
theorem eN{i:Nat}{x:Str}{Q:Unit->Shared->Prop}(I:Inv X pins σ H s)(hN:X.N.Nodup)(hi:X.N[i]?=some x)(hx:zK X.env.scope x)(r:RelV v u)(h:∀s',Inv X pins (σ.set i (some v)) H s'->Q () s')(hf:X.fn x=true\/X.env.scope.names.lookup x=some .local:=by first|exact .inl rfl|exact .inr rfl|assumption):wpAny M A (storeName X.env x u) Q E s:=
 kP I hN hi hx r (λs' I' _=>h s' I') hf
theorem Inv.call'{s':Shared}{ch:List Addr}(I:Inv X pins σ H s)(ho:s'.os=s.os)(u:Un (sH X.stack) ch H H' s.heap s'.heap)(hok:HOk X.prog X.w H' s'.heap)(hg:AllBare s'.gens)
  (hch:∀b∈ch,(b∈X.ex\/X.s₀.heap.objs.size<=b)/\b≠X.env.locals/\(∀x c,X.env.cells.lookup x=some c->c≠b)/\∀p∈X.pn++pins,p.1≠b):Inv X pins σ H' s':=by
 obtain⟨h',g',d',t',o'⟩:=s';have e:o'=s.os:=ho;subst e;exact I.call (g':=g') (t':=t') (d':=d') u hok hg hch
end
noncomputable abbrev XK:=Value->Option Addr->Hp->Prop
noncomputable abbrev St:=List (Option V)
noncomputable abbrev VK:=V->Hp->Prop
noncomputable abbrev TE:=St->Hp->VK->Prop
noncomputable abbrev TT:=St->Hp->(Bool->Hp->Prop)->Prop
noncomputable abbrev TA:=St->Hp->(List V->Hp->Prop)->Prop
structure iW where
 nx:St->Hp->Prop
 rt:VK
 bk:St->Hp->Prop:=λ_ _=>False
 ct:St->Hp->Prop:=λ_ _=>False
noncomputable abbrev TS:=iW->St->Hp->Prop
noncomputable def EP(X:Cx)(pins:List (Addr×Obj))(σ:St)(Q:VK)(u:Value)(s':Shared):Prop:=∃v H',Inv X pins σ H' s'/\RelV v u/\Q v H'
noncomputable def TP(X:Cx)(pins:List (Addr×Obj))(σ:St)(Q:Bool->Hp->Prop)(b:Bool)(s':Shared):Prop:=∃H',Inv X pins σ H' s'/\Q b H'
noncomputable def AP(X:Cx)(pins:List (Addr×Obj))(σ:St)(Q:List V->Hp->Prop)(us:List Value)(s':Shared):Prop:=∃vs H',Inv X pins σ H' s'/\Vals vs us/\Q vs H'
noncomputable def SP(X:Cx)(pins:List (Addr×Obj))(D:iW)(f:Flow)(s':Shared):Prop:=
 match f with
 |.next=>∃σ' H',Inv X pins σ' H' s'/\D.nx σ' H'
 |.brk=>∃σ' H',Inv X pins σ' H' s'/\D.bk σ' H'
 |.cont=>∃σ' H',Inv X pins σ' H' s'/\D.ct σ' H'
 |.ret u=>∃v σ' H',Inv X pins σ' H' s'/\RelV v u/\D.rt v H'
noncomputable def PE(X:Cx)(e:Expr)(t:TE):Prop:=
 ∀(pins:List (Addr×Obj)) (s:Shared) (σ:St) (H:Hp) (Q:VK),Inv X pins σ H s->t σ H Q->wpAny (model X.prog X.w) X.A (eval e X.env) (EP X pins σ Q) X.xe s
noncomputable def PT(X:Cx)(e:Expr)(t:TT):Prop:=
 ∀(pins:List (Addr×Obj)) (s:Shared) (σ:St) (H:Hp) (Q:Bool->Hp->Prop),Inv X pins σ H s->t σ H Q->wpAny (model X.prog X.w) X.A (isTrue e X.env (eval e X.env)) (TP X pins σ Q) X.xe s
noncomputable def PW(X:Cx)(e:Expr)(t:TT):Prop:=
 ∀(whole:Sem Value) (pins:List (Addr×Obj)) (s:Shared) (σ:St) (H:Hp) (Q:Bool->Hp->Prop),Inv X pins σ H s->t σ H Q->wpAny (model X.prog X.w) X.A (isTrue e X.env whole) (TP X pins σ Q) X.xe s
noncomputable def PA(X:Cx)(es:List Expr)(t:TA):Prop:=
 ∀(pos:Pos) (pins:List (Addr×Obj)) (s:Shared) (σ:St) (H:Hp) (Q:List V->Hp->Prop),Inv X pins σ H s->t σ H Q->wpAny (model X.prog X.w) X.A (spliced (backTo pos (starEach es X.env))) (AP X pins σ Q) X.xe s
noncomputable def PS(X:Cx)(st:Stmt)(t:TS):Prop:=
 ∀(pins:List (Addr×Obj)) (s:Shared) (σ:St) (H:Hp) (D:iW),Inv X pins σ H s->t D σ H->wpAny (model X.prog X.w) X.A (exec st X.env) (SP X pins D) X.xe s
noncomputable def PSs(X:Cx)(st:List Stmt)(t:TS):Prop:=
 ∀(pins:List (Addr×Obj)) (s:Shared) (σ:St) (H:Hp) (D:iW),Inv X pins σ H s->t D σ H->wpAny (model X.prog X.w) X.A (execs st X.env) (SP X pins D) X.xe s
theorem bx{α:Type}{t:Sem α}{Q Q':α->Shared->Prop}{M:Model}{A:Around}{E:Value->Shared->Prop}{s:Shared}(h:wpAny M A t Q E s)(hQ:∀a s,Q a s->Q' a s):wpAny M A t Q' E s:=wpAny_mono h hQ λ_ _ x=>x
end L2
namespace L2
open PySem PySem.Spec PyProof.Rows
section
variable {X:Cx}
noncomputable def Gk(i:Nat):TE:=λσ H Q=>∃v,σ[i]?=some (some v)/\Q v H
noncomputable def tC(v:V):TE:=λ_ H Q=>Q v H
theorem oh{i:Nat}{x:Str}(hN:X.N[i]?=some x)(hv:CM X.env.scope x)(hd:(x==("__debug__":Str))=false:=by decide)(hcd:(x==("__classdict__":Str))=false:=by decide):PE X (.Name x pos) (Gk i):=by
 intro pins s σ H Q I h;obtain⟨v,e,h⟩:=h;obtain⟨m,hn,hl⟩:=I.loc;obtain⟨u,r,l⟩:=hl i x v hN e hv;have fin:EP X pins σ Q u s:=⟨v,H,I,r,h⟩;rcases l with⟨hk,hm⟩|⟨hk,c,hc,hcell⟩
 ·exact wpAny_Name (wpAny_loadName_local I.ok.kind hk hn hm fin) hd
 ·rcases hk with hk|hk
  ·exact wpAny_Name (wpAny_loadName_cell I.ok.kind hk hc hcell fin) hd
  ·exact wpAny_Name (wpAny_loadName_free I.ok.kind hk hc hcell fin hcd) hd
theorem zL{i j pos}:PE X (.Constant (.int i) j pos) (tC (.int i)):=λ_ _ _ H _ I h=>wpAny_Constant_int ⟨.int i,H,I.tok _,⟨_,rfl⟩,h⟩
theorem CN{b j pos}:PE X (.Constant (.bool b) j pos) (tC (.bl b)):=λ_ _ _ H _ I h=>Constant_bool ⟨.bl b,H,I,rfl,h⟩
theorem zM{j pos}:PE X (.Constant .none j pos) (tC .non):=λ_ _ _ H _ I h=>Constant_none ⟨.non,H,I,rfl,h⟩
theorem zN{x j pos}:PE X (.Constant (.str x) j pos) (tC (.str x)):=λ_ _ _ H _ I h=>Calls.Constant_str ⟨.str x,H,I.tok _,⟨_,rfl⟩,h⟩
noncomputable def Gl(X:Cx)(x:Str):Prop:=X.env.kindOf x=some .globalImplicit
theorem lH{x:Str}{Q:Value->Shared->Prop}(I:Inv X pins σ H s)(hg:Gl X x)(hm:X.mg x=some u)(h:Q u s)(hd:(x==("__debug__":Str))=false:=by decide):wpAny (model X.prog X.w) X.A (eval (.Name x pos) X.env) Q E s:=
 Calls.Name_function_global I.ok.kind hg (Calls.loadGlobal_global (by rw[I.ok.glob];exact I.mod.glob.keeps I.bk) hm h) hd
theorem dQ{x:Str}{Q:Value->Shared->Prop}(I:Inv X pins σ H s)(hg:Gl X x)(hm:X.mg x=none)(hv:bootBuiltins x=some u)(h:Q u s)(hn:x≠"__name__":=by decide)(hd:(x==("__debug__":Str))=false:=by decide):wpAny (model X.prog X.w) X.A (eval (.Name x pos) X.env) Q E s:=by
 obtain⟨mb,h1,h2⟩:=I.mod.blt;exact Calls.Name_function_global I.ok.kind hg (Calls.loadGlobal_builtin (by rw[I.ok.glob];exact I.mod.glob.keeps I.bk) hm (by rw[I.ok.blt];exact h1.keeps I.bk) ((h2 x hn).trans hv) h) hd
theorem we{x:Str}(hg:Gl X x)(hm:X.mg x=some u)(r:RelV v u)(hd:(x==("__debug__":Str))=false:=by decide):PE X (.Name x pos) (tC v):=
 λ_ _ _ H _ I h=>lH I hg hm ⟨v,H,I,r,h⟩ hd
theorem wf{x:Str}(hg:Gl X x)(hm:X.mg x=none)(hv:bootBuiltins x=some u)(r:RelV v u)(hn:x≠"__name__":=by decide)(hd:(x==("__debug__":Str))=false:=by decide):PE X (.Name x pos) (tC v):=
 λ_ _ _ H _ I h=>dQ I hg hm hv ⟨v,H,I,r,h⟩ hn hd
variable {a b:Expr} {ta tb:TE} {pos:Pos}
variable {tA tB':TT} {rest:List Expr}
noncomputable def Gm(t u:TT):TT:=λσ H Q=>t σ H λc H1=>if c=true then u σ H1 Q else Q false H1
noncomputable def JB(t u:TT):TT:=λσ H Q=>t σ H λc H1=>if c=true then Q true H1 else u σ H1 Q
noncomputable def Gn(t:TT):TT:=λσ H Q=>t σ H λc H1=>Q (!c) H1
theorem wg(ha:PT X a tA):PW X (.BoolOp .And [a] pos) tA:=by
 intro wh pins s σ H Q I h;refine isTrue_and (bx (ha pins s σ H Q I h) λc s1 e=>?_)
 cases c with
 |true=>exact isTrue_and_nil e
 |false=>exact e
theorem zO(ha:PT X a tA):PW X (.BoolOp .Or [a] pos) tA:=by
 intro wh pins s σ H Q I h;refine isTrue_or (bx (ha pins s σ H Q I h) λc s1 e=>?_)
 cases c with
 |false=>exact isTrue_or_nil e
 |true=>exact e
theorem sO(ha:PT X a tA)(hb:PW X (.BoolOp .And (b::rest) pos) tB'):PW X (.BoolOp .And (a::b::rest) pos) (Gm tA tB'):=by
 intro wh pins s σ H Q I h;refine isTrue_and (bx (ha pins s σ H _ I h) λc s1 ⟨H1,I1,q1⟩=>?_)
 cases c with
 |true=>exact hb wh pins s1 σ H1 Q I1 q1
 |false=>exact⟨H1,I1,q1⟩
theorem yO(ha:PT X a tA)(hb:PW X (.BoolOp .Or (b::rest) pos) tB'):PW X (.BoolOp .Or (a::b::rest) pos) (JB tA tB'):=by
 intro wh pins s σ H Q I h;refine isTrue_or (bx (ha pins s σ H _ I h) λc s1 ⟨H1,I1,q1⟩=>?_)
 cases c with
 |true=>exact⟨H1,I1,q1⟩
 |false=>exact hb wh pins s1 σ H1 Q I1 q1
theorem zP(ha:PT X a tA):PT X (.UnaryOp .Not a pos) (Gn tA):=by
 intro pins s σ H Q I h;exact isTrue_not (ha pins s σ H (λc H1=>Q (!c) H1) I h)
noncomputable def CP(ta tb:TE):TE:=λσ H Q=>ta σ H λx H1=>∃c,x=.bl c/\if c=true then tb σ H1 Q else Q (.bl false) H1
noncomputable def Go(ta tb:TE):TE:=λσ H Q=>ta σ H λx H1=>∃c,x=.bl c/\if c=true then Q (.bl true) H1 else tb σ H1 Q
theorem zQ{op}(h:PE X a t):PE X (.BoolOp op [a] pos) t:=λpins s σ H Q I hw=>BoolOp_one (h pins s σ H Q I hw)
theorem sP(ha:PE X a ta)(hb:PE X (.BoolOp .And (b::rest) pos) tb):PE X (.BoolOp .And (a::b::rest) pos) (CP ta tb):=by
 intro pins s σ H Q I h;refine BoolOp_and (bx (ha pins s σ H _ I h) λv s1 ⟨x,H1,I1,r1,q1⟩=>?_);obtain⟨c,rfl,q1⟩:=q1;cases r1;refine wpAny_truthy_bool ?_
 cases c with
 |true=>exact hb pins s1 σ H1 Q I1 q1
 |false=>exact⟨.bl false,H1,I1,rfl,q1⟩
theorem yP(ha:PE X a ta)(hb:PE X (.BoolOp .Or (b::rest) pos) tb):PE X (.BoolOp .Or (a::b::rest) pos) (Go ta tb):=by
 intro pins s σ H Q I h;refine BoolOp_or (bx (ha pins s σ H _ I h) λv s1 ⟨x,H1,I1,r1,q1⟩=>?_);obtain⟨c,rfl,q1⟩:=q1;cases r1;refine wpAny_truthy_bool ?_
 cases c with
 |false=>exact hb pins s1 σ H1 Q I1 q1
 |true=>exact⟨.bl true,H1,I1,rfl,q1⟩
noncomputable def JC(t:TT)(ta tb:TE):TE:=λσ H Q=>t σ H λc H1=>if c=true then ta σ H1 Q else tb σ H1 Q
theorem mG{c:Expr}(hc:PT X c tA)(ha:PE X a ta)(hb:PE X b tb):PE X (.IfExp c a b pos) (JC tA ta tb):=by
 intro pins s σ H Q I h;refine wpAny_IfExp (bx (hc pins s σ H _ I h) λd s1 ⟨H1,I1,q1⟩=>?_)
 cases d with
 |true=>exact ha pins s1 σ H1 Q I1 q1
 |false=>exact hb pins s1 σ H1 Q I1 q1
end
end L2
namespace L2
open PySem PySem.Spec PyProof.Rows
noncomputable def SqL(K:Ka)(H:Hp)(a:Addr)(xs:List V):Prop:=
 Rd H a (.lst xs)\/
  ∃(o:Obj) (its:Array Value) (n:Nat),K.lookup a=some o/\o.cls=.type "list"/\o.dict=none/\o.data=.seq its n/\its.size<=sizeLine/\Vals xs its.toList
noncomputable def SqT(K:Ka)(H:Hp)(a:Addr)(xs:List V):Prop:=
 Rd H a (.tup xs)\/
  ∃(o:Obj) (its:Array Value) (n:Nat),K.lookup a=some o/\o.cls=.type "tuple"/\o.data=.seq its n/\its.size<=sizeLine/\Vals xs its.toList
noncomputable def Gp:Value->Option V
 |.none=>some .non
 |.bool b=>some (.bl b)
 |.int i _=>some (.int i)
 |.str x _=>some (.str x)
 |.bytes b _=>some (.byt b)
 |.float b _=>some (.flt b)
 |.ref a=>some (.ref a)
 |.type n=>some (.ty n)
 |_=>none
theorem RelV.abs(r:RelV x u):Gp u=some x:=by
 cases x with
 |non=>cases r;rfl
 |bl _=>cases r;rfl
 |int _=>obtain⟨t,rfl⟩:=r;rfl
 |str _=>obtain⟨t,rfl⟩:=r;rfl
 |byt _=>obtain⟨t,rfl⟩:=r;rfl
 |flt _=>obtain⟨t,rfl⟩:=r;rfl
 |ref _=>cases r;rfl
 |ty _=>cases r;rfl
theorem RelV.inj(r:RelV x u)(q:RelV y u):x=y:=Option.some.inj (r.abs.symm.trans q.abs)
theorem Vals.inj:∀{xs ys:List V} {us:List Value},Vals xs us->Vals ys us->xs=ys
 |_,_,_,.nil,.nil=>rfl
 |_,_,_,.cons r t,.cons r' t'=>by rw[r.inj r',Vals.inj t t']
section
variable {X:Cx} {pins:List (Addr×Obj)} {σ:St} {H:Hp} {s:Shared} {a:Addr} {xs ys:List V}
theorem SqL.of{K:Ka}(h:H a=some (.lst xs)):SqL K H a xs:=.inl (.inl h)
theorem SqT.of{K:Ka}(h:H a=some (.tup xs)):SqT K H a xs:=.inl (.inl h)
theorem Inv.list(I:Inv X pins σ H s)(h:SqL X.K H a xs):∃its:List Value,Vals xs its/\PlainL s.heap a its.toArray/\xs.length<=sizeLine:=by
 rcases h with h|⟨o,its,n,hk,hc,hd,hs,hz,r⟩
 ·obtain⟨z,its,n,r,e⟩:=h.ok I.hok;exact⟨its,r,⟨_,n,e,rfl,rfl,rfl⟩,z⟩
 ·refine⟨its.toList,r,⟨o,n,I.kIn a o hk,hc,hd,by simpa using hs⟩,?_⟩;have e:=r.length;simp only[LP] at e
  lia
theorem Inv.tuple(I:Inv X pins σ H s)(h:SqT X.K H a xs):∃its:List Value,Vals xs its/\IsTup s.heap a its.toArray/\xs.length<=sizeLine:=by
 rcases h with h|⟨o,its,n,hk,hc,hs,hz,r⟩
 ·obtain⟨z,its,r,p⟩:=h.ok I.hok;exact⟨its,r,p,z⟩
 ·refine⟨its.toList,r,⟨o,I.kIn a o hk,hc,n,by simpa using hs⟩,?_⟩;have e:=r.length;simp only[LP] at e
  lia
theorem Inv.list_inj(I:Inv X pins σ H s)(h:SqL X.K H a xs)(h':SqL X.K H a ys):xs=ys:=by
 obtain⟨its,r,⟨o,n,e,_,_,d⟩,_⟩:=I.list h;obtain⟨its',r',⟨o',n',e',_,_,d'⟩,_⟩:=I.list h';rw[e] at e';cases e';rw[d] at d';injection d' with d1 _;have:its=its':=by simpa using congrArg Array.toList d1
 subst this;exact r.inj r'
theorem Inv.tuple_inj(I:Inv X pins σ H s)(h:SqT X.K H a xs)(h':SqT X.K H a ys):xs=ys:=by
 obtain⟨its,r,⟨o,e,_,n,d⟩,_⟩:=I.tuple h;obtain⟨its',r',⟨o',e',_,n',d'⟩,_⟩:=I.tuple h';rw[e] at e';cases e';rw[d] at d';injection d' with d1 _;have:its=its':=by simpa using congrArg Array.toList d1
 subst this;exact r.inj r'
end
noncomputable abbrev Cx.wish(X:Cx)(E:Value->Shared->Prop):Cx:={ X with xe:=E }
noncomputable abbrev Cx.nox(X:Cx):Cx:=X.wish λ_ _=>False
theorem Cx.Ok.wish{X:Cx}(ok:X.Ok)(E:Value->Shared->Prop):(X.wish E).Ok:=
 ⟨ok.mod,ok.kind,ok.glob,ok.blt,ok.above,ok.inj,ok.has,ok.cab,ok.hd,ok.frames,ok.stk,ok.exf,ok.bs,ok.bsz,ok.noex,ok.exfs,ok.funs,ok.frf⟩
theorem Cx.Ok.unwish{X:Cx}(ok:(X.wish E).Ok):X.Ok:=
 ⟨ok.mod,ok.kind,ok.glob,ok.blt,ok.above,ok.inj,ok.has,ok.cab,ok.hd,ok.frames,ok.stk,ok.exf,ok.bs,ok.bsz,ok.noex,ok.exfs,ok.funs,ok.frf⟩
section
variable {X:Cx} {pins:List (Addr×Obj)} {σ:St} {H:Hp} {s:Shared} {E:Value->Shared->Prop}
theorem Inv.wish(I:Inv X pins σ H s)(E:Value->Shared->Prop):Inv (X.wish E) pins σ H s:=⟨I.ok.wish E,I.os,I.bare,I.base,I.loc,I.cell,I.free,I.freeC,I.pin,I.hok,I.len⟩
theorem Inv.unwish(I:Inv (X.wish E) pins σ H s):Inv X pins σ H s:=⟨I.ok.unwish,I.os,I.bare,I.base,I.loc,I.cell,I.free,I.freeC,I.pin,I.hok,I.len⟩
theorem SP.unwish(h:SP (X.wish E) pins D f s'):SP X pins D f s':=by
 cases f with
 |next=>obtain⟨σ',H',I,q⟩:=h;exact⟨σ',H',I.unwish,q⟩
 |brk=>obtain⟨σ',H',I,q⟩:=h;exact⟨σ',H',I.unwish,q⟩
 |cont=>obtain⟨σ',H',I,q⟩:=h;exact⟨σ',H',I.unwish,q⟩
 |ret u=>obtain⟨v,σ',H',I,r,q⟩:=h;exact⟨v,σ',H',I.unwish,r,q⟩
theorem PSs.nox{st:List Stmt}{t:TS}(h:PSs X.nox st t):PSs X st t:=λpins s σ H D I hw=>
 wpAny_mono (h pins s σ H D (I.wish _) hw) (λ_ _ q=>q.unwish) λ_ _ z=>False.elim z
end
section
variable {X:Cx} {st:Stmt} {rest:List Stmt} {t u:TS} {e:Expr} {te:TE} {pos:Pos}
noncomputable def sQ:TS:=λD σ H=>D.nx σ H
noncomputable def Gq(t u:TS):TS:=λD σ H=>t { D with nx:=u D } σ H
theorem wj:PSs X [] sQ:=λ_ _ σ H _ I h=>wpAny_execs_nil ⟨σ,H,I,h⟩
theorem sR(h1:PS X st t)(h2:PSs X rest u):PSs X (st::rest) (Gq t u):=by
 intro pins s σ H D I h;refine wpAny_execs_cons (bx (h1 pins s σ H { D with nx:=u D } I h) λf s1 q=>?_)
 cases f with
 |next=>
  obtain⟨σ',H',I',q⟩:=q;exact h2 pins s1 σ' H' D I' q
 |ret v=>exact q
 |brk=>exact q
 |cont=>exact q
theorem wk:PS X (.Pass pos) sQ:=λ_ _ σ H _ I h=>wpAny_Pass ⟨σ,H,I,h⟩
theorem Inv.quiet(I:Inv X pins σ H s):interactive X.env=false:=by simp[interactive,I.ok.kind]
theorem zR{x j pos pos'}:PS X (.Expr (.Constant (.str x) j pos) pos') sQ:=λ_ s σ H _ I h=>wpAny_Expr (Calls.Constant_str (show SP X _ _ .next { s with toks:=s.toks+1 } from⟨σ,H,I.tok _,h⟩)) I.quiet
noncomputable def CQ(te:TE):TS:=λD σ H=>te σ H λ_ H1=>D.nx σ H1
theorem wl(he:PE X e te)(hs:swapsWith e none pos.line X.env=pure false:=by rfl):PS X (.Expr e pos) (CQ te):=by
 intro pins s σ H D I h;exact wpAny_Expr_any (bx (he pins s σ H _ I h) λv s1 ⟨x,H1,I1,r1,q1⟩=>⟨σ,H1,I1,q1⟩) I.quiet hs
noncomputable def Gr(te:TE):TS:=λD σ H=>te σ H D.rt
theorem zS(he:PE X e te):PS X (.Return (some e) pos) (Gr te):=by
 intro pins s σ H D I h;exact wpAny_Return_some (bx (he pins s σ H _ I h) λv s1 ⟨x,H1,I1,r1,q1⟩=>⟨x,σ,H1,I1,r1,q1⟩)
noncomputable def Gs(c:TT)(t u:TS):TS:=λD σ H=>c σ H λb H1=>if b=true then t D σ H1 else u D σ H1
theorem yQ{c:Expr}{a b:List Stmt}{tc:TT}(hc:PT X c tc)(ha:PSs X a t)(hb:PSs X b u):PS X (.If c a b pos) (Gs tc t u):=by
 intro pins s σ H D I h;refine wpAny_If (bx (hc pins s σ H _ I h) λd s1 ⟨H1,I1,q1⟩=>?_)
 cases d with
 |true=>exact ha pins s1 σ H1 D I1 q1
 |false=>exact hb pins s1 σ H1 D I1 q1
end
noncomputable abbrev TG:=V->St->Hp->(St->Hp->Prop)->Prop
noncomputable abbrev sS:=List V->St->Hp->(St->Hp->Prop)->Prop
noncomputable def PG(X:Cx)(target:Expr)(t:TG):Prop:=
 ∀(pins:List (Addr×Obj)) (s:Shared) (σ:St) (H:Hp) (v:V) (u:Value) (Q:St->Hp->Prop),Inv X pins σ H s->RelV v u->t v σ H Q->
  wpAny (model X.prog X.w) X.A (assign target X.env u) (λ_ s'=>∃σ' H',Inv X pins σ' H' s'/\Q σ' H') X.xe s
noncomputable def zT(X:Cx)(ts:List Expr)(t:sS):Prop:=
 ∀(pins:List (Addr×Obj)) (s:Shared) (σ:St) (H:Hp) (vs:List V) (us:List Value) (Q:St->Hp->Prop),Inv X pins σ H s->Vals vs us->t vs σ H Q->
  wpAny (model X.prog X.w) X.A (assignInOrder ((assignEach ts X.env).map (·.2)) us) (λ_ s'=>∃σ' H',Inv X pins σ' H' s'/\Q σ' H') X.xe s
noncomputable abbrev zU:=V->V->V->Hp->(Hp->Prop)->Prop
noncomputable def CS(X:Cx)(t:zU):Prop:=
 ∀(pins:List (Addr×Obj)) (s:Shared) (σ:St) (H:Hp) (o i v:V) (ov iv u:Value) (Q:Hp->Prop),Inv X pins σ H s->RelV o ov->RelV i iv->RelV v u->t o i v H Q->
  wpAny (model X.prog X.w) X.A (setItem ov iv u) (λ_ s'=>∃H',Inv X pins σ H' s'/\Q H') X.xe s
noncomputable abbrev Gu:=V->V->Hp->VK->Prop
noncomputable def Jh(X:Cx)(op:Operator)(t:Gu):Prop:=
 ∀(pins:List (Addr×Obj)) (s:Shared) (σ:St) (H:Hp) (x y:V) (v u:Value) (Q:VK),Inv X pins σ H s->RelV x v->RelV y u->t x y H Q->
  wpAny (model X.prog X.w) X.A (inplaceOp op v u) (EP X pins σ Q) X.xe s
section
variable {X:Cx} {pos:Pos}
noncomputable def jo(i:Nat):TG:=λv σ H Q=>Q (σ.set i (some v)) H
theorem pQ{i:Nat}{x:Str}(hN:X.N.Nodup)(hi:X.N[i]?=some x)(hx:zK X.env.scope x)(hf:X.fn x=true\/X.env.scope.names.lookup x=some .local:=by first|exact .inl rfl|exact .inr rfl|assumption):PG X (.Name x pos) (jo i):=by
 intro pins s σ H v u Q I r h;exact wpAny_assign_Name (eN I hN hi hx r (λs' I'=>⟨_,H,I',h⟩) hf)
noncomputable def zV:sS:=λvs σ H Q=>vs=[]/\Q σ H
noncomputable def sT(t:TG)(u:sS):sS:=λvs σ H Q=>∃v r,vs=v::r/\t v σ H λσ' H'=>u r σ' H' Q
theorem pR:zT X [] zV:=by
 intro pins s σ H vs us Q I r h;obtain⟨e,h⟩:=h;subst e;cases r;exact assignInOrder_nil ⟨σ,H,I,h⟩
theorem mH{e:Expr}{es:List Expr}{t:TG}{u:sS}(h1:PG X e t)(h2:zT X es u)
  (hs:(assignEach (e::es) X.env).map (·.2)=assign e X.env::(assignEach es X.env).map (·.2):=by rfl):zT X (e::es) (sT t u):=by
 intro pins s σ H vs us Q I r h;obtain⟨v,vr,e1,h⟩:=h;subst e1
 cases r with
 |cons r rr=>
  rw[hs];refine assignInOrder_cons (bx (h1 pins s σ H _ _ _ I r h) λ_ s1 ⟨σ1,H1,I1,q1⟩=>?_);exact h2 pins s1 σ1 H1 _ _ Q I1 rr q1
noncomputable def CT(K:Ka)(n:Nat)(t:sS):TG:=λv σ H Q=>∃a xs,v=.ref a/\SqT K H a xs/\xs.length=n/\t xs σ H Q
theorem sU{k:Nat}{n:Nat}(hc:X.calm=true)(h:zT X es t)(hn:(assignEach es X.env).length=n:=by rfl)(hst:(assignEach es X.env).findIdx? (·.1)=none:=by rfl):PG X (.Tuple es k pos) (CT X.K n t):=by
 intro pins s σ H v u Q I r hw;obtain⟨a,xs,e1,hq,hl,hw⟩:=hw;subst e1;cases r;obtain⟨its,rv,ht,hz⟩:=I.tuple hq;refine assign_Tuple_tuple (I.ok.hd hc) ht (by simp[hn,<- hl,rv.length]) hst λh' hx=>?_;have I1:Inv X pins σ H { s with heap:=h' }:=I.kept (t':=s.toks) λb o e=>hx b o (KB (Kl e)) e;exact h pins _ σ H xs _ Q I1 (by simpa using rv) hw
noncomputable def Gv(to ti:TE)(t:zU):TG:=λv σ H Q=>to σ H λo H1=>ti σ H1 λi H2=>t o i v H2 λH3=>Q σ H3
theorem sV{o i:Expr}{to ti:TE}{t:zU}(ho:PE X o to)(hi:PE X i ti)(hs:CS X t)
  (ha:∀v,assign (.Subscript o i pos) X.env v=(do
   let ov <- holding [v] (eval o X.env);let iv <- holding [v,ov] (eval i X.env)
   standAt pos
   holding [v,ov,iv] (setItem ov iv v)
   release [v,ov,iv] []):=by intro _;rfl):PG X (.Subscript o i pos) (Gv to ti t):=by
 intro pins s σ H v u Q I r h;rw[ha];refine wpAny_bind (wpAny_holding (bx (ho pins s σ H _ I h) λov s1 ⟨x,H1,I1,r1,q1⟩=>?_));refine wpAny_bind (wpAny_holding (bx (hi pins s1 σ H1 _ I1 q1) λiv s2 ⟨y,H2,I2,r2,q2⟩=>?_));refine wpAny_bind (wpAny_standAt (wpAny_bind (wpAny_holding (bx (hs pins s2 σ H2 x y v ov iv u _ I2 r1 r2 r q2) λ_ s3 ⟨H3,I3,q3⟩=>?_))));exact wpAny_release ⟨σ,H3,I3,q3⟩
noncomputable def zW(te:TE)(g:TG):TS:=λD σ H=>te σ H λx H1=>g x σ H1 D.nx
theorem lI{tg e:Expr}{te:TE}{g:TG}(he:PE X e te)(hg:PG X tg g)(hs:swapsWithSole [tg] e pos.line X.env=pure false:=by rfl)(hw:swappedStores [tg] e X.env=pure none:=by rfl)
  (h1:(assignEach [tg] X.env).map (·.2)=[assign tg X.env]:=by rfl):PS X (.Assign [tg] e pos) (zW te g):=by
 intro pins s σ H D I h;refine wpAny_Assign_stores (bx (he pins s σ H _ I h) λv s1 ⟨x,H1,I1,r1,q1⟩=>?_) hs hw;rw[h1];exact bx (hg pins s1 σ H1 x v _ I1 r1 q1) λ_ s2 q=>q
theorem sW{i:Nat}{x:Str}{e:Expr}{te:TE}{pos':Pos}(hN:X.N.Nodup)(hi:X.N[i]?=some x)(hx:zK X.env.scope x)(he:PE X e te)(hs:swapsWith e (some (.Name x pos')) pos.line X.env=pure false:=by rfl)(hf:X.fn x=true\/X.env.scope.names.lookup x=some .local:=by first|exact .inl rfl|exact .inr rfl|assumption) :
  PS X (.Assign [.Name x pos'] e pos) (zW te (jo i)):=by
 intro pins s σ H D I h;refine wpAny_Assign_Name (bx (he pins s σ H _ I h) λv s1 ⟨y,H1,I1,r1,q1⟩=>?_) hs;exact eN I1 hN hi hx r1 (λs2 I2=>⟨_,H1,I2,q1⟩) hf
noncomputable def Gw(i j:Nat)(ta:TA):TS:=λD σ H=>ta σ H λvs H1=>∃v w,vs=[v,w]/\D.nx ((σ.set i (some v)).set j (some w)) H1
theorem zX{i j:Nat}{x y:Str}{a b:Expr}{ta:TA}{px py pt:Pos}{kt k2 pt2}(hc:X.calm=true)(hN:X.N.Nodup)(hi:X.N[i]?=some x)(hj:X.N[j]?=some y)(hij:i≠j)
  (hx:X.env.scope.names.lookup x=some .local) (hy:X.env.scope.names.lookup y=some .local) (ha:PA X [a,b] ta)
  (hw:swappedStores [.Tuple [.Name x px,.Name y py] kt pt] (.Tuple [a,b] k2 pt2) X.env=pure (some [x,y]))
  (hs:swapsWithSole [.Tuple [.Name x px,.Name y py] kt pt] (.Tuple [a,b] k2 pt2) pos.line X.env=pure false:=by rfl) :
  PS X (.Assign [.Tuple [.Name x px,.Name y py] kt pt] (.Tuple [a,b] k2 pt2) pos) (Gw i j ta):=by
 intro pins s σ H D I h;rw[exec_Assign_arm];refine wpAny_bind (wpAny_standAt ?_);rw[hs];refine wpAny_bind (wpAny_pure ?_);rw[if_neg (by decide)];refine wpAny_bind (Tuple_ (bx (ha _ pins s σ H _ I h) λus s1 ⟨vs,H1,I1,r1,q1⟩=>?_));obtain⟨v,w,e1,q1⟩:=q1;subst e1
 obtain⟨u1,u2,rfl,rv,rw'⟩:∃u1 u2,us=[u1,u2]/\RelV v u1/\RelV w u2:=by
  cases r1 with
  |cons p q=>
   cases q with
   |cons p' q'=>
    cases q';exact⟨_,_,rfl,p,p'⟩
 refine wpAny_newObj_type ?_ (by show 2<=sizeLine;decide);have I2:Inv X pins σ H1 { s1 with heap:=s1.heap.push { cls:=.type "tuple",data:=.seq [u1,u2].toArray } }:=I1.kept (t':=s1.toks) λb o e=>Kj _ e;rw[hw];refine wpAny_bind (wpAny_pure ?_)
 show wpAny (model X.prog X.w) X.A (do rule "assign.swapped-stores";let items <- unpackItems (.ref s1.heap.objs.size) 2 none;assignInOrder [λv=>bindName X.env y v,λv=>bindName X.env x v] items.reverse;pure Flow.next) _ _ _
 refine wpAny_bind (wpAny_rule (wpAny_bind (unpackItems_tuple (items:=#[u1,u2]) (I.ok.hd hc) (IsTup.new s1.heap _) λh' hx'=>?_)));have I3:=I2.kept (h':=h') (t':=s1.toks) λb o e=>hx' b o (KB (Kl e)) e
 show wpAny _ _ (assignInOrder [λv=>bindName X.env y v,λv=>bindName X.env x v] [u2,u1] >>= λ_=>pure Flow.next) _ _ _
 refine wpAny_bind (assignInOrder_cons (wpAny_bindName (eN I3 hN hj (.inl hy) rw' (λs2 I4=>?_) (.inr hy))));refine assignInOrder_cons (wpAny_bindName (eN I4 hN hi (.inl hx) rv (λs3 I5=>assignInOrder_nil (wpAny_pure ?_)) (.inr hx)));rw[List.set_comm _ _ (Ne.symm hij)] at I5;exact⟨_,H1,I5,q1⟩
noncomputable def Gx(i:Nat)(te:TE)(ti:Gu):TS:=λD σ H=>∃x,σ[i]?=some (some x)/\te σ H λy H1=>ti x y H1 λz H2=>D.nx (σ.set i (some z)) H2
theorem zY{i:Nat}{x:Str}{e:Expr}{te:TE}{op:Operator}{ti:Gu}{pos':Pos}(hN:X.N.Nodup)(hi:X.N[i]?=some x)(hx:zK X.env.scope x)(he:PE X e te)(ho:Jh X op ti)(hf:X.fn x=true\/X.env.scope.names.lookup x=some .local:=by first|exact .inl rfl|exact .inr rfl|assumption) :
  PS X (.AugAssign (.Name x pos') op e pos) (Gx i te ti):=by
 intro pins s σ H D I h;obtain⟨v,e1,h⟩:=h;obtain⟨m,hn,hl⟩:=I.loc;have vis:CM X.env.scope x:=by rcases hx with k|k;exact .inl k;exact .inr (.inl k)
 obtain⟨u,r,l⟩:=hl i x v hi e1 vis;refine wpAny_AugAssign_Name ?_
 have go:wpAny (model X.prog X.w) X.A (eval e X.env) (λw s₂=>wpAny (model X.prog X.w) X.A (inplaceOp op u w) (λr s₃=>wpAny (model X.prog X.w) X.A (storeName X.env x r) (λ_=>SP X pins D .next) X.xe s₃) X.xe s₂) X.xe s:=by
  refine bx (he pins s σ H _ I h) λw s1 ⟨y,H1,I1,r1,q1⟩=>?_;refine bx (ho pins s1 σ H1 v y u w _ I1 r r1 q1) λz s2 ⟨zv,H2,I2,r2,q2⟩=>?_;exact eN I2 hN hi hx r2 (λs3 I3=>⟨_,H2,I3,q2⟩) hf
 rcases l with⟨hk,hm⟩|⟨hk,c,hc,hcell⟩
 ·exact wpAny_loadName_local I.ok.kind hk hn hm go
 ·rcases hk with hk|hk
  ·exact wpAny_loadName_cell I.ok.kind hk hc hcell go
  ·rcases hx with k|k
   ·have:X.env.scope.names.lookup x=some .free:=hk;rw[k] at this;cases this
   ·have:X.env.scope.names.lookup x=some .free:=hk;rw[k] at this;cases this
end
section
variable {X:Cx} {pos:Pos}
noncomputable def zZ(c:TT)(tb:TS):TS:=λD σ H=>∃W:Nat->St->Hp->Prop,(∃m,W m σ H)/\∀m σ H,W m σ H->
 c σ H λb H1=>if b=true then ∃N:St->Hp->Prop,(∀σ' H',N σ' H'->∃m',m'<m/\W m' σ' H')/\tb { D with nx:=N,ct:=N,bk:=D.nx } σ H1 else D.nx σ H1
theorem sX{c:Expr}{body:List Stmt}{tc:TT}{tb:TS}(hp:PassesOwn (model X.prog X.w) X.A X.env X.xe)(hc:PT X c tc)(hb:PSs X body tb):PS X (.While c body [] pos) (zZ tc tb):=by
 intro pins s σ H D I h;obtain⟨W,⟨m0,w0⟩,turn⟩:=h;refine wpAny_While (codeAny_whileLoop (λn s'=>∃σ' H',Inv X pins σ' H' s'/\W n σ' H') ?_ m0 ⟨σ,H,I,w0⟩)
 rintro n s1 ⟨σ1,H1,I1,w1⟩
 refine wpAny_passesOwn hp (bx (hc pins s1 σ1 H1 _ I1 (turn n σ1 H1 w1)) λb s2 ⟨H2,I2,q2⟩=>?_)
 cases b with
 |true=>
  obtain⟨N,hN,q2⟩:=q2;rw[if_pos rfl];refine wpAny_passesOwn hp (bx (hb pins s2 σ1 H2 _ I2 q2) λf s3 q3=>?_)
  cases f with
  |next=>
   obtain⟨σ3,H3,I3,n3⟩:=q3;obtain⟨m',hm,w3⟩:=hN σ3 H3 n3;exact⟨m',hm,σ3,H3,I3,w3⟩
  |cont=>
   obtain⟨σ3,H3,I3,n3⟩:=q3;obtain⟨m',hm,w3⟩:=hN σ3 H3 n3;exact⟨m',hm,σ3,H3,I3,w3⟩
  |brk=>exact q3
  |ret v=>exact q3
 |false=>
  rw[if_neg K4];exact wpAny_execs_nil ⟨σ1,H2,I2,q2⟩
end
structure It where
 go:Nat->Hp->Prop
 yld:Nat->Hp->V->Hp->Prop
 stop:Nat->Hp->Prop
noncomputable def jp(X:Cx)(pins:List (Addr×Obj))(H:Hp)(b:Addr):Prop:=
 H b=none/\b≠X.env.locals/\b∉X.fs/\(b∈X.ex\/X.s₀.heap.objs.size<=b)/\(∀x c,X.env.cells.lookup x=some c->c≠b)/\∀p∈X.pn++pins,p.1≠b
theorem Inv.fpOk{H H':Hp}{s:Shared}(I:Inv X pins σ H s)(hb:s.heap.objs.size<=b)(hn:H' b=none):jp X pins H' b:=by
 refine⟨hn,Lm (Km I.lt hb),I.nofs hb,.inr (KF I.sz hb),λx c e z=>?_,λp hp z=>?_⟩
 ·obtain⟨v,q⟩:=I.cell x c e;exact absurd (Km q.lt (by rw[z];exact hb)) (Ld _)
 ·exact absurd (Km (Kl (I.pin p hp).1) (by rw[z];exact hb)) (Ld _)
structure mI(P:Program)(w:World)(K:Ka)(tg:Expr)(J:It)(fp:List Addr)(it:Addr)(tn:Nat->Heap->Prop):Prop where
 mem:it∈fp
 obj:∀i h,tn i h->∀b∈fp,∃o,h.get? b=some o/\∀v,o.data≠.cell v
 keep:∀i h h',tn i h->(∀b∈fp,∀o,h.get? b=some o->h'.get? b=some o)->tn i h'
 item:∀(X:Cx),X.prog=P->X.w=w->X.K=K->X.calm=true->∀(i:Nat) (pins:List (Addr×Obj)) (s:Shared) (σ:St) (H:Hp) (E:Value->Shared->Prop),Inv X pins σ H s->(∀b∈fp,jp X pins H b)->tn i s.heap->J.go i H->
  wpAny (model P w) X.A (pyNext (.ref it)) (λr s1=>∃u,r=some u/\
   wpAny (model P w) X.A (letOwnedTupleGo tg (.ref it) u) (λ_ s2=>∃x H',Inv X pins σ H' s2/\RelV x u/\J.yld i H x H'/\tn (i+1) s2.heap/\∀b∈fp,H' b=none) E s1) E s
 done:∀(X:Cx),X.prog=P->X.w=w->X.K=K->X.calm=true->∀(i:Nat) (pins:List (Addr×Obj)) (s:Shared) (σ:St) (H:Hp) (E:Value->Shared->Prop),Inv X pins σ H s->(∀b∈fp,jp X pins H b)->tn i s.heap->J.stop i H->
  wpAny (model P w) X.A (pyNext (.ref it)) (λr s1=>r=none/\Inv X pins σ H s1) E s
 self:∀(A:Around) (i:Nat) (s:Shared) (Q:Value->Shared->Prop) (E:Value->Shared->Prop),tn i s.heap->Q (.ref it) s->wpAny (model P w) A (pyIter (.ref it)) Q E s
noncomputable abbrev TI:=St->Hp->(It->Hp->Prop)->Prop
noncomputable def Gy(X:Cx)(pins:List (Addr×Obj))(σ:St)(tg:Expr)(R:It->Hp->Prop)(itv:Value)(s2:Shared):Prop:=
 ∃(it:Addr) (fp:List Addr) (tn:Nat->Heap->Prop) (J:It) (H':Hp),itv=.ref it/\Inv X pins σ H' s2/\mI X.prog X.w X.K tg J fp it tn/\tn 0 s2.heap/\(∀b∈fp,jp X pins H' b)/\R J H'
noncomputable def PI(X:Cx)(tg iter:Expr)(wi:TI):Prop:=
 ∀(pins:List (Addr×Obj)) (s:Shared) (σ:St) (H:Hp) (R:It->Hp->Prop),Inv X pins σ H s->wi σ H R->
  wpAny (model X.prog X.w) X.A (eval iter X.env) (λv s1=>wpAny (model X.prog X.w) X.A (pyIter v) (Gy X pins σ tg R) X.xe s1) X.xe s
theorem pS{s:Shared}{o:Obj}{n:String}{Q:Unit->Shared->Prop}(ho:s.heap.get? it=some o)(hc:o.cls=.type n)(hd:o.data=.fields vs)(hn:["enumerate","zip","dict_itemiterator","dict_reverseitemiterator","odict_iterator","itertools.zip_longest","itertools.pairwise"].contains n=false)(hQ:Q () s):wpAny M A (letOwnedTupleGo tg (.ref it) u) Q E s:=by
  unfold letOwnedTupleGo
  cases tg<;>first
    |exact wpAny_pure hQ
    |(cases u<;>first
        |exact wpAny_pure hQ
        | (refine wpAny_bind (wpAny_load ho ?_)
           rw[hc,hd]
           show wpAny M A (if(["enumerate","zip","dict_itemiterator","dict_reverseitemiterator","odict_iterator","itertools.zip_longest","itertools.pairwise"].contains n&&vs[0]?==some (rawInt _))=true then _ else _) Q E s
           rw[if_neg (by intro h;rw[hn,Bool.false_and] at h;cases h)];exact wpAny_pure hQ))
noncomputable def Cu(K:Ka)(a:Addr):It:=
 ⟨λi H=>∃xs x,SqL K H a xs/\xs[i]?=some x,λi H x H'=>H'=H/\∀xs,SqL K H a xs->xs[i]?=some x,λi H=>∃xs,SqL K H a xs/\xs.length<=i⟩
noncomputable def Gz(K:Ka)(a:Addr):It:=
 ⟨λi H=>∃xs x,SqT K H a xs/\xs[i]?=some x,λi H x H'=>H'=H/\∀xs,SqT K H a xs->xs[i]?=some x,λi H=>∃xs,SqT K H a xs/\xs.length<=i⟩
noncomputable def CU(lo:Int)(n:Nat):It:=⟨λi _=>i<n,λi H x H'=>H'=H/\x=.int (lo+i),λi _=>n<=i⟩
theorem rc{P:Program}{w:World}{K:Ka}{tg:Expr}(a it:Addr):mI P w K tg (Cu K a) [it] it (λi h=>h.IsListIter it a i) where
 mem:=by simp
 obj:=λi h st b hb=>by
  have e:b=it:=by simpa using hb
  subst e;obtain⟨o,e,c,d⟩:=st;exact⟨o,e,λv z=>by rw[d] at z;cases z⟩
 keep:=λi h h' st k=>st.at λo e=>k it (by simp) o e
 item:=by
  intro X hP hw hK hc i pins s σ H E I hf st hg;subst hP hw hK;obtain⟨xs,x,hq,hx⟩:=hg;obtain⟨its,rv,p,hz⟩:=I.list hq;obtain⟨u,hu,ru⟩:=rv.get hx;obtain⟨f0,f1,f2,f3,f4,f5⟩:=hf it (by simp);refine wpAny_pyNext_list_item st p.isList (x:=u) (by simpa using hu) λh' st' sb=>?_;have I1:Inv X pins σ H { s with heap:=h' }:=I.turned (t':=s.toks) (λb o hb e=>(sb.2 b hb).trans e) f0 f1 f3 f4 f5;obtain⟨o,e,c,d⟩:=id st';exact⟨u,rfl,pS (s:={ s with heap:=h' }) e c d (by decide) ⟨x,H,I1,ru,⟨rfl,λys hy=>by rw[I.list_inj hy hq];exact hx⟩,st',λb hb=>(hf b hb).1⟩⟩
 done:=by
  intro X hP hw hK hc i pins s σ H E I hf st hg;subst hP hw hK;obtain⟨xs,hq,hx⟩:=hg;obtain⟨its,rv,p,hz⟩:=I.list hq;obtain⟨f0,f1,f2,f3,f4,f5⟩:=hf it (by simp);have hl:=rv.length;exact wpAny_pyNext_list_end (I.ok.hd hc) st p.isList (by simp;lia) λh' eb=>⟨rfl,I.turned (t':=s.toks) (λb o hb e=>eb b o hb e) f0 f1 f3 f4 f5⟩
 self:=λ_ _ _ _ _ st h=>wpAny_pyIter_listiter st h
theorem oj{P:Program}{w:World}{K:Ka}{tg:Expr}(a it:Addr):mI P w K tg (Gz K a) [it] it (λi h=>h.IsTupleIter it a i) where
 mem:=by simp
 obj:=λi h st b hb=>by
  have e:b=it:=by simpa using hb
  subst e;obtain⟨o,e,c,d⟩:=st;exact⟨o,e,λv z=>by rw[d] at z;cases z⟩
 keep:=λi h h' st k=>st.at λo e=>k it (by simp) o e
 item:=by
  intro X hP hw hK hc i pins s σ H E I hf st hg;subst hP hw hK;obtain⟨xs,x,hq,hx⟩:=hg;obtain⟨its,rv,p,hz⟩:=I.tuple hq;obtain⟨u,hu,ru⟩:=rv.get hx;obtain⟨f0,f1,f2,f3,f4,f5⟩:=hf it (by simp);refine wpAny_pyNext_tuple_item st (show s.heap.IsTuple a its.toArray from p) (x:=u) (by simpa using hu) λh' st' sb=>?_;have I1:Inv X pins σ H { s with heap:=h' }:=I.turned (t':=s.toks) (λb o hb e=>(sb.2 b hb).trans e) f0 f1 f3 f4 f5;obtain⟨o,e,c,d⟩:=id st';exact⟨u,rfl,pS (s:={ s with heap:=h' }) e c d (by decide) ⟨x,H,I1,ru,⟨rfl,λys hy=>by rw[I.tuple_inj hy hq];exact hx⟩,st',λb hb=>(hf b hb).1⟩⟩
 done:=by
  intro X hP hw hK hc i pins s σ H E I hf st hg;subst hP hw hK;obtain⟨xs,hq,hx⟩:=hg;obtain⟨its,rv,p,hz⟩:=I.tuple hq;obtain⟨f0,f1,f2,f3,f4,f5⟩:=hf it (by simp);have hl:=rv.length;exact wpAny_pyNext_tuple_end (I.ok.hd hc) st (show s.heap.IsTuple a its.toArray from p) (by simp;lia) λh' eb=>⟨rfl,I.turned (t':=s.toks) (λb o hb e=>eb b o hb e) f0 f1 f3 f4 f5⟩
 self:=λ_ _ _ _ _ st h=>wpAny_pyIter_tupleiter st h
theorem ol{P:Program}{w:World}{K:Ka}{tg:Expr}(it:Addr)(lo:Int)(n:Nat):mI P w K tg (CU lo n) [it] it (λi h=>IsRangeIter h it (lo+(i:Nat)*1) ((n:Int)-(i:Nat)) 1) where
 mem:=by simp
 obj:=λi h st b hb=>by
  have e:b=it:=by simpa using hb
  subst e
  exact⟨_,st,λv z=>by
   have z':Data.fields _=Data.cell v:=z;cases z'⟩
 keep:=λi h h' st k=>k it (by simp) _ st
 item:=by
  intro X hP hw hK hc i pins s σ H E I hf st hg;subst hP hw hK;obtain⟨f0,f1,f2,f3,f4,f5⟩:=hf it (by simp);have W:=Walks.range (prog:=X.prog) (w:=X.w) (I.ok.hd hc) it lo 1 n;refine W.item i s _ _ hg st λv h' tk hv st' kk=>?_;obtain⟨t,rfl⟩:=hv;have I1:Inv X pins σ H { s with heap:=h',toks:=tk }:=I.turned (λb o hb e=>kk b o (by simpa using hb) e) f0 f1 f3 f4 f5;refine⟨_,rfl,pS (s:={ s with heap:=h',toks:=tk }) (n:="range_iterator") st' rfl rfl (by decide) ⟨.int (lo+i),H,I1,⟨t,?_⟩,⟨rfl,rfl⟩,st',λb hb=>(hf b hb).1⟩⟩;rw[Int.mul_one]
 done:=by
  intro X hP hw hK hc i pins s σ H E I hf st hg;subst hP hw hK;obtain⟨f0,f1,f2,f3,f4,f5⟩:=hf it (by simp);exact wpAny_pyNext_range_end (I.ok.hd hc) st (by have:n<=i:=hg;lia) λh' eb=>⟨rfl,I.turned (t':=s.toks) (λb o hb e=>eb b o hb e) f0 f1 f3 f4 f5⟩
 self:=λ_ _ _ _ _ st h=>wpAny_pyIter_rangeiter st h
end L2
namespace L2
open PySem PySem.Spec PyProof.Rows
section
variable {X:Cx} {tg:Expr}
noncomputable def CV(K:Ka)(tl:TE):TI:=λσ H R=>tl σ H λx H1=>∃a,x=.ref a/\(∃xs,SqL K H1 a xs)/\R (Cu K a) H1
noncomputable def GA(K:Ka)(tl:TE):TI:=λσ H R=>tl σ H λx H1=>∃a,x=.ref a/\(∃xs,SqT K H1 a xs)/\R (Gz K a) H1
theorem wm{l:Expr}{tl:TE}(hl:PE X l tl):PI X tg l (CV X.K tl):=by
 intro pins s σ H R I h;refine bx (hl pins s σ H _ I h) λv s1 ⟨x,H1,I1,r1,q1⟩=>?_;obtain⟨a,e,⟨xs,hq⟩,q⟩:=q1;subst e;cases r1;obtain⟨its,rv,p,hz⟩:=I1.list hq;refine wpAny_pyIter_list p.isList ?_;refine⟨s1.heap.objs.size,[s1.heap.objs.size],_,_,H1,rfl,I1.kept (t':=s1.toks) λb o e=>Kj _ e,rc a _,⟨_,Ku _ rfl,rfl,rfl⟩,λb hb=>?_,q⟩;have e:b=s1.heap.objs.size:=by simpa using hb
 subst e;exact I1.fpOk (Ki _) (I1.hok.fresh (Ki _))
theorem z3{l:Expr}{tl:TE}(hl:PE X l tl):PI X tg l (GA X.K tl):=by
 intro pins s σ H R I h;refine bx (hl pins s σ H _ I h) λv s1 ⟨x,H1,I1,r1,q1⟩=>?_;obtain⟨a,e,⟨xs,hq⟩,q⟩:=q1;subst e;cases r1;obtain⟨its,rv,p,hz⟩:=I1.tuple hq;refine wpAny_pyIter_tuple (show s1.heap.IsTuple a its.toArray from p) ?_;refine⟨s1.heap.objs.size,[s1.heap.objs.size],_,_,H1,rfl,I1.kept (t':=s1.toks) λb o e=>Kj _ e,oj a _,⟨_,Ku _ rfl,rfl,rfl⟩,λb hb=>?_,q⟩;have e:b=s1.heap.objs.size:=by simpa using hb
 subst e;exact I1.fpOk (Ki _) (I1.hok.fresh (Ki _))
theorem mJ{s:Shared}{R:It->Hp->Prop}{lo hi:Int}{tk:Nat}(I:Inv X pins σ H s)(h1:-(2^62)<=lo)(h2:lo<2^62)(h3:-(2^62)<=hi)(h4:hi<2^62)(q:R (CU lo (hi-lo).toNat) H):wpAny (model X.prog X.w) X.A (pyIter (.ref s.heap.objs.size)) (Gy X pins σ tg R) E { s with heap:=s.heap.push { cls:=.type "range",data:=.fields #[.int lo t,.int hi u,.int 1 v] },toks:=tk }:=by
 refine wpAny_pyIter_range (IsRange.new ..) (small_one h1 h2 h3 h4) ?_;have I1:Inv X pins σ H { s with heap:=s.heap.push { cls:=.type "range",data:=.fields #[.int lo t,.int hi u,.int 1 v] },toks:=tk }:=I.kept λb o e=>Kj _ e
 refine⟨(s.heap.push { cls:=.type "range",data:=.fields #[.int lo t,.int hi u,.int 1 v] }).objs.size,[(s.heap.push { cls:=.type "range",data:=.fields #[.int lo t,.int hi u,.int 1 v] }).objs.size],_,_,H,rfl,
  I1.kept (t':=tk) λb o e=>Kj _ e,ol _ lo (hi-lo).toNat,?_,λb hb=>?_,q⟩
 ·have e1:lo+((0:Nat):Int)*1=lo:=by simp
  have e2:(((hi-lo).toNat:Nat):Int)-((0:Nat):Int)=Builtin.Range.rangeSize lo hi 1:=by rw[rangeSize_one];split<;>lia
  show IsRangeIter _ _ (lo+((0:Nat):Int)*1) ((((hi-lo).toNat:Nat):Int)-((0:Nat):Int)) 1;rw[e1,e2];exact Ku _ rfl
 ·have e:b=(s.heap.push { cls:=.type "range",data:=.fields #[.int lo t,.int hi u,.int 1 v] }).objs.size:=by simpa using hb
  subst e;exact I1.fpOk (Ki _) (I1.hok.fresh (Ki _))
noncomputable def CW(ta:TA):TI:=λσ H R=>ta σ H λvs H1=>∃j:Int,vs=[.int j]/\-(2^62)<=j/\j<2^62/\R (CU 0 j.toNat) H1
noncomputable def CY(ta:TA):TI:=λσ H R=>ta σ H λvs H1=>∃i j:Int,vs=[.int i,.int j]/\(-(2^62)<=i/\i<2^62/\-(2^62)<=j/\j<2^62)/\R (CU i (j-i).toNat) H1
theorem kQ{a:Expr}{ta:TA}{p pos:Pos}(hg:Gl X "range")(hm:X.mg "range" = none)(ha:PA X [a] ta)(hs:starEach [a] X.env=[(false,eval a X.env)]:=by rfl):PI X tg (.Call (.Name "range" p) [a] [] pos) (CW ta):=by
 intro pins s σ H R I h;refine Call_ (dQ I hg hm boot_range (PyProof.Rows.callWith_type1 (bx (ha pos pins s σ H _ I h) λus s1 ⟨vs,H1,I1,r1,q1⟩=>?_) hs rfl));obtain⟨j,e,q1,q2,q⟩:=q1;subst e
 cases r1 with
 |cons r rr=>
  cases rr;obtain⟨t,rfl⟩:=r;exact call_range_1 (mJ I1 (by lia) (by lia) q1 q2 (by simpa using q))
theorem rf{a b:Expr}{ta:TA}{p pos:Pos}(hg:Gl X "range")(hm:X.mg "range" = none)(ha:PA X [a,b] ta)(hs:starEach [a,b] X.env=[(false,eval a X.env),(false,eval b X.env)]:=by rfl)(hs2:starEach [b] X.env=[(false,eval b X.env)]:=by rfl) :
  PI X tg (.Call (.Name "range" p) [a,b] [] pos) (CY ta):=by
 intro pins s σ H R I h;refine Call_ (dQ I hg hm boot_range (PyProof.Rows.callWith_type1 (bx (ha pos pins s σ H _ I h) λus s1 ⟨vs,H1,I1,r1,q1⟩=>?_) (by rw[hs,hs2]) (by rw[hs2];rfl)));obtain⟨i,j,e,⟨q1,q2,q3,q4⟩,q⟩:=q1;subst e
 cases r1 with
 |cons r rr=>
  cases rr with
  |cons r' rr=>
   cases rr;obtain⟨t,rfl⟩:=r;obtain⟨t',rfl⟩:=r';exact call_range_2 (mJ I1 q1 q2 q3 q4 q)
noncomputable def GB(wi:TI)(g:TG)(tb:TS):TS:=λD σ H=>wi σ H λJ H1=>∃W:Nat->Nat->St->Hp->Prop,(∃m,W 0 m σ H1)/\∀i m σ H,W i m σ H->
 (J.stop i H/\D.nx σ H)\/(J.go i H/\∃N:St->Hp->Prop,(∀σ' H',N σ' H'->∃m',m'<m/\W (i+1) m' σ' H')/\∀x H',J.yld i H x H'->g x σ H' λσ2 H2=>tb { D with nx:=N,ct:=N,bk:=D.nx } σ2 H2)
noncomputable def lJ(fp:List Addr)(h:Heap):List (Addr×Obj):=fp.filterMap λb=>(h.get? b).map λo=>(b,o)
theorem cu{fp:List Addr}{h:Heap}(hb:b∈fp)(e:h.get? b=some o):(b,o)∈lJ fp h:=LS.mpr ⟨b,hb,by rw[e];rfl⟩
theorem rg{fp:List Addr}{h:Heap}{p:Addr×Obj}(hp:p∈lJ fp h):p.1∈fp/\h.get? p.1=some p.2:=by
 obtain⟨b,hb,e⟩:=LS.mp hp
 cases q:h.get? b with
 |none=>rw[q] at e;cases e
 |some o=>
  rw[q] at e;have e':(b,o)=p:=Option.some.inj e;subst e';exact⟨hb,q⟩
theorem Inv.pinned{pins:List (Addr×Obj)}{s:Shared}{fp:List Addr}(I:Inv X pins σ H s)(hf:∀b∈fp,jp X pins H b)(ho:∀b∈fp,∃o,s.heap.get? b=some o/\∀v,o.data≠.cell v):Inv X (pins++lJ fp s.heap) σ H s:=
 I.pins_of λp hp=>(Lb.mp hp).elim (λz=>I.pin p (Ky _ z)) λz=>by
  obtain⟨hb,e⟩:=rg z;obtain⟨f0,f1,f2,_⟩:=hf p.1 hb;obtain⟨o,e',d⟩:=ho p.1 hb;rw[e] at e';cases e';exact⟨e,f0,f1,f2,d⟩
theorem Inv.unpinned{pins pl:List (Addr×Obj)}(I:Inv X (pins++pl) σ H s):Inv X pins σ H s:=I.pins_of λp hp=>I.pin p (Ky _ (Lk _ hp))
theorem z4{iter:Expr}{body:List Stmt}{wi:TI}{g:TG}{tb:TS}{pos:Pos}(hp:PassesOwn (model X.prog X.w) X.A X.env X.xe)(hc:X.calm=true)(hi:PI X tg iter wi)(hg:PG X tg g)(hb:PSs X body tb)
  (hs:∀x,foldedSetIterable iter X.env x=pure x:=by intro _;rfl):PS X (.For tg iter body [] pos) (GB wi g tb):=by
 intro pins s σ H D I h;refine wpAny_For (bx (hi pins s σ H _ I h) λv s1 h1=>bx h1 λitv s2 h2=>?_) hs;obtain⟨it,fp,tn,J,H2,e,I2,T,st2,f2,W,⟨m0,w0⟩,turn⟩:=h2;subst e
 -- what stays true of the iterator's objects through the loop
 have stat:∀{H':Hp},(∀b∈fp,H' b=none)->∀b∈fp,jp X pins H' b:=λhn b hb=>⟨hn b hb,(f2 b hb).2⟩;refine codeAny_forLoop_any (λn s'=>∃i σ' H',Inv X pins σ' H' s'/\tn i s'.heap/\(∀b∈fp,H' b=none)/\W i n σ' H') ?_ m0 ⟨0,σ,H2,I2,st2,λb hb=>(f2 b hb).1,w0⟩
 rintro n s3 ⟨i,σ3,H3,I3,st3,fr3,w3⟩
 rcases turn i n σ3 H3 w3 with⟨stop,qn⟩|⟨go,N,hN,step⟩
 ·refine wpAny_passesOwn hp (bx (T.done X rfl rfl rfl hc i pins s3 σ3 H3 X.xe I3 (stat fr3) st3 stop) λr s4 ⟨hr,I4⟩=>?_);subst hr;exact wpAny_execs_nil ⟨σ3,H3,I4,qn⟩
 ·refine wpAny_passesOwn hp (bx (T.item X rfl rfl rfl hc i pins s3 σ3 H3 X.xe I3 (stat fr3) st3 go) λr s4 ⟨u,hr,h4⟩=>?_);subst hr;refine wpAny_passesOwn hp (bx h4 λ_ s5 ⟨x,H5,I5,r5,y5,st5,fr5⟩=>?_);have I5':=I5.pinned (stat fr5) (T.obj _ _ st5);refine wpAny_passesOwn hp (bx (hg _ s5 σ3 H5 x u _ I5' r5 (step x H5 y5)) λ_ s6 ⟨σ6,H6,I6,q6⟩=>?_);refine wpAny_passesOwn hp (bx (hb _ s6 σ6 H6 _ I6 q6) λf s7 q7=>?_)
  have again:∀{σ7:St} {H7:Hp},Inv X (pins++lJ fp s5.heap) σ7 H7 s7->N σ7 H7->∃m,m<n/\∃i σ' H',Inv X pins σ' H' s7/\tn i s7.heap/\(∀b∈fp,H' b=none)/\W i m σ' H':=λ{σ7 H7} I7 n7=>by
   obtain⟨m',hm,w7⟩:=hN σ7 H7 n7;refine⟨m',hm,i+1,σ7,H7,I7.unpinned,T.keep _ _ _ st5 λb hb o e=>(I7.pin (b,o) (Ky _ (Ky _ (cu hb e)))).1,λb hb=>?_,w7⟩;obtain⟨o,e,d⟩:=T.obj _ _ st5 b hb;exact(I7.pin (b,o) (Ky _ (Ky _ (cu hb e)))).2.1
  cases f with
  |next=>obtain⟨σ7,H7,I7,n7⟩:=q7;exact again I7 n7
  |cont=>obtain⟨σ7,H7,I7,n7⟩:=q7;exact again I7 n7
  |brk=>obtain⟨σ7,H7,I7,q7⟩:=q7;exact⟨σ7,H7,I7.unpinned,q7⟩
  |ret v=>obtain⟨x7,σ7,H7,I7,r7,q7⟩:=q7;exact⟨x7,σ7,H7,I7.unpinned,r7,q7⟩
end
end L2
namespace L2
open PySem PySem.Spec PyProof.Rows
noncomputable abbrev R2:=V->V->Hp->VK->Prop
noncomputable def fu(X:Cx)(f:Value->Value->Sem Value)(r:R2):Prop:=
 ∀(pins:List (Addr×Obj)) (s:Shared) (σ:St) (H:Hp) (x y:V) (v u:Value) (Q:VK),Inv X pins σ H s->RelV x v->RelV y u->r x y H Q->
  wpAny (model X.prog X.w) X.A (f v u) (EP X pins σ Q) X.xe s
noncomputable def GC(X:Cx)(f:Value->Sem Value)(r:V->Hp->VK->Prop):Prop:=
 ∀(pins:List (Addr×Obj)) (s:Shared) (σ:St) (H:Hp) (x:V) (v:Value) (Q:VK),Inv X pins σ H s->RelV x v->r x H Q->
  wpAny (model X.prog X.w) X.A (f v) (EP X pins σ Q) X.xe s
noncomputable def CallR(X:Cx)(f:Value)(r:List V->Hp->VK->Prop):Prop:=
 ∀(pins:List (Addr×Obj)) (s:Shared) (σ:St) (H:Hp) (xs:List V) (us:List Value) (Q:VK),Inv X pins σ H s->Vals xs us->r xs H Q->
  wpAny (model X.prog X.w) X.A (call f us) (EP X pins σ Q) X.xe s
noncomputable def GD(X:Cx)(r:V->Hp->(Bool->Hp->Prop)->Prop):Prop:=
 ∀(pins:List (Addr×Obj)) (s:Shared) (σ:St) (H:Hp) (x:V) (v:Value) (Q:Bool->Hp->Prop),Inv X pins σ H s->RelV x v->r x H Q->
  wpAny (model X.prog X.w) X.A (truthy v) (TP X pins σ Q) X.xe s
noncomputable def FD(r:R2)(ta tb:TE):TE:=λσ H Q=>ta σ H λx H1=>tb σ H1 λy H2=>r x y H2 Q
noncomputable def JD(r:V->Hp->VK->Prop)(ta:TE):TE:=λσ H Q=>ta σ H λx H1=>r x H1 Q
noncomputable def rI(C:Int->Int->Prop)(g:Int->Int->V):R2:=λx y H Q=>∃i j,x=.int i/\y=.int j/\C i j/\Q (g i j) H
noncomputable def n8(g:Int->Int->V):R2:=λx y H Q=>∃i j,x=.int i/\y=.int j/\Q (g i j) H
noncomputable def rU(g:Int->V):V->Hp->VK->Prop:=λx H Q=>∃i,x=.int i/\Q (g i) H
section
variable {X:Cx} {a b c:Expr} {ta tb tc:TE} {pos:Pos}
theorem z5(ha:PE X a ta)(hb:PE X b tb){pins:List (Addr×Obj)}{s:Shared}{σ:St}{H:Hp}{R:V->V->Hp->Prop}(I:Inv X pins σ H s)
  (h:ta σ H λx H1=>tb σ H1 λy H2=>R x y H2) {Q:Value->Shared->Prop} {f:Value->Value->Sem Value}
  (hf:∀v u s2 x y H2,Inv X pins σ H2 s2->RelV x v->RelV y u->R x y H2->wpAny (model X.prog X.w) X.A (f v u) Q X.xe s2) :
  wpAny (model X.prog X.w) X.A (eval a X.env) (λv s₁=>wpAny (model X.prog X.w) X.A (eval b X.env) (λu s₂=>wpAny (model X.prog X.w) X.A (f v u) Q X.xe s₂) X.xe s₁) X.xe s:=by
 refine bx (ha pins s σ H _ I h) λv s1 ⟨x,H1,I1,r1,q1⟩=>?_;refine bx (hb pins s1 σ H1 _ I1 q1) λu s2 ⟨y,H2,I2,r2,q2⟩=>?_;exact hf v u s2 x y H2 I2 r1 r2 q2
theorem yR(ho:fu X (binaryOp op) r)(ha:PE X a ta)(hb:PE X b tb):PE X (.BinOp a op b pos) (FD r ta tb):=by
 intro pins s σ H Q I h;exact wpAny_BinOp (z5 ha hb I h λv u s2 x y H2 I2 rx ry q=>ho pins s2 σ H2 x y v u Q I2 rx ry q)
theorem CZ{op:UnaryOp}{r:V->Hp->VK->Prop}(ho:GC X (unaryOp op) r)(ha:PE X a ta):PE X (.UnaryOp op a pos) (JD r ta):=by
 intro pins s σ H Q I h;exact UnaryOp_ (bx (ha pins s σ H _ I h) λv s1 ⟨x,H1,I1,r1,q1⟩=>ho pins s1 σ H1 x v Q I1 r1 q1)
theorem yS{f:Value->Value->Sem Value}{C:Int->Int->Prop}{g:Int->Int->Int}
  (rule:∀(i j:Int) (t u:Tok) (s:Shared) (Q:Value->Shared->Prop) (E:Value->Shared->Prop),C i j->Q (.int (g i j) s.toks) { s with toks:=s.toks+1 }->wpAny (model X.prog X.w) X.A (f (.int i t) (.int j u)) Q E s) :
  fu X f (rI C λi j=>.int (g i j)):=by
 intro pins s σ H x y v u Q I rx ry h;obtain⟨i,j,rfl,rfl,hc,q⟩:=h;obtain⟨t,rfl⟩:=rx;obtain⟨t',rfl⟩:=ry;exact rule i j t t' s _ _ hc ⟨.int (g i j),H,I.tok _,⟨_,rfl⟩,q⟩
theorem kw{f:Value->Value->Sem Value}{g:Int->Int->Int}
  (rule:∀(i j:Int) (t u:Tok) (s:Shared) (Q:Value->Shared->Prop) (E:Value->Shared->Prop),Q (.int (g i j) s.toks) { s with toks:=s.toks+1 }->wpAny (model X.prog X.w) X.A (f (.int i t) (.int j u)) Q E s) :
  fu X f (n8 λi j=>.int (g i j)):=by
 intro pins s σ H x y v u Q I rx ry h;obtain⟨i,j,rfl,rfl,q⟩:=h;obtain⟨t,rfl⟩:=rx;obtain⟨t',rfl⟩:=ry;exact rule i j t t' s _ _ ⟨.int (g i j),H,I.tok _,⟨_,rfl⟩,q⟩
theorem wn{f:Value->Value->Sem Value}{g:Int->Int->Bool}
  (rule:∀(i j:Int) (t u:Tok) (s:Shared) (Q:Value->Shared->Prop) (E:Value->Shared->Prop),Q (.bool (g i j)) s->wpAny (model X.prog X.w) X.A (f (.int i t) (.int j u)) Q E s) :
  fu X f (n8 λi j=>.bl (g i j)):=by
 intro pins s σ H x y v u Q I rx ry h;obtain⟨i,j,rfl,rfl,q⟩:=h;obtain⟨t,rfl⟩:=rx;obtain⟨t',rfl⟩:=ry;exact rule i j t t' s _ _ ⟨.bl (g i j),H,I,rfl,q⟩
noncomputable def GF(i j:Int):Prop:=0<=j/\j<=1000000/\i.natAbs<2^64
theorem jq(k:Nat):(0:Int)<=2^k:=by
 rw[two_pow_cast];exact Int.natCast_nonneg _
theorem z6:fu X (binaryOp .Add) (n8 λi j=>.int (i+j)):=kw λ_ _ _ _ _ _ _ q=>add_int q
theorem z7:fu X (binaryOp .Sub) (n8 λi j=>.int (i-j)):=kw λ_ _ _ _ _ _ _ q=>sub_int q
theorem z8:fu X (binaryOp .Mod) (rI (λ_ j=>0<j) λi j=>.int (i%j)):=yS λi j _ _ _ _ _ hc q=>by
 have h1:(0:Int)<j:=hc;exact mod_int' (by lia) (by rw[LW i (by lia)];exact q)
theorem z9:fu X (binaryOp .Pow) (rI GF λi j=>.int (i^j.toNat)):=yS λ_ _ _ _ _ _ _ hc q=>pow_int_small hc.1 hc.2.1 hc.2.2 q
theorem Aa:fu X (binaryOp .RShift) (rI (λ_ j=>0<=j) λi j=>.int (i / 2^j.toNat)):=yS λi j _ _ _ _ _ hc q=>
 rshift_int hc (by rw[Lz i (jq _)];exact q)
theorem Ab:fu X (binaryOp .BitAnd) (n8 λi j=>.int (Builtin.bitAnd i j)):=kw λ_ _ _ _ _ _ _ q=>and_int q
theorem C0:fu X (binaryOp .BitOr) (n8 λi j=>.int (Builtin.bitOr i j)):=kw λ_ _ _ _ _ _ _ q=>or_int q
theorem Ac:fu X (binaryOp .BitXor) (n8 λi j=>.int (Builtin.bitXor i j)):=kw λ_ _ _ _ _ _ _ q=>xor_int q
theorem wo:fu X (inplaceOp .Add) (n8 λi j=>.int (i+j)):=kw λ_ _ _ _ _ _ _ q=>iadd_int q
theorem wq:fu X (inplaceOp .Sub) (n8 λi j=>.int (i-j)):=kw λ_ _ _ _ _ _ _ q=>isub_int q
theorem wt:fu X (inplaceOp .Mod) (rI (λ_ j=>0<j) λi j=>.int (i%j)):=yS λi j _ _ _ _ _ hc q=>by
 have h1:(0:Int)<j:=hc;exact imod_int (by lia) (by rw[LW i (by lia)];exact q)
theorem wu:fu X (inplaceOp .RShift) (rI (λ_ j=>0<=j) λi j=>.int (i / 2^j.toNat)):=yS λi j _ _ _ _ _ hc q=>
 irshift_int hc (by rw[Lz i (jq _)];exact q)
theorem wv:fu X (inplaceOp .BitAnd) (n8 λi j=>.int (Builtin.bitAnd i j)):=kw λ_ _ _ _ _ _ _ q=>iand_int q
theorem Ad:fu X (inplaceOp .BitOr) (n8 λi j=>.int (Builtin.bitOr i j)):=kw λ_ _ _ _ _ _ _ q=>ior_int q
theorem ww:fu X (inplaceOp .BitXor) (n8 λi j=>.int (Builtin.bitXor i j)):=kw λ_ _ _ _ _ _ _ q=>ixor_int q
theorem JE{f:Value->Sem Value}{g:Int->Int}
  (rule:∀(i:Int) (t:Tok) (s:Shared) (Q:Value->Shared->Prop) (E:Value->Shared->Prop),Q (.int (g i) s.toks) { s with toks:=s.toks+1 }->wpAny (model X.prog X.w) X.A (f (.int i t)) Q E s) :
  GC X f (rU λi=>.int (g i)):=by
 intro pins s σ H x v Q I rx h;obtain⟨i,rfl,q⟩:=h;obtain⟨t,rfl⟩:=rx;exact rule i t s _ _ ⟨.int (g i),H,I.tok _,⟨_,rfl⟩,q⟩
theorem Ae:GC X (unaryOp .USub) (rU λi=>.int (-i)):=JE λ_ _ _ _ _ q=>neg_int q
end
section
variable {X:Cx} {a b c:Expr} {ta tb tc:TE} {pos:Pos}
theorem C3:fu X (compareOp .Lt) (n8 λi j=>.bl (decide (i<j))):=wn λ_ _ _ _ _ _ _ q=>lt_int q
theorem C4:fu X (compareOp .LtE) (n8 λi j=>.bl (decide (i<=j))):=wn λ_ _ _ _ _ _ _ q=>le_int q
theorem C5:fu X (compareOp .Gt) (n8 λi j=>.bl (decide (j<i))):=wn λ_ _ _ _ _ _ _ q=>gt_int q
theorem C6:fu X (compareOp .GtE) (n8 λi j=>.bl (decide (j<=i))):=wn λ_ _ _ _ _ _ _ q=>ge_int q
theorem wx{op:CmpOp}{r:R2}(ho:fu X (compareOp op) r)(ha:PE X a ta)(hb:PE X b tb)(hm:behindInMarks op b=false):PE X (.Compare a [op] [b] pos) (FD r ta tb):=by
 intro pins s σ H Q I h;exact wpAny_Compare1 (z5 ha hb I h λv u s2 x y H2 I2 rx ry q=>ho pins s2 σ H2 x y v u Q I2 rx ry q) hm
noncomputable def yT(t:TE):TT:=λσ H Q=>t σ H λx H'=>∃k,x=.bl k/\Q k H'
theorem pT{op:CmpOp}(ho:fu X (compareOp op) r)(ha:PE X a ta)(hb:PE X b tb)(hm:behindInMarks op b=false):PT X (.Compare a [op] [b] pos) (yT (FD r ta tb)):=by
 intro pins s σ H Q I h
 refine wpAny_isTrue_Compare1 (bx (ha pins s σ H _ I h) λv s1 ⟨x,H1,I1,r1,q1⟩=>bx (hb pins s1 σ H1 _ I1 q1) λu s2 ⟨y,H2,I2,r2,q2⟩=>
  bx (ho pins s2 σ H2 x y v u _ I2 r1 r2 q2) λc s3 ⟨z,H3,I3,r3,k,e,q3⟩=>?_) hm
 subst e;cases r3;exact wpAny_truthy_bool ⟨H3,I3,q3⟩
noncomputable def sY(r r':R2)(ta tb tc:TE):TE:=λσ H Q=>ta σ H λx H1=>tb σ H1 λy H2=>r x y H2 λz H3=>∃k,z=.bl k/\
 (if k=true then tc σ H3 λw' H4=>r' y w' H4 Q else Q (.bl false) H3)
theorem sZ(ho:fu X (compareOp op) r)(ho':fu X (compareOp op') r')(ha:PE X a ta)(hb:PE X b tb)(hc:PE X c tc)(hm:lastMarks [op,op'] [b,c]=false:=by with_unfolding_all rfl):PT X (.Compare a [op,op'] [b,c] pos) (yT (sY r r' ta tb tc)):=by
 intro pins s σ H Q I h
 refine isTrue_chain (bx (ha pins s σ H _ I h) λv s1 ⟨x,H1,I1,r1,q1⟩=>test_link (bx (hb pins s1 σ H1 _ I1 q1) λu s2 ⟨y,H2,I2,r2,q2⟩=>
  bx (ho pins s2 σ H2 x y v u _ I2 r1 r2 q2) λd s3 ⟨z,H3,I3,r3,k,e,q3⟩=>?_)) hm
 subst e;cases r3;refine wpAny_truthy_bool ?_
 cases k with
 |false=>
  obtain⟨k',e',q'⟩:=q3;cases e';exact ite_ff ⟨H3,I3,q'⟩
 |true=>
  refine ite_tt (test_last (bx (hc pins s3 σ H3 _ I3 q3) λw' s4 ⟨z',H4,I4,r4,q4⟩=>bx (ho' pins s4 σ H4 y z' u w' _ I4 r2 r4 q4) λd' s5 ⟨z2,H5,I5,r5,k2,e2,q5⟩=>?_));subst e2;cases r5;exact wpAny_truthy_bool ⟨H5,I5,q5⟩
noncomputable def Af(K:Ka)(x:V)(H:Hp)(k:Bool):Prop:=
 match x with
 |.non=>k=false
 |.bl b=>k=b
 |.int i=>k=(i != 0)
 |.str y=>y.length<=sizeLine/\k=((y.length:Int) != 0)
 |.byt y=>y.size<=sizeLine/\k=((y.size:Int) != 0)
 |.ref p=>(∃xs,SqL K H p xs/\k=!xs.isEmpty)\/(∃xs,SqT K H p xs/\k=!xs.isEmpty)\/∃kvs,H p=some (.dK kvs)/\k=!kvs.isEmpty
 |_=>False
theorem om{κ:Type}{kvs:List (κ×V)}{vs:List (κ×Value)}(r:KV kvs vs):(!vs.isEmpty)=!kvs.isEmpty:=by
 cases r<;>rfl
theorem jr{xs:List V}{its:List Value}(r:Vals xs its):(!its.toArray.isEmpty)=!xs.isEmpty:=by
 cases r<;>simp
theorem fR:(sizeLine:Nat)<2^63:=by rw[sizeLine_eq];decide
theorem hZ:GD X (λx H Q=>∃k,Af X.K x H k/\Q k H):=by
 intro pins s σ H x v Q I rx h;obtain⟨k,e,q⟩:=h;have hl:=fR;have hs:sizeLine=16777216:=sizeLine_eq
 cases x with
 |non=>
  cases rx;have e':k=false:=e;subst e';exact truthy_none ⟨H,I,q⟩
 |bl b=>
  cases rx;have e':k=b:=e;subst e';exact wpAny_truthy_bool ⟨H,I,q⟩
 |int i=>
  obtain⟨t,rfl⟩:=rx;have e':k=(i != 0):=e;subst e';exact PySem.P.truthy_int ⟨H,I,q⟩
 |str y=>
  obtain⟨t,rfl⟩:=rx;obtain⟨hy,e'⟩:y.length<=sizeLine/\k=((y.length:Int) != 0):=e;subst e';exact PySem.P.truthy_str (by lia) ⟨H,I.tok _,q⟩
 |byt y=>
  obtain⟨t,rfl⟩:=rx;obtain⟨hy,e'⟩:y.size<=sizeLine/\k=((y.size:Int) != 0):=e;subst e';exact PySem.W.truthy_bytes (by lia) ⟨H,I.tok _,q⟩
 |ref p=>
  cases rx;have e':(∃xs,SqL X.K H p xs/\k=!xs.isEmpty)\/(∃xs,SqT X.K H p xs/\k=!xs.isEmpty)\/∃kvs,H p=some (.dK kvs)/\k=!kvs.isEmpty:=e;rcases e' with⟨xs,hx,e'⟩|⟨xs,hx,e'⟩|⟨kvs,hx,e'⟩
  ·subst e';obtain⟨its,r,pl,hz⟩:=I.list hx;have hlen:=r.length;exact wpAny_truthy_list pl.isList (by simp only[Ko];lia) ⟨H,I.tok _,by rw[jr r];exact q⟩
  ·subst e';obtain⟨its,r,pl,hz⟩:=I.tuple hx;have hlen:=r.length;exact truthy_tuple pl (by simp only[Ko];lia) ⟨H,I.tok _,by rw[jr r];exact q⟩
  ·subst e';obtain⟨hz,hS,vs,r,m⟩:kvs.length<=sizeLine/\(p==sysModules)=false/\∃vs,KV kvs vs/\s.heap.DictOf (a9 X.prog X.w) p vs:=I.hok p _ hx;have hlen:kvs.length=vs.length:=Paired.length r;exact wpAny_truthy_dict hS m (by lia) ⟨H,I.tok _,by rw[om r];exact q⟩
 |_=>exact(show False from e).elim
theorem tf(ha:PE X a ta)(he:∀whole,isTrue a X.env whole=(do let v <- whole;standAt a.pos;holding [v] (truthy v))) :
  PT X a (λσ H Q=>ta σ H λx H'=>∃k,Af X.K x H' k/\Q k H'):=by
 intro pins s σ H Q I h;exact isTrue_plain (bx (ha pins s σ H _ I h) λv s1 ⟨x,H1,I1,r1,q1⟩=>hZ pins s1 σ H1 x v Q I1 r1 q1) (he _)
theorem mK:fu X (inplaceOp .Add) (λx y H Q=>∃i j,x=.str i/\y=.str j/\i.length+j.length<=sizeLine/\Q (.str (i++j)) H):=by
 intro pins s σ H x y v u Q I rx ry h;obtain⟨i,j,rfl,rfl,hz,q⟩:=h;obtain⟨t,rfl⟩:=rx;obtain⟨t',rfl⟩:=ry;exact iadd_str (λt' tk=>⟨.str (i++j),H,I.tok _,⟨_,rfl⟩,q⟩) hz
theorem eO{x:V}(r:Vals [x] us):∃u,us=[u]/\RelV x u:=by
 cases r with
 |cons r1 r2=>cases r2;exact⟨_,rfl,r1⟩
theorem yU(r:Vals [x,y] us):∃u w',us=[u,w']/\RelV x u/\RelV y w':=by
 cases r with
 |cons r1 r2=>
  cases r2 with
  |cons r3 r4=>cases r4;exact⟨_,_,rfl,r1,r3⟩
theorem tj:CallR X (.builtin "abs") (λxs H Q=>∃i,xs=[.int i]/\Q (.int (if i<0 then -i else i)) H):=by
 intro pins s σ H xs us Q I r h;obtain⟨i,rfl,q⟩:=h;obtain⟨u,rfl,t,rfl⟩:=eO r
 exact call_abs_int λu tk=>⟨.int (if i<0 then -i else i),H,I.tok _,⟨_,rfl⟩,q⟩
theorem rh(hc:X.calm=true):CallR X (.builtin "min") (λxs H Q=>∃i j,xs=[.int i,.int j]/\Q (.int (if j<i then j else i)) H):=by
 intro pins s σ H xs us Q I r h;obtain⟨i,j,rfl,q⟩:=h;obtain⟨u,w',rfl,⟨t,rfl⟩,⟨t',rfl⟩⟩:=yU r;refine min_two_ints (I.ok.hd hc) λh' tk k=>⟨_,H,I.kept k,?_,q⟩;by_cases hj:j<i
 ·rw[if_pos hj,if_pos hj];exact⟨_,rfl⟩
 ·rw[if_neg hj,if_neg hj];exact⟨_,rfl⟩
end
end L2
namespace L2
open PySem PySem.Spec PyProof.Rows
structure ObjM(h:Heap)(x dx C:Addr)(mA:Str->Option Value):Prop where
 obj:h.get? x=some (L6 C dx)
 ns:h.Ns1 dx mA
 ne:dx≠x
theorem rj{h:Heap}{mA:Str->Option Value}(n:h.Ns1 dx mA):∃od,h.get? dx=some od/\∀name,Mg name od=some (mA name):=by
 obtain⟨o,es,ep,ho,hd,hk,_,hm⟩:=n;refine⟨o,ho,λname=>?_⟩;have e:=hm name;unfold nsFind findBy at e;rw[<- Array.find?_toList] at e;unfold Mg;rw[hd];dsimp only;split
 ·rename_i y q;rw[q] at e;exact congrArg some e
 ·rename_i q;rw[q] at e
  have a:es.toList.any (·.refKey)=false:=by
   rw[Mz];intro y hy;obtain⟨z,t,hkey⟩:=hk y (Array.mem_toList_iff.mp hy);simp[DictEntry.refKey,hkey]
  have a':¬es.toList.any (·.refKey)=true:=by rw[a];exact K4
  rw[if_neg a'];exact congrArg some e
theorem ObjM.look{mA:Str->Option Value}(I:ObjM h x dx C mA):∃od,PySem.W.InstAt h x (L6 C dx) C (some od)/\∀name,Mg name od=some (mA name):=
 let ⟨od,ho,hl⟩:=rj I.ns
 ⟨od,⟨I.obj,rfl,rfl,ho⟩,hl⟩
section
variable {prog:Program} {w:World} {A:Around} {E:Value->Shared->Prop} {s:Shared} {K:Ka} {x dx C f:Addr} {mA:Str->Option Value} {name:Str} {v:Value}
end
noncomputable def putF(f:Str)(v:V):List (Str×V)->List (Str×V)
 |[]=>[(f,v)]
 |(g,x)::r=>if g=f then(g,v)::r else(g,x)::putF f v r
theorem RelO.some_of(r:RelO (some v) o):∃u,o=some u/\RelV v u:=by
 cases o with
 |none=>exact(show False from r).elim
 |some u=>exact⟨u,rfl,r⟩
section
variable {P:Program} {w:World} {H H':Hp} {h h':Heap} {a C dx:Addr} {fs fs':List (Str×V)}
theorem wy(hok:HOk P w H h)(e:H a=some (.ins C dx fs)):∃mA,ObjM h a dx C mA/\(∀f,RelO (fs.lookup f) (mA f))/\PySem.Within mA (fs.map (·.1))/\fs.length<=1000/\H dx=some (.own a):=by
 obtain⟨d,z,ne,ob,mA,n,r,q⟩:=(show ObjOk P w H h a (.ins C dx fs) from hok a _ e);exact⟨mA,⟨ob,n,ne⟩,r,q,z,d⟩
end
structure Cls(K:Ka)(C:Addr):Prop where
 pg:MJ K C Str.empty=true
 hd:PySem.W.hasDictIn K C=true
 po:PySem.W.plainOver K C=true
 sa:Lv K (.ref C) "__setattr__" = some (some (.builtin "object.__setattr__"))
theorem Cls.get{K:Ka}{C:Addr}(c:Cls K C)(f:Str):MJ K C f=true:=c.pg
noncomputable def lK(K:Ka)(C:Addr)(f:Str):Prop:=Lv K (.ref C) f=some none
structure J9(K:Ka)(C:Addr)(f:Str)(v:V)(u:Value):Prop where
 at_:Lv K (.ref C) f=some (some u)
 rel:RelV v u
 get:MA K u "__get__" = some none
 cp:PySem.W.copiedNames.contains f=false
structure JF(K:Ka)(C:Addr)(m:Str)(f:Addr):Prop where
 at_:Lv K (.ref C) m=some (some (.ref f))
 fn:MV K (.ref f)=true
 kp:K3 K (.ref f)=true
section
variable {X:Cx} {pins:List (Addr×Obj)} {σ:St} {H:Hp} {s:Shared} {a C dx:Addr} {fs:List (Str×V)} {f:Str} {v:V} {A:Around} {E:Value->Shared->Prop}
end
section
variable {X:Cx} {o e value:Expr} {f:Str} {pos pos' tpos:Pos} {ta tv:TE}
end
section
variable {X:Cx} {pins:List (Addr×Obj)} {σ:St} {H:Hp} {s:Shared} {A:Around} {E:Value->Shared->Prop} {Q:Value->Shared->Prop} {c:Value} {b:Bool}
inductive gq (K:Ka) (H:Hp):V->Value->Prop where
 |non:gq K H .non (.type "NoneType")
 |bl (x:Bool):gq K H (.bl x) (.type "bool")
 |int (i:Int):gq K H (.int i) (.type "int")
 |str (x:Str):gq K H (.str x) (.type "str")
 |flt (x:UInt64):gq K H (.flt x) (.type "float")
 |lst {a:Addr} {xs:List V} (e:H a=some (.lst xs)):gq K H (.ref a) (.type "list")
 |frz {a:Addr} {o:Obj} {xs:List V} (e:H a=some (.frz o (.lst xs))):gq K H (.ref a) (.type "list")
 |tup {a:Addr} {xs:List V} (e:H a=some (.tup xs)):gq K H (.ref a) (.type "tuple")
 |dK {a:Addr} {kvs:List (aI×V)} (e:H a=some (.dK kvs)):gq K H (.ref a) (.type "dict")
 |dT {a:Addr} {m ep:Nat} {kvs:List (List (aI ⊕ List aI)×V)} (e:H a=some (.dT m ep kvs)):gq K H (.ref a) (.type "dict")
 |ins {a C dx:Addr} {fs:List (Str×V)} (e:H a=some (.ins C dx fs)) (cl:Cls K C) (ha:Lv K (.ref C) "__class__" = some (some (.builtin "object.__class__")))
   (hn:MA K (.builtin "object.__class__") "__get__" = some (some (.builtin "getset_descriptor.__get__"))) (htk:PySem.W.takesIn K (.builtin "object.__class__")=some true)
   (hm:PySem.W.mroIn K C (.type "object")=some true):gq K H (.ref a) (.ref C)
theorem rk(I:Inv X pins σ H s)(rx:RelV x u)(ty:gq X.K H x t)(e:La X.K t c=some b)(h:∀tk,Q (.bool b) { s with toks:=tk }) :
  wpAny (model X.prog X.w) A (call (.builtin "isinstance") [u,c]) Q E s:=by
 cases ty with
 |non=>cases(show u=Value.none from rx);exact KZ PySem.W.kitx_none I.kIn True.intro e (λz=>nomatch z) h
 |bl y=>cases(show u=Value.bool y from rx);exact KZ PySem.W.kitx_bool I.kIn True.intro e (λz=>nomatch z) h
 |int i=>obtain⟨t,q⟩:=(show ∃t,u=Value.int i t from rx);cases q;exact KZ PySem.W.kitx_int I.kIn True.intro e (λz=>nomatch z) h
 |str y=>obtain⟨t,q⟩:=(show ∃t,u=Value.str y t from rx);cases q;exact KZ PySem.W.kitx_str I.kIn True.intro e (λz=>nomatch z) h
 |flt y=>obtain⟨t,q⟩:=(show ∃t,u=Value.float y t from rx);cases q;exact KZ PySem.W.kitx_float I.kIn True.intro e (λz=>nomatch z) h
 |@lst a xs ea=>
  cases(show u=Value.ref a from rx);obtain⟨_,_,n,_,h1⟩:=(show ObjOk X.prog X.w H s.heap a (.lst xs) from I.hok a _ ea)
  exact KZ MB I.kIn ⟨_,h1,rfl⟩ e (λz=>nomatch z) h
 |@frz a ob xs ea=>
  cases(show u=Value.ref a from rx);obtain⟨_,_,_,n,_,h1⟩:=(show ObjOk X.prog X.w H s.heap a (.frz ob (.lst xs)) from I.hok a _ ea)
  exact KZ MB I.kIn ⟨_,h1,rfl⟩ e (λz=>nomatch z) h
 |@tup a xs ea=>
  cases(show u=Value.ref a from rx);obtain⟨_,_,_,p⟩:=(show ObjOk X.prog X.w H s.heap a (.tup xs) from I.hok a _ ea);obtain⟨o,h1,h2,_⟩:=p
  exact KZ PySem.W.kitx_tuple I.kIn ⟨o,h1,h2⟩ e (λz=>nomatch z) h
 |@dK a kvs ea=>
  cases(show u=Value.ref a from rx);obtain⟨_,_,vs,_,p⟩:=(show ObjOk X.prog X.w H s.heap a (.dK kvs) from I.hok a _ ea);obtain⟨o,es,ep,h1,h2,_⟩:=p
  exact KZ MC I.kIn ⟨o,h1,h2.1⟩ e (λz=>nomatch z) h
 |@dT a m ep kvs ea=>
  cases(show u=Value.ref a from rx);obtain⟨_,_,xs,_,o,es,h1,h2,_⟩:=(show ObjOk X.prog X.w H s.heap a (.dT m ep kvs) from I.hok a _ ea)
  exact KZ MC I.kIn ⟨o,h1,h2.1⟩ e (λz=>nomatch z) h
 |@ins a C dx fs ea cl ha hn htk hm=>
  cases(show u=Value.ref a from rx);obtain⟨mA,O,_⟩:=wy I.hok ea;obtain⟨od,J,_⟩:=O.look
  exact KZ (PySem.W.kitx_own (cl.get _) cl.hd ha hn htk hm) I.kIn J e (λz=>nomatch z) h
end
end L2
namespace L2
open PySem PySem.Spec PyProof.Rows
structure Room(k:Nat)(A:Around):Prop where
 hd:A.handled=none
 dp:A.depth+3*k+5<recursionLimit
 un:A.units+16*k+200<cLine
 gd:A.guards=some []
theorem Room.mono{j k:Nat}(r:Room k A)(h:j<=k):Room j A:=⟨r.hd,by have:=r.dp;lia,by have:=r.un;lia,r.gd⟩
theorem Room.deeper{k:Nat}{A:Around}(r:Room (k+1) A)(env:Env):Room k (A.deeper env):=
 ⟨r.hd,by have:=r.dp;show A.depth+1+3*k+5<_;lia,by have:=r.un;show A.units+3+16*k+200<_;lia,r.gd⟩
theorem Room.depth{k:Nat}{A:Around}(r:Room k A):A.depth<recursionLimit:=by have:=r.dp;lia
noncomputable def Ag:TA:=λ_ H Q=>Q [] H
noncomputable def C7(ta:TE)(tr:TA):TA:=λσ H Q=>ta σ H λx H1=>tr σ H1 λxs H2=>Q (x::xs) H2
section
variable {X:Cx} {e:Expr} {es:List Expr} {te:TE} {t:TA} {pos:Pos}
theorem cV:PA X [] Ag:=λ_ _ _ _ H Q I h=>Calls.spliced_nil ⟨[],H,I,.nil,h⟩
theorem bp(ha:PE X e te)(hr:PA X es t)(hs:starEach (e::es) X.env=(false,eval e X.env)::starEach es X.env:=by rfl):PA X (e::es) (C7 te t):=by
 intro pos pins s σ H Q I h;rw[hs];show wpAny _ _ (spliced ((false,eval e X.env)::backTo pos (starEach es X.env))) _ _ s;refine Calls.spliced_cons (bx (ha pins s σ H _ I h) λu s1 ⟨x,H1,I1,r1,q1⟩=>?_);exact bx (hr pos pins s1 σ H1 _ I1 q1) λus s2 ⟨xs,H2,I2,r2,q2⟩=>⟨x::xs,H2,I2,.cons r1 r2,q2⟩
noncomputable def GH(t:TA):TE:=λσ H Q=>t σ H λxs H1=>xs.length<=sizeLine/\∀p,H1 p=none->Q (.ref p) (upd H1 p (.tup xs))
noncomputable def GI(t:TA):TE:=λσ H Q=>t σ H λxs H1=>xs.length<=sizeLine/\∀p,H1 p=none->Q (.ref p) (upd H1 p (.lst xs))
theorem lL{x1}(h:PA X es t):PE X (.Tuple es x1 pos) (GH t):=by
 intro pins s σ H Q I hq;refine wpAny_Tuple_spliced (bx (h pos pins s σ H _ I hq) λus s1 ⟨xs,H1,I1,r,z,q⟩=>⟨by rw[<- r.length];exact z,?_⟩);have hf:H1 s1.heap.objs.size=none:=I1.hok.fresh (Ki _);refine⟨.ref s1.heap.objs.size,upd H1 s1.heap.objs.size (.tup xs),I1.laid (t':=s1.toks) (λb u e=>Kj _ e) (Ki _) ?_,rfl,q _ hf⟩;exact⟨z,us,r,⟨_,Ku _ rfl,rfl,_,rfl⟩⟩
theorem Ah(h:PA X es t):PE X (.List es pos) (GI t):=by
 intro pins s σ H Q I hq;refine wpAny_List_spliced (bx (h pos pins s σ H _ I hq) λus s1 ⟨xs,H1,I1,r,z,q⟩=>⟨by rw[<- r.length];exact z,?_⟩);have hf:H1 s1.heap.objs.size=none:=I1.hok.fresh (Ki _);refine⟨.ref s1.heap.objs.size,upd H1 s1.heap.objs.size (.lst xs),I1.laid (t':=s1.toks) (λb u e=>Kj _ e) (Ki _) ?_,rfl,q _ hf⟩;exact⟨z,us,0,r,Ku _ rfl⟩
end
noncomputable abbrev Sp:=List V->Hp->VK->XK->Prop
noncomputable abbrev rm:=List Env->Hp->Shared->XK->Value->Shared->Prop
structure wz(P:Program)(w:World)(K:Ka)(mg:Str->Option Value)(base:Heap)(A:Around)(outer:List Env)(s:Shared)(H:Hp):Prop where
 frames:A.frames=some outer
 mod:Mod K mg base
 bs:∀b o,base.get? b=some o->s.heap.get? b=some o/\H b=none
 bsz:base.objs.size<=s.heap.objs.size
 funs:s.heap.FunFrames base outer
 frf:∀b∈sH outer,H b=none
 hok:HOk P w H s.heap
 bare:AllBare s.gens
noncomputable def CE(outer:List Env)(P:Program)(w:World)(H:Hp)(s:Shared)(Q:VK)(u:Value)(s':Shared):Prop:=
 ∃v H',s'.os=s.os/\AllBare s'.gens/\Un (sH outer) [] H H' s.heap s'.heap/\HOk P w H' s'.heap/\RelV v u/\Q v H'
noncomputable def CR(CX:rm)(outer:List Env)(P:Program)(w:World)(H:Hp)(s:Shared)(Q:VK)(E:XK)(r:Result)(s':Shared):Prop:=
 match r with
 |.ok (.ret u)=>CE outer P w H s Q u s'
 |.ok _=>False
 |.error e=>CX outer H s E e s'
structure FnOk(P:Program)(w:World)(K:Ka)(mg:Str->Option Value)(base:Heap)(CX:rm)(k:Nat)(f:Addr)(fd:FuncData)(ps:List Str)(sp:Sp):Prop where
 len:∀vs H Q E,sp vs H Q E->vs.length=ps.length
 run:∀(A:Around) (outer:List Env) (s:Shared) (H:Hp) (args:Args) (us:List Value) (vs:List V) (Q:VK) (E:XK),Room k A->wz P w K mg base A outer s H->BindsTo s fd args (ps.zip us)->Vals vs us->sp vs H Q E->
  codeAny (model P w) A (.call (.ref f) args) (CR CX outer P w H s Q E) s
theorem FnOk.mono{P:Program}{w:World}{K:Ka}{mg:Str->Option Value}{base:Heap}{CX:rm}{j k:Nat}{f:Addr}{fd:FuncData}{ps:List Str}{sp:Sp}(F:FnOk P w K mg base CX j f fd ps sp)(h:j<=k) :
  FnOk P w K mg base CX k f fd ps sp:=⟨F.len,λA outer s H args us vs Q E hr=>F.run A outer s H args us vs Q E (hr.mono h)⟩
theorem FnOk.imp{P:Program}{w:World}{K:Ka}{mg:Str->Option Value}{base:Heap}{CX:rm}{k:Nat}{f:Addr}{fd:FuncData}{ps:List Str}{sp sp':Sp}(F:FnOk P w K mg base CX k f fd ps sp)
  (h:∀vs H Q E,sp' vs H Q E->sp vs H Q E):FnOk P w K mg base CX k f fd ps sp':=
 ⟨λvs H Q E q=>F.len vs H Q E (h _ _ _ _ q),λA outer s H args us vs Q E hr he hb hv hs=>F.run A outer s H args us vs Q E hr he hb hv (h _ _ _ _ hs)⟩
section
variable {X:Cx} {pins:List (Addr×Obj)} {σ:St} {H:Hp} {s s':Shared}
theorem Inv.env0(I:Inv X pins σ H s):wz X.prog X.w X.K X.mg X.base X.A X.stack s H:=
 ⟨I.ok.frames,I.ok.mod,I.bs,KF I.ok.bsz I.sz,I.stack,I.stkFree,I.hok,I.bare⟩
theorem Inv.after(I:Inv X pins σ H s)(h:CE X.stack X.prog X.w H s Q u s'):EP X pins σ Q u s':=by
 obtain⟨v,H',os,bare,un,hok,r,q⟩:=h;obtain⟨hh,g,d,t,os'⟩:=s';obtain rfl:os'=s.os:=os;exact⟨v,H',I.call (h':=hh) (g':=g) (d':=d) (t':=t) (ch:=[]) un hok bare (λb z=>absurd z (by simp)),r,q⟩
end
noncomputable def yV(sp:Sp)(dvs:List V)(E:XK)(t:TA):TE:=λσ H Q=>t σ H λvs H1=>sp (vs++dvs) H1 Q E
noncomputable def Binds(K:Ka)(fd:FuncData)(ps:List Str)(ds:List Value):Prop:=
 ∀(s:Shared) (us:List Value),K.In s.heap->(us++ds).length=ps.length->BindsTo s fd ⟨us,[]⟩ (ps.zip (us++ds))
theorem Binds.all{K:Ka}{fd:FuncData}{ps:List Str}(h:∀us:List Value,us.length=ps.length->bindArgs fd ⟨us,[]⟩=pure (ps.zip us)):Binds K fd ps []:=λs us _ hl=>by
 rw[LK] at hl⊢;exact .of_eq (h us hl)
noncomputable def lM(CX:rm)(X:Cx)(E:XK):Prop:=∀(pins:List (Addr×Obj)) (σ:St) (H:Hp) (s:Shared) (e:Value) (s':Shared),Inv X pins σ H s->CX X.stack H s E e s'->X.xe e s'
section
variable {X:Cx} {CX:rm} {k:Nat} {f C:Addr} {fd:FuncData} {ps:List Str} {sp:Sp} {dvs:List V} {ds:List Value} {E:XK} {x m:Str} {p pos apos:Pos} {e o:Expr} {es:List Expr} {ta:TE} {t:TA}
theorem tq{vs:List V}(F:FnOk X.prog X.w X.K X.mg X.base CX k f fd ps sp)(hr:Room k X.A)(hb:Binds X.K fd ps ds)(hd:Vals dvs ds)(hx:lM CX X E)(I:Inv X pins σ H s)(r:Vals vs us)(h:sp (vs++dvs) H Q E):wpAny (model X.prog X.w) X.A (call (.ref f) us) (EP X pins σ Q) X.xe s:=by
 have r2:Vals (vs++dvs) (us++ds):=r.append hd;have hl:(us++ds).length=ps.length:=by rw[<- r2.length];exact F.len _ _ _ _ h
 refine wpAny_call (codeAny_mono (F.run X.A X.stack s H ⟨us,[]⟩ (us++ds) (vs++dvs) Q E hr I.env0 (hb s us I.kIn hl) r2 h) λr s' hq=>?_)
 cases r with
 |error e=>exact hx pins σ H s e s' I hq
 |ok fl=>
  cases fl with
  |ret u=>exact I.after hq
  |next=>exact False.elim hq
  |brk=>exact False.elim hq
  |cont=>exact False.elim hq
theorem pU(F:FnOk X.prog X.w X.K X.mg X.base CX k f fd ps sp)(hr:Room k X.A)(hg:Gl X x)(hm:X.mg x=some (.ref f))(hk:K3 X.K (.ref f)=true)(hb:Binds X.K fd ps ds)(hd:Vals dvs ds)(hx:lM CX X E)
  (ha:PA X (e::es) t) (hdb:(x==("__debug__":Str))=false:=by decide) (he:starEach (e::es) X.env=(false,eval e X.env)::starEach es X.env:=by rfl) (hpl:(backTo pos (starEach es X.env)).any (·.1)=false:=by rfl) :
  PE X (.Call (.Name x p) (e::es) [] pos) (yV sp dvs E t):=by
 intro pins s σ H Q I h;refine wpAny_Call_Name_kw (lH I hg hm ?_ hdb);refine PySem.W.callWith_K (h₀:=X.base) I.ok.mod.kin hk (bx (ha pos pins s σ H _ I h) λus s1 ⟨vs,H1,I1,r,q⟩=>⟨I1.kIn,?_⟩) he hpl;exact tq F hr hb hd hx I1 r q
theorem tu(F:FnOk X.prog X.w X.K X.mg X.base CX k f fd ps sp)(hr:Room k X.A)(hg:Gl X x)(hm:X.mg x=some (.ref f))(hk:K3 X.K (.ref f)=true)(hb:Binds X.K fd ps ds)(hd:Vals dvs ds)(hx:lM CX X E)
  (hdb:(x==("__debug__":Str))=false:=by decide):PE X (.Call (.Name x p) [] [] pos) (yV sp dvs E Ag):=by
 intro pins s σ H Q I h;refine wpAny_Call_Name_kw (lH I hg hm ?_ hdb);exact PySem.W.callWith_K0 I.kIn hk (tq (us:=[]) F hr hb hd hx I .nil h)
structure Mk(K:Ka)(C f:Addr):Prop where
 makes:PySem.W.makesIn K C=true
 init:Lv K (.ref C) "__init__" = some (some (.ref f))
 fn:MV K (.ref f)=true
 kp:K3 K (.ref C)=true
end
section
variable {X:Cx} {CX:rm} {k:Nat} {f C:Addr} {fd:FuncData} {ps ks:List Str} {sp:Sp} {E:XK} {x m:Str} {p pos apos kpos:Pos} {e o:Expr} {es:List Expr} {kws:List Keyword} {te ta:TE} {t tk:TA} {nm:Option Str}
structure GJ(K:Ka)(fd:FuncData)(ps ks:List Str)(g:List Value->List Value->List Value)(gV:List V->List V->List V):Prop where
 to:∀(s:Shared) (us ws:List Value),K.In s.heap->(g us ws).length=ps.length->BindsTo s fd ⟨us,ks.zip ws⟩ (ps.zip (g us ws))
 rel:∀{vs:List V} {us:List Value} {zs:List V} {ws:List Value},Vals vs us->Vals zs ws->Vals (gV vs zs) (g us ws)
variable {g:List Value->List Value->List Value} {gV:List V->List V->List V}
end
structure aq(N P:List Str)(sc:Scope):Prop where
 kind:sc.kind=.function
 co:sc.isCoroutine=false
 gen:sc.isGenerator=false
 nd:N.Nodup
 pre:N.take P.length=P
 par:∀x∈P,sc.names.lookup x=some .local\/sc.names.lookup x=some .cell
 nofree:∀y∈sc.names,y.2≠.free
theorem kR{kindOf:Str->Option NameKind}{x:Str}:∀{binds:List (Str×Value)} {m:Str->Option Value},(∀v,(x,v)∉binds)->bindL kindOf binds m x=m x
 |[],_,_=>rfl
 |(n,v)::r,m,h=>by
  unfold bindL;rw[kR λw hw=>h w (Kp _ hw)];split
  ·have:x≠n:=by rintro rfl;exact h v KA
   simp[this]
  ·rfl
theorem kS{kindOf:Str->Option NameKind}{x:Str}:∀{binds:List (Str×Value)} {m:Str->Option Value},(∀v,(x,v)∉binds)->bindC kindOf binds m x=m x
 |[],_,_=>rfl
 |(n,v)::r,m,h=>by
  unfold bindC;rw[kS λw hw=>h w (Kp _ hw)];split
  ·rfl
  ·have:x≠n:=by rintro rfl;exact h v KA
   simp[this]
theorem kU{kindOf:Str->Option NameKind}{x:Str}{v:Value}:∀{P:List Str} {vs:List Value} {i:Nat} {m:Str->Option Value},P.Nodup->P[i]?=some x->vs[i]?=some v->kindOf x=some .local->
  bindL kindOf (P.zip vs) m x=some v
 |[],_,_,_,_,h,_,_=>by simp at h
 |_::_,[],_,_,_,_,h,_=>by simp at h
 |p::P,w::vs,0,m,nd,h1,h2,hk=>by
  simp at h1 h2;subst h1;subst h2;show bindL kindOf ((p,w)::P.zip vs) m p=_;unfold bindL;rw[kR λv hv=>(KR.mp nd).1 (L7 hv).1,if_pos hk];simp
 |p::P,w::vs,i+1,m,nd,h1,h2,hk=>by
  show bindL kindOf ((p,w)::P.zip vs) m x=_;unfold bindL;exact kU (i:=i) (KR.mp nd).2 (by simpa using h1) (by simpa using h2) hk
theorem kW{kindOf:Str->Option NameKind}{x:Str}{v:Value}:∀{P:List Str} {vs:List Value} {i:Nat} {m:Str->Option Value},P.Nodup->P[i]?=some x->vs[i]?=some v->kindOf x≠some .local->
  bindC kindOf (P.zip vs) m x=some v
 |[],_,_,_,_,h,_,_=>by simp at h
 |_::_,[],_,_,_,_,h,_=>by simp at h
 |p::P,w::vs,0,m,nd,h1,h2,hk=>by
  simp at h1 h2;subst h1;subst h2;show bindC kindOf ((p,w)::P.zip vs) m p=_;unfold bindC;rw[kS λv hv=>(KR.mp nd).1 (L7 hv).1,if_neg hk];simp
 |p::P,w::vs,i+1,m,nd,h1,h2,hk=>by
  show bindC kindOf ((p,w)::P.zip vs) m x=_;unfold bindC;exact kW (i:=i) (KR.mp nd).2 (by simpa using h1) (by simpa using h2) hk
noncomputable def cH(N:List Str)(vs:List V):St:=vs.map some++List.replicate (N.length-vs.length) none
noncomputable def mM(CX:rm)(P:Program)(w:World)(K:Ka)(mg:Str->Option Value)(base:Heap)(N:List Str)(qual:Str)(scope:Scope)(f:Addr)(cd:Value)(A:Around)(outer:List Env)(s:Shared)(H:Hp)(E:XK):Cx where
 prog:=P
 w:=w
 K:=K
 mg:=mg
 base:=base
 A:=A.deeper (envOfC qual scope s.heap.objs.size f cd)
 N:=N
 s₀:=s
 H₀:=H
 env:=envOfC qual scope s.heap.objs.size f cd
 outer:=outer
 stack:=envOfC qual scope s.heap.objs.size f cd::outer
 ex:=[]
 calm:=true
 fn:=λ_=>true
 pn:=[]
 xe:=λe s'=>wpAny (model P w) (A.deeper (envOfC qual scope s.heap.objs.size f cd)) (leaving (envOfC qual scope s.heap.objs.size f cd) e) (λ_ s''=>CX outer H s E e s'') (λe' s''=>CX outer H s E e' s'') s'
theorem mN{sc:Scope}{n:Nat}{x:Str}(h:sc.names.lookup x=some .cell):∃c,(cellsFrom n sc.names []).lookup x=some c:=by
 have q:=Mc sc.names n [] (.inl h);exact Option.isSome_iff_exists.mp q
theorem rn{CX:rm}{P:Program}{w:World}{K:Ka}{mg:Str->Option Value}{base:Heap}{N ps:List Str}{qual:Str}{scope:Scope}{f:Addr}{cd:Value}{A:Around}{outer:List Env}{s s1:Shared}{H:Hp}{E:XK}{us:List Value}{vs:List V}
  (S:aq N ps scope) (hd:A.handled=none) (e0:wz P w K mg base A outer s H) (hl:vs.length=ps.length) (r:Vals vs us)
  (x:InCallC s s.heap.objs.size (bindL (envOfC qual scope s.heap.objs.size f cd).kindOf (ps.zip us) λ_=>none) (cellsFrom (s.heap.objs.size+1) scope.names []) (bindC (envOfC qual scope s.heap.objs.size f cd).kindOf (ps.zip us) λ_=>none) s1) :
  Inv (mM CX P w K mg base N qual scope f cd A outer s H E) [] (cH N vs) H s1:=by
 have hpl:ps.length<=N.length:=by have:=congrArg MH S.pre;rw[KQ] at this;lia
 obtain⟨h1,tk,rfl,hk⟩:=x.done;have noA:∀b:Addr,b∉(mM CX P w K mg base N qual scope f cd A outer s H E).ex:=λb z=>absurd (show b∈([]:List Addr) from z) (by simp)
 refine⟨⟨e0.mod,S.kind,rfl,rfl,Ki _,λy z c h1 h2=>?_,λy hy=>?_,λy c _ h=>?_,λ_=>hd,Around.frames_deeper e0.frames,.inr ⟨rfl,rfl⟩,λb z=>absurd z (noA b),e0.bs,e0.bsz,λb _ _=>noA b,λb z=>absurd z (noA b),e0.funs,e0.frf⟩,
  rfl,e0.bare,Un.kept hk,⟨_,x.toInCall.ns,λi y v h1 h2 h3=>?_⟩,λy c h=>⟨_,x.cell y c h⟩,e0.hok.fresh (Ki _),λy c h=>?_,λp hp=>absurd (show p∈([]:List (Addr×Obj)) from hp) (by simp),e0.hok.kept hk,?_⟩
 ·exact name_of_addr x.apart (PySem.mem_of_lookup h1) (PySem.mem_of_lookup h2)
 ·have hy:scope.names.lookup y=some .cell\/scope.names.lookup y=some .free:=hy;rcases hy with hy|hy
  ·exact mN hy
  ·exact absurd rfl (S.nofree _ (PySem.mem_of_lookup hy))
 ·exact L1 (x.above y c (PySem.mem_of_lookup h))
 ·have hi:i<vs.length:=by
   unfold cH at h2;by_cases hi:i<vs.length
   ·exact hi
   ·rw[KP (by simpa using hi)] at h2;rw[L4] at h2
    split at h2<;>cases h2
  have ha:vs[i]?=some v:=by
   unfold cH at h2;rw[Ks (by simpa using hi),Kf] at h2
   cases e:vs[i]? with
   |none=>rw[e] at h2;cases h2
   |some a=>rw[e] at h2;cases h2;rfl
  obtain⟨u,hu,rv⟩:=r.get ha
  have hp:ps[i]?=some y:=by
   rw[<- S.pre,List.getElem?_take_of_lt (by lia)];exact h1
  have ndP:ps.Nodup:=by rw[<- S.pre];exact S.nd.sublist (List.take_sublist _ _)
  refine⟨u,rv,?_⟩;rcases S.par y (Kw hp) with k|k
  ·exact .inl ⟨k,kU ndP hp hu k⟩
  ·obtain⟨c,e⟩:=mN (n:=s.heap.objs.size+1) k;refine .inr ⟨.inl k,c,e,?_⟩;have q:=x.cell y c e;rw[kW ndP hp hu (by show scope.names.lookup y≠_;rw[k];decide)] at q;exact q
 ·exact e0.hok.fresh (L1 (x.above y c (PySem.mem_of_lookup h)))
 ·unfold cH;show _=N.length;rw[K5,Kc,Mh]
  lia
theorem C8{CX:rm}{P:Program}{w:World}{K:Ka}{mg:Str->Option Value}{base:Heap}{k:Nat}{f:Addr}{name qual:Str}{params:Arguments}{body:List Stmt}{scope:Scope}{dV kV doc pm cdv ct oc:Value}{an od:Option Addr}
  {osl:Array (Option Value)} {N ps:List Str} {sp:Sp} (lk:K.lookup f=some ⟨oc,od,.func (Lh name qual params body scope dV kV doc pm an cdv ct),osl⟩) (hcd:LR K cdv qual=true) (S:aq N ps scope)
  (len:∀vs H Q E,sp vs H Q E->vs.length=ps.length)
  (hbody:∀(A:Around) (outer:List Env) (s:Shared) (H:Hp) (vs:List V) (Q:VK) (E:XK),Room k (A.deeper (envOfC qual scope s.heap.objs.size f cdv))->sp vs H Q E->
   ∃t,PSs (mM CX P w K mg base N qual scope f cdv A outer s H E) body t/\t { nx:=λ_ H'=>Q .non H',rt:=Q } (cH N vs) H) :
  FnOk P w K mg base CX (k+1) f (Lh name qual params body scope dV kV doc pm an cdv ct) ps sp:=by
 refine⟨len,λA outer s H args us vs Q E hr e0 hb r hsp=>?_⟩;have hl:=len _ _ _ _ hsp;have KX:K.In s.heap:=e0.mod.kin.keeps λb o e=>(e0.bs b o e).1;have lim:s.heap.NoLimit:=e0.mod.nolimit.keeps λb o e=>(e0.bs b o e).1
 have hkind:∀y∈ps.zip us,scope.names.lookup y.1=some .local\/(scope.names.lookup y.1=some .cell/\((cellsFrom (s.heap.objs.size+1) scope.names []).lookup y.1).isSome=true):=λ⟨n,v⟩ hy=>by
  rcases S.par n (L7 hy).1 with q|q
  ·exact .inl q
  ·exact .inr ⟨q,Mc _ _ _ (.inl q)⟩
 refine codeAny_call_function hr.depth (KX _ _ lk) rfl S.co S.gen rfl (PySem.W.codeRec_of KX hcd) (hb _ _ _ _ ?_);refine wpAny_newFunctionEnv_cells S.kind hkind λenv he s1 x=>?_;subst he;refine⟨lim.keeps x.toInCall.keep,codeAny_func ?_⟩;obtain⟨t,ht,hq⟩:=hbody A outer s H vs Q E (hr.deeper _) hsp;have I:Inv (mM CX P w K mg base N qual scope f cdv A outer s H E) [] (cH N vs) H s1:=rn S hr.hd e0 hl r x;refine wpAny_mono (ht [] s1 (cH N vs) H _ I hq) (λfl s' hs=>?_) λe s' hs=>hs
 have fin:∀{σ':St} {H':Hp} {v:V} {u:Value},Inv (mM CX P w K mg base N qual scope f cdv A outer s H E) [] σ' H' s'->RelV v u->Q v H'->CE outer P w H s Q u s':=
  λ{σ' H' v u} J rv q=>⟨v,H',J.os,J.bare,J.base,J.hok,rv,q⟩
 cases fl with
 |ret u=>
  obtain⟨v,σ',H',J,rv,q⟩:=hs;exact fin J rv q
 |next=>
  obtain⟨σ',H',J,q⟩:=hs;exact fin (v:=V.non) (u:=Value.none) J rfl q
 |brk=>
  obtain⟨_,_,_,q⟩:=hs;exact False.elim q
 |cont=>
  obtain⟨_,_,_,q⟩:=hs;exact False.elim q
end L2
namespace L2
open PySem PySem.Spec PyProof.Rows
section
variable {X:Cx} {x:Str} {p pos:Pos} {e:Expr} {es:List Expr} {t:TA} {id T:String} {r:List V->Hp->VK->Prop}
noncomputable def Ji(r:List V->Hp->VK->Prop)(t:TA):TE:=λσ H Q=>t σ H λvs H1=>r vs H1 Q
theorem eP(hc:CallR X (.builtin id) r)(hg:Gl X x)(hm:X.mg x=none)(hv:bootBuiltins x=some (.builtin id))(ha:PA X (e::es) t)(hn:x≠"__name__":=by decide)(hdb:(x==("__debug__":Str))=false:=by decide)
  (he:starEach (e::es) X.env=(false,eval e X.env)::starEach es X.env:=by rfl) (hpl:(backTo pos (starEach es X.env)).any (·.1)=false:=by rfl):PE X (.Call (.Name x p) (e::es) [] pos) (Ji r t):=by
 intro pins s σ H Q I h;refine wpAny_Call_Name_kw (dQ I hg hm hv ?_ hn hdb);exact PyProof.Rows.callWith_builtin1 (bx (ha pos pins s σ H _ I h) λus s1 ⟨vs,H1,I1,r1,q1⟩=>hc pins s1 σ H1 vs us Q I1 r1 q1) he hpl
theorem dX(hc:CallR X (.type T) r)(hg:Gl X x)(hm:X.mg x=none)(hv:bootBuiltins x=some (.type T))(ha:PA X (e::es) t)(hn:x≠"__name__":=by decide)(hdb:(x==("__debug__":Str))=false:=by decide)
  (he:starEach (e::es) X.env=(false,eval e X.env)::starEach es X.env:=by rfl) (hpl:(backTo pos (starEach es X.env)).any (·.1)=false:=by rfl):PE X (.Call (.Name x p) (e::es) [] pos) (Ji r t):=by
 intro pins s σ H Q I h;refine wpAny_Call_Name_kw (dQ I hg hm hv ?_ hn hdb);exact PyProof.Rows.callWith_type1 (bx (ha pos pins s σ H _ I h) λus s1 ⟨vs,H1,I1,r1,q1⟩=>hc pins s1 σ H1 vs us Q I1 r1 q1) he hpl
end
end L2
namespace HT
open PySem PyProof.Rows
section
open PySem.SeqAt
open PySem.AutoSeq1 (wpAny_loadPart')
open PySem.MeetsSeq PySem.MeetsSeq2 PySem.MeetsSeq3
end
section
variable {prog:Program} {w:World} {A:Around} {E:Value->Shared->Prop} {s:Shared}
noncomputable def ju(n d:Nat):Option Int->Nat
 |none=>d
 |some v=>if v<0 then(v+(n:Int)).toNat else min v.toNat n
theorem tw(n d:Nat):ju n d none=d:=rfl
theorem wB(n d k:Nat):ju n d (some (k:Int))=min k n:=by
 show(if(k:Int)<0 then((k:Int)+(n:Int)).toNat else min (k:Int).toNat n)=min k n
 rw[if_neg (by lia),KC]
end
end HT
namespace L2
open PySem PySem.Spec PyProof.Rows
noncomputable abbrev TO:=St->Hp->(Option Int->Hp->Prop)->Prop
noncomputable def PO(X:Cx)(e:Option Expr)(t:TO):Prop:=
 ∀(pins:List (Addr×Obj)) (s:Shared) (σ:St) (H:Hp) (Q:Option Int->Hp->Prop),Inv X pins σ H s->t σ H Q->
  wpAny (model X.prog X.w) X.A (evalPart e X.env) (λu s'=>∃o H',Inv X pins σ H' s'/\IsPart u o/\Q o H') X.xe s
noncomputable def wC:TO:=λ_ H Q=>Q none H
noncomputable def C9(t:TE):TO:=λσ H Q=>t σ H λx H1=>∃i,x=.int i/\Q (some i) H1
section
variable {X:Cx} {e:Expr} {te:TE} {lo hi:Option Expr} {tl th:TO} {pos p2:Pos}
theorem pV:PO X none wC:=by
 intro pins s σ H Q I h;rw[evalPart_none];exact wpAny_pure ⟨none,H,I,.none,h⟩
theorem pW(h:PE X e te):PO X (some e) (C9 te):=by
 intro pins s σ H Q I hw;rw[evalPart_some];refine bx (h pins s σ H _ I hw) λu s1 ⟨x,H1,I1,r1,q1⟩=>?_;obtain⟨i,rfl,q⟩:=q1;obtain⟨t,rfl⟩:=r1;exact⟨some i,H1,I1,.int i t,q⟩
noncomputable def Jj(X:Cx)(r:V->Option Int->Option Int->Hp->VK->Prop):Prop:=
 ∀(pins:List (Addr×Obj)) (s:Shared) (σ:St) (H:Hp) (x:V) (v vl vu:Value) (lo hi:Option Int) (sl:Addr) (Q:VK),Inv X pins σ H s->RelV x v->s.heap.IsSliceOf sl vl vu .none->IsPart vl lo->IsPart vu hi->r x lo hi H Q->
  ∃T id,typeLookup (.type T) "__getitem__" = pure (some (.builtin id))/\s.TypeIs v T/\wpAny (model X.prog X.w) X.A (getItem v (.ref sl)) (EP X pins σ Q) X.xe s
noncomputable def JG(r:V->Option Int->Option Int->Hp->VK->Prop)(te:TE)(tl th:TO):TE:=λσ H Q=>te σ H λx H1=>tl σ H1 λl H2=>th σ H2 λu H3=>r x l u H3 Q
theorem jv(hr:Jj X r)(he:PE X e te)(hl:PO X lo tl)(hu:PO X hi th):PE X (.Subscript e (.Slice lo hi none p2) pos) (JG r te tl th):=by
 intro pins s σ H Q I h;refine Subscript_ (bx (he pins s σ H _ I h) λv s1 ⟨x,H1,I1,r1,q1⟩=>?_);refine wpAny_Slice (bx (hl pins s1 σ H1 _ I1 q1) λvl s2 ⟨l,H2,I2,pl,q2⟩=>bx (hu pins s2 σ H2 _ I2 q2) λvu s3 ⟨u,H3,I3,pu,q3⟩=>?_);rw[evalPart_none];refine wpAny_pure ?_;have I4:Inv X pins σ H3 { s3 with heap:=s3.heap.push { cls:=.type "slice",data:=.fields #[vl,vu,.none] } }:=I3.kept (t':=s3.toks) λb ob q=>Kj _ q;obtain⟨T,id,hT,ht,hg⟩:=hr pins { s3 with heap:=s3.heap.push { cls:=.type "slice",data:=.fields #[vl,vu,.none] } } σ H3 x v vl vu l u s3.heap.objs.size Q I4 r1 (Heap.IsSliceOf.new ..) pl pu q3;show wpAny (model X.prog X.w) X.A (subscriptTail e (.Slice lo hi none p2) v (.ref s3.heap.objs.size)) (EP X pins σ Q) X.xe { s3 with heap:=s3.heap.push { cls:=.type "slice",data:=.fields #[vl,vu,.none] } };exact tail_any (ops:=[.ref s3.heap.objs.size,v]) ht hT hg (by with_unfolding_all rfl)
noncomputable def rq(xs:List V)(lo hi:Option Int):List V:=(xs.drop (HT.ju xs.length 0 lo)).take (HT.ju xs.length xs.length hi-HT.ju xs.length 0 lo)
theorem mO(xs:List V)(lo hi:Option Int):(rq xs lo hi).length<=xs.length:=by
 unfold rq;rw[KQ,MK]
 lia
end
end L2
namespace L2
open PySem PySem.Spec PyProof.Rows
noncomputable def iK(n:Nat)(i:Int):Option Nat:=if 0<=i then(if i<n then some i.toNat else none) else if -(n:Int)<=i then some (i+n).toNat else none
noncomputable def pX{α:Type}(xs:List α)(i:Int):Option α:=(iK xs.length i).bind λj=>xs[j]?
theorem lN{n:Nat}{i:Int}{j:Nat}(h:iK n i=some j):seqIndex? i n=some j/\j<n/\-(n:Int)<=i/\i<n:=by
 unfold iK at h;by_cases h0:0<=i
 ·rw[if_pos h0] at h;by_cases h1:i<n
  ·rw[if_pos h1] at h;have e:i.toNat=j:=Option.some.inj h;exact⟨by rw[seqIndex_of h0 h1,e],by lia,by lia,h1⟩
  ·rw[if_neg h1] at h;cases h
 ·rw[if_neg h0] at h;by_cases h1:-(n:Int)<=i
  ·rw[if_pos h1] at h;have e:(i+n).toNat=j:=Option.some.inj h;exact⟨by rw[seqIndex_neg (by lia) h1,e],by lia,h1,by lia⟩
  ·rw[if_neg h1] at h;cases h
theorem lO{α:Type}{xs:List α}{i:Int}{v:α}(h:pX xs i=some v):∃j,seqIndex? i xs.length=some j/\xs[j]?=some v/\j<xs.length/\-(xs.length:Int)<=i/\i<xs.length:=by
 unfold pX at h
 cases e:iK xs.length i with
 |none=>rw[e] at h;cases h
 |some j=>
  rw[e] at h;obtain⟨h1,h2,h3,h4⟩:=lN e;exact⟨j,h1,h,h2,h3,h4⟩
noncomputable def pY(b:Expr):Prop:=∀o i,subscripted b false o i=operate [o,i] (getItem o i)
noncomputable def IxR(X:Cx)(r:R2):Prop:=
 ∀(value slice:Expr) (pins:List (Addr×Obj)) (s:Shared) (σ:St) (H:Hp) (x y:V) (v u:Value) (Q:VK),Inv X pins σ H s->RelV x v->RelV y u->r x y H Q->
  subscripted slice false v u=operate [v,u] (getItem v u)->wpAny (model X.prog X.w) X.A (subscriptTail value slice v u) (EP X pins σ Q) X.xe s
noncomputable def FE(X:Cx)(id:String)(r:V->List V->Hp->VK->Prop):Prop:=
 ∀(pins:List (Addr×Obj)) (s:Shared) (σ:St) (H:Hp) (x:V) (xs:List V) (v:Value) (us:List Value) (Q:VK),Inv X pins σ H s->RelV x v->Vals xs us->r x xs H Q->
  wpAny (model X.prog X.w) X.A (call (.builtin id) (v::us)) (EP X pins σ Q) X.xe s
section
variable {X:Cx} {a b:Expr} {ta tb:TE} {pos:Pos}
theorem IxR.or{r r':R2}(h:IxR X r)(h':IxR X r'):IxR X (λx y H Q=>r x y H Q\/r' x y H Q):=by
 intro value slice pins s σ H x y v u Q I rx ry q hs;rcases q with q|q
 ·exact h value slice pins s σ H x y v u Q I rx ry q hs
 ·exact h' value slice pins s σ H x y v u Q I rx ry q hs
theorem pZ(hr:IxR X r)(ha:PE X a ta)(hb:PE X b tb)(hs:pY b):PE X (.Subscript a b pos) (FD r ta tb):=by
 intro pins s σ H Q I h;exact Subscript_ (z5 ha hb I h λv u s2 x y H2 I2 rx ry q=>hr a b pins s2 σ H2 x y v u Q I2 rx ry q (hs _ _))
noncomputable def Da(K:Ka):R2:=λx y H Q=>∃p xs i v,x=.ref p/\y=.int i/\SqL K H p xs/\pX xs i=some v/\Q v H
noncomputable def Db(K:Ka):R2:=λx y H Q=>∃p xs i v,x=.ref p/\y=.int i/\SqT K H p xs/\pX xs i=some v/\Q v H
noncomputable def Dc:R2:=λx y H Q=>∃z i c,x=.str z/\y=.int i/\z.length<=sizeLine/\pX z.cps.toList i=some c/\Q (.str ⟨#[c]⟩) H
theorem ix_list:IxR X (Da X.K):=by
 intro value slice pins s σ H x y v u Q I rx ry h hs;obtain⟨p,xs,i,z,rfl,rfl,hq,he,q⟩:=h;cases rx;obtain⟨t,rfl⟩:=ry;obtain⟨its,r,pl,hz⟩:=I.list hq;obtain⟨j,h1,h2,h3,h4,h5⟩:=lO he;obtain⟨w,ew,rw'⟩:=r.get h2;have hl:=r.length;have hn:=fR;have fin:EP X pins σ Q w s:=⟨z,H,I,rw',q⟩;by_cases h0:0<=i
 ·have hj:i.toNat=j:=by
   rw[seqIndex_of h0 h5] at h1;exact Option.some.inj h1
  exact item_listR pl.isList h0 (by lia) (by rw[hj];simpa using ew) fin hs
 ·have hj:(i+(its.toArray.size:Int)).toNat=j:=by
   rw[seqIndex_neg (by lia) h4] at h1;rw[Ko,<- hl];exact Option.some.inj h1
  exact subscriptTail_builtinR (x:=w) pl.isList.typeIs slot_list_getitem.lookup
   (wpAny_getItem_list_neg (Q:=λr s'=>r=w/\EP X pins σ Q r s') pl.isList (by lia) (by rw[Ko]<;>lia) (by lia) (by rw[hj];simpa using ew) ⟨rfl,fin⟩) hs
theorem ix_tup:IxR X (Db X.K):=by
 intro value slice pins s σ H x y v u Q I rx ry h hs;obtain⟨p,xs,i,z,rfl,rfl,hq,he,q⟩:=h;cases rx;obtain⟨t,rfl⟩:=ry;obtain⟨its,r,pl,hz⟩:=I.tuple hq;obtain⟨j,h1,h2,h3,h4,h5⟩:=lO he;obtain⟨w,ew,rw'⟩:=r.get h2;have hl:=r.length;have hn:=fR;have fin:EP X pins σ Q w s:=⟨z,H,I,rw',q⟩;exact subscriptTail_builtinR (x:=w) pl.typeIs slot_tuple_getitem.lookup
  (getItem_tuple (j:=j) (Q:=λr s'=>r=w/\EP X pins σ Q r s') pl (by lia) (by lia) (by rw[Ko,<- hl];exact h1) (by simpa using ew) ⟨rfl,fin⟩) hs
theorem Ai:IxR X Dc:=by
 intro value slice pins s σ H x y v u Q I rx ry h hs;obtain⟨z,i,c,rfl,rfl,hz,he,q⟩:=h;obtain⟨t,rfl⟩:=rx;obtain⟨t',rfl⟩:=ry;obtain⟨j,h1,h2,h3,h4,h5⟩:=lO he;have hl:z.cps.toList.length=z.length:=by simp[Str.length]
 rw[hl] at h1 h4 h5;have hn:=fR
 exact tail_any (typeIs_str s z t) slot_str_getitem.lookup (getItem_str (c:=c) (by
  have e1:decide (i < -(2^63:Int))=false:=decide_eq_false (by lia);have e2:decide (i ≥ 2^63)=false:=decide_eq_false (by lia);rw[e1,e2,Bool.or_false]) (by rw[h1];simpa using h2) ⟨.str ⟨#[c]⟩,H,I.tok _,⟨_,rfl⟩,q⟩) hs
noncomputable def Jk(K:Ka):R2:=λx y H Q=>Da K x y H Q\/Db K x y H Q\/Dc x y H Q
theorem lP:IxR X (Jk X.K):=ix_list.or (ix_tup.or Ai)
theorem oo(its:List Value)(n j:Nat)(u:Value):Obj.mapSeq (·.setIfInBounds j u) { cls:=.type "list",data:=.seq its.toArray n }={ cls:=.type "list",data:=.seq (its.set j u).toArray n }:=by
 simp[Obj.mapSeq]
theorem Inv.lst{pins:List (Addr×Obj)}{σ:St}{H:Hp}{s:Shared}{p:Addr}{xs:List V}(I:Inv X pins σ H s)(h:H p=some (.lst xs)) :
  ∃(its:List Value) (n:Nat),Vals xs its/\s.heap.get? p=some { cls:=.type "list",data:=.seq its.toArray n }/\xs.length<=sizeLine:=by
 obtain⟨z,its,n,r,e⟩:=I.hok p _ h;exact⟨its,n,r,e,z⟩
theorem Inv.lstUpd{H:Hp}{s:Shared}{xs ys:List V}{its its':List Value}{n n':Nat}(I:Inv X pins σ H s)(h:H p=some (.lst xs))(ho:s.heap.get? p=some { cls:=.type "list",data:=.seq its.toArray n })(hf:f { cls:=.type "list",data:=.seq its.toArray n }={ cls:=.type "list",data:=.seq its'.toArray n' })(r:Vals ys its')(hz:ys.length<=sizeLine)(t:Nat) :
  Inv X pins σ (upd H p (.lst ys)) { s with heap:=s.heap.update p f,toks:=t }:=by
 have e:(s.heap.update p f).get? p=some { cls:=.type "list",data:=.seq its'.toArray n' }:=by
  rw[LJ f ho (by rw[hf]<;>rfl),hf]
 refine I.write (x:=p) (e:=p) (by rw[h];trivial) (.inl rfl) (λb u hb q=>(Md _ _ (Ne.symm hb)).trans q) ⟨_,e⟩ ?_;exact⟨hz,its',n',r,e⟩
noncomputable def Dd:V->V->V->Hp->(Hp->Prop)->Prop:=λo i v H Q=>∃p xs k j,o=.ref p/\i=.int k/\H p=some (.lst xs)/\iK xs.length k=some j/\Q (upd H p (.lst (xs.set j v)))
theorem mP:CS X Dd:=by
 intro pins s σ H o i v ov iv u Q I ro ri rv h;obtain⟨p,xs,k,j,rfl,rfl,hp,hj,q⟩:=h;cases ro;obtain⟨t,rfl⟩:=ri;obtain⟨its,n,r,ho,hz⟩:=I.lst hp;obtain⟨h1,h2,h3,h4⟩:=lN hj;have hl:=r.length;have hn:=fR
 have I':Inv X pins σ (upd H p (.lst (xs.set j v))) { s with heap:=s.heap.update p (Obj.mapSeq (·.setIfInBounds j u)) }:=
  I.lstUpd hp ho (oo its n j u) (r.set rv j) (by rw[MQ];exact hz) s.toks
 by_cases h0:0<=k
 ·have hk:k.toNat=j:=by
   rw[seqIndex_of h0 h4] at h1;exact Option.some.inj h1
  exact PySem.W.ki_setAt ho h0 (by lia) (by rw[Ko,<- hl];exact h4) (by rw[hk];exact⟨_,I',q⟩)
 ·have hk:(k+(its.toArray.size:Int)).toNat=j:=by
   rw[seqIndex_neg (by lia) h3] at h1;rw[Ko,<- hl];exact Option.some.inj h1
  exact PySem.W.ki_setBack ho (by lia) (by rw[Ko,<- hl];exact h3) (by lia) (by rw[hk];exact⟨_,I',q⟩)
theorem lQ(lo hi:Option Int)(n:Nat):(sliceBounds lo hi none n).1=((HT.ju n 0 lo:Nat):Int)/\(sliceBounds lo hi none n).2.1=((HT.ju n n hi:Nat):Int)/\(sliceBounds lo hi none n).2.2=1:=by
 refine⟨?_,?_,rfl⟩
 ·cases lo with
  |none=>simp[sliceBounds,HT.ju]
  |some i=>
   simp only[sliceBounds,HT.ju,L3,show(1:Int) > 0 by decide,if_true];by_cases h:i<0
   ·simp only[h,if_true]<;>lia
   ·simp only[h,if_false]<;>lia
 ·cases hi with
  |none=>simp[sliceBounds,HT.ju]
  |some i=>
   simp only[sliceBounds,HT.ju,L3,show(1:Int) > 0 by decide,if_true];by_cases h:i<0
   ·simp only[h,if_true]<;>lia
   ·simp only[h,if_false]<;>lia
theorem kA(its:List Value)(lo hi:Option Int):slicePick its.toArray lo hi none=((its.drop (HT.ju its.length 0 lo)).take (HT.ju its.length its.length hi-HT.ju its.length 0 lo)).toArray:=by
 obtain⟨h1,h2,h3⟩:=lQ lo hi its.toArray.size;unfold slicePick;rw[h1,h2,h3]
 simp only[sliceRange_one,pick_run,Ko]<;>rfl
noncomputable def GK(K:Ka):V->Option Int->Option Int->Hp->VK->Prop:=λx lo hi H Q=>∃a xs,x=.ref a/\SqL K H a xs/\∀p,H p=none->Q (.ref p) (upd H p (.lst (rq xs lo hi)))
theorem lR:Jj X (GK X.K):=by
 intro pins s σ H x v vl vu lo hi sl Q I rx hs pl pu h;obtain⟨a,xs,rfl,hx,q⟩:=h;cases rx;obtain⟨its,r,ht,hz⟩:=I.list hx;have hlen:=r.length;refine⟨"list",_,slot_list_getitem.lookup,ht.isList.typeIs,?_⟩
 refine wpAny_getItem_list_slice ht.isList hs pl pu .none (by simp) ?_ (by rw[Ko]<;>lia)
 rw[kA,<- hlen];refine⟨.ref s.heap.objs.size,_,I.laid (t':=s.toks) (o:=.lst (rq xs lo hi)) (λb ob q=>Kj _ q) (Ki _) ?_,rfl,q _ (I.hok.fresh (Ki _))⟩;exact⟨KF (mO xs lo hi) hz,_,0,(r.drop (HT.ju xs.length 0 lo)).take (HT.ju xs.length xs.length hi-HT.ju xs.length 0 lo),Ku _ rfl⟩
theorem call_len_seq:CallR X (.builtin "len") (λxs H Q=>∃p ys,xs=[.ref p]/\(SqL X.K H p ys\/SqT X.K H p ys)/\Q (.int ys.length) H):=by
 intro pins s σ H xs us Q I r h;obtain⟨p,ys,rfl,hq,q⟩:=h;obtain⟨u,rfl,rx⟩:=eO r;cases rx;have hn:=fR;rcases hq with hq|hq
 ·obtain⟨its,r',pl,hz⟩:=I.list hq;have hlen:=r'.length
  exact Calls.call_len_list pl.isList (by simp only[Ko]<;>lia) ⟨.int ys.length,H,I.tok _,⟨s.toks+1,by rw[Ko,hlen]⟩,q⟩
 ·obtain⟨its,r',pl,hz⟩:=I.tuple hq;have hlen:=r'.length
  exact len_tuple pl (by simp only[Ko]<;>lia) ⟨.int ys.length,H,I.tok _,⟨s.toks+1,by rw[Ko,hlen]⟩,q⟩
theorem call_len_str:CallR X (.builtin "len") (λxs H Q=>∃z,xs=[.str z]/\z.length<=sizeLine/\Q (.int z.length) H):=by
 intro pins s σ H xs us Q I r h;obtain⟨z,rfl,hz,q⟩:=h;obtain⟨u,rfl,t,rfl⟩:=eO r;have hn:=fR;exact len_str (by lia) ⟨.int z.length,H,I.tok _,⟨_,rfl⟩,q⟩
theorem CallR.or{r r':List V->Hp->VK->Prop}(h:CallR X f r)(h':CallR X f r'):CallR X f (λxs H Q=>r xs H Q\/r' xs H Q):=by
 intro pins s σ H xs us Q I rs q;rcases q with q|q
 ·exact h pins s σ H xs us Q I rs q
 ·exact h' pins s σ H xs us Q I rs q
theorem d8:CallR X (.type "list") (λxs H Q=>∃p ys,xs=[.ref p]/\(SqL X.K H p ys\/SqT X.K H p ys)/\∀l,H l=none->Q (.ref l) (upd H l (.lst ys))):=by
 intro pins s σ H xs us Q I r h;obtain⟨p,ys,rfl,hq,q⟩:=h;obtain⟨u,rfl,rx⟩:=eO r;cases rx
 have fin:∀(its:List Value),Vals ys its->ys.length<=sizeLine->∀(h':Heap) (c':Nat),(∀b o',s.heap.get? b=some o'->h'.get? b=some o')->
   h'.get? s.heap.objs.size=some { cls:=.type "list",dict:=none,data:=.seq its.toArray c',slots:=#[] }->EP X pins σ Q (.ref s.heap.objs.size) { s with heap:=h' }:=λits r' hz h' c' kp e=>
  ⟨.ref s.heap.objs.size,_,I.laid (t':=s.toks) kp (Ki _) (show ObjOk X.prog X.w _ h' _ (.lst ys) from⟨hz,its,c',r',e⟩),rfl,q _ (I.hok.fresh (Ki _))⟩
 rcases hq with hq|hq
 ·obtain⟨its,r',pl,hz⟩:=I.list hq;have hlen:=r'.length;obtain⟨o,ho,hc,n,hd⟩:=pl.isList
  exact call_list_seq p (.inl rfl) ho hc hd (λh' c' kp e=>fin its r' hz h' c' kp e) (by simp only[Ko]<;>lia)
 ·obtain⟨its,r',pl,hz⟩:=I.tuple hq;have hlen:=r'.length;obtain⟨o,ho,hc,n,hd⟩:=pl
  exact call_list_seq p (.inr rfl) ho hc hd (λh' c' kp e=>fin its r' hz h' c' kp e) (by simp only[Ko]<;>lia)
theorem kB:CallR X (.type "tuple") (λxs H Q=>∃p ys,xs=[.ref p]/\((SqL X.K H p ys/\∀l,H l=none->Q (.ref l) (upd H l (.tup ys)))\/(SqT X.K H p ys/\Q (.ref p) H))):=by
 intro pins s σ H xs us Q I r h;obtain⟨p,ys,rfl,h⟩:=h;obtain⟨u,rfl,rx⟩:=eO r;cases rx;rcases h with⟨hq,q⟩|⟨hq,q⟩
 ·obtain⟨its,r',pl,hz⟩:=I.list hq;have hlen:=r'.length
  refine call_tuple_list pl.isList (λh' kp=>?_) (by simp only[Ko]<;>lia)
  have I1:Inv X pins σ H { s with heap:=h' }:=I.kept (t':=s.toks) kp
  have I2:Inv X pins σ (upd H h'.objs.size (.tup ys)) { s with heap:=h'.push { cls:=.type "tuple",data:=.seq its.toArray } }:=
   I1.laid (t':=s.toks) (λb o e=>Kj _ e) (Ki _) (show ObjOk X.prog X.w _ _ _ (.tup ys) from⟨hz,its,r',IsTup.new _ _⟩)
  exact⟨.ref h'.objs.size,_,I2,rfl,q _ (I1.hok.fresh (Ki _))⟩
 ·obtain⟨its,r',pl,hz⟩:=I.tuple hq;exact call_tuple_same pl ⟨.ref p,H,I,rfl,q⟩
noncomputable def GL(K:Ka)(T:String)(x:V)(H:Hp):Prop:=match x with
 |.str _=>T="str"
 |.int _=>T="int"
 |.ref p=>(T="list"/\∃xs,SqL K H p xs)\/(T="tuple"/\∃o,K.lookup p=some o/\o.cls=.type "tuple"/\o.dict=none)\/
   (T="dict"/\((∃kvs,H p=some (.dK kvs))\/∃m ep kvs,H p=some (.dT m ep kvs)))\/(T="set"/\∃S n,H p=some (.set S n))
 |_=>False
theorem tz{s:Shared}{T:String}(I:Inv X pins σ H s)(r:RelV x v)(ty:GL X.K T x H) :
  s.TypeIs v T/\∀a,v=.ref a->∃ob,s.heap.get? a=some ob/\ob.dict=none:=by
 cases x with
 |str z=>
  obtain⟨t,rfl⟩:=r;cases(show T="str" from ty)
  exact⟨typeIs_str s z t,λ_ e=>nomatch e⟩
 |int i=>
  obtain⟨t,rfl⟩:=r;cases(show T="int" from ty)
  exact⟨typeIs_int s i t,λ_ e=>nomatch e⟩
 |ref p=>
  cases r;rcases ty with⟨rfl,xs,hq⟩|⟨rfl,o,hk,hc,hd⟩|⟨rfl,hk⟩|⟨rfl,S,n,hk⟩
  ·obtain⟨its,_,pl,_⟩:=I.list hq;refine⟨pl.isList.typeIs,λa e=>?_⟩;cases e;obtain⟨o,n,e,c,hd,_⟩:=pl;exact⟨o,e,hd⟩
  ·refine⟨⟨o,I.kIn p o hk,hc⟩,λa e=>?_⟩;cases e;exact⟨o,I.kIn _ o hk,hd⟩
  ·have z:∃o,s.heap.get? p=some o/\o.ExactDict:=by
    rcases hk with⟨kvs,hk⟩|⟨_,_,kvs,hk⟩
    ·obtain⟨_,_,_,_,o,_,_,e,ex,_⟩:=I.hok p _ hk;exact⟨o,e,ex⟩
    ·obtain⟨_,_,_,_,o,_,e,ex,_⟩:=I.hok p _ hk;exact⟨o,e,ex⟩
   obtain⟨o,e,ex⟩:=z;refine⟨⟨o,e,ex.1⟩,λa e2=>?_⟩;cases e2;exact⟨o,e,ex.2.1⟩
  ·obtain⟨o,_,_,_,e,ex,_⟩:=I.hok p _ hk;refine⟨⟨o,e,ex.1⟩,λa e2=>?_⟩;cases e2;exact⟨o,e,ex.2.1⟩
 |_=>exact False.elim ty
noncomputable def GM(K:Ka)(T:String)(r:V->List V->Hp->VK->Prop)(to:TE):TE:=λσ H Q=>to σ H λx H1=>GL K T x H1/\r x [] H1 Q
noncomputable def JH(K:Ka)(T:String)(r:V->List V->Hp->VK->Prop)(to:TE)(t:TA):TE:=λσ H Q=>to σ H λx H1=>GL K T x H1/\t σ H1 λxs H2=>r x xs H2 Q
variable {o e:Expr} {es:List Expr} {to:TE} {t:TA} {name:Str} {apos cpos:Pos} {T id:String} {r:V->List V->Hp->VK->Prop}
theorem Aj(pa:PlainAttrs T)(slot:Slot T name id)(hty:typeOf (.builtin id)=pure (.type "method_descriptor"))(hm:FE X id r)(ho:PE X o to)
  (hbase:attributeBase o name X.env (eval o X.env)=eval o X.env:=by rfl) (hline:(apos.endLine==cpos.line)=true:=by rfl):PE X (.Call (.Attribute o name apos) [] [] cpos) (GM X.K T r to):=by
 intro pins s σ H Q I h;refine wpAny_Call_method0_late hbase hline (bx (ho pins s σ H _ I h) λv s1 ⟨x,H1,I1,r1,ty,q1⟩=>?_);obtain⟨h1,h2⟩:=tz I1 r1 ty;exact⟨T,id,pa,slot,hty,h1,h2,Calls.callWith_builtin rfl (PySem.evalArgs_none (hm pins s1 σ H1 x [] v [] Q I1 r1 .nil q1))⟩
theorem tB(pa:PlainAttrs T)(slot:Slot T name id)(hty:typeOf (.builtin id)=pure (.type "method_descriptor"))(hm:FE X id r)(ho:PE X o to)(ha:PA X (e::es) t)
  (hbase:attributeBase o name X.env (eval o X.env)=eval o X.env:=by rfl)
  (hfew:((backTo cpos (starEach (e::es) X.env)).all (λx=>!x.1)&&(backToKw cpos (keywordEach [] X.env)).all (λx=>x.1.isSome)
   && decide ((e::es).length+([]:List Keyword).length+(if([]:List Keyword).isEmpty then 0 else 1)<30))=true:=by rfl)
  (hline:(apos.endLine==cpos.line)=true:=by rfl) (hs:starEach (e::es) X.env=(false,eval e X.env)::starEach es X.env:=by rfl) (hplain:(backTo cpos (starEach es X.env)).any (·.1)=false:=by rfl) :
  PE X (.Call (.Attribute o name apos) (e::es) [] cpos) (JH X.K T r to t):=by
 intro pins s σ H Q I h;refine wpAny_Call_method_late hbase hfew hline rfl (bx (ho pins s σ H _ I h) λv s1 ⟨x,H1,I1,r1,ty,q1⟩=>?_);obtain⟨h1,h2⟩:=tz I1 r1 ty;refine⟨T,id,pa,slot,hty,h1,h2,?_⟩;have hA:=ha cpos pins s1 σ H1 _ I1 q1;rw[hs] at hA⊢
 refine Calls.callWith_builtin (by show(false||(backTo cpos (starEach es X.env)).any (·.1))=false;rw[hplain]<;>rfl) (Calls.evalArgs_plain ?_)
 exact bx hA λus s2 ⟨vs,H2,I2,r2,q2⟩=>hm pins s2 σ H2 x vs v us Q I2 r1 r2 q2
/- xs.append(e),list.index on a module's tuple .. are FE facts of 06m -/
end
end L2
namespace L2
open PySem PySem.Spec PyProof.Rows
noncomputable def Jl(X:Cx)(id:String)(r:V->List V->Hp->VK->Prop):Prop:=
 ∀(pins:List (Addr×Obj)) (s:Shared) (σ:St) (H:Hp) (x:V) (xs:List V) (v:Value) (us:List Value) (Q:VK),Inv X pins σ H s->RelV x v->Vals xs us->r x xs H Q->
  wpAny (model X.prog X.w) X.A (call (.builtin id) (v::us)) (EP X pins σ Q) X.xe s
theorem Vals.one:∀{x:V} {us:List Value},Vals [x] us->∃u,us=[u]/\RelV x u
 |_,_,.cons r .nil=>⟨_,rfl,r⟩
theorem Vals.eraseIdx:∀{xs:List V} {us:List Value} (i:Nat),Vals xs us->Vals (xs.eraseIdx i) (us.eraseIdx i)
 |_,_,_,.nil=>.nil
 |_,_,0,.cons _ t=>t
 |_,_,i+1,.cons r t=>.cons r (Vals.eraseIdx i t)
theorem Vals.reverse{xs:List V}{us:List Value}(h:Vals xs us):Vals xs.reverse us.reverse:=by
 induction h with
 |nil=>exact .nil
 |cons r t ih=>rw[LH,LH];exact Vals.append ih (.cons r .nil)
theorem kX{α:Type}:∀(l:List α) (i:Nat),(l.eraseIdx i).length<=l.length
 |[],_=>Ki _
 |_::_,0=>LA _
 |_::r,i+1=>Nat.succ_le_succ (kX r i)
section
variable {X:Cx} {pins:List (Addr×Obj)} {σ:St} {H:Hp} {s:Shared} {l b:Addr} {xs ys zs:List V}
theorem Inv.lset{its its':List Value}{n:Nat}{f:Array Value->Array Value}{t':Nat}(I:Inv X pins σ H s)(hH:H l=some (.lst xs))
  (e:s.heap.get? l=some { cls:=.type "list",data:=.seq its.toArray n }) (hf:f its.toArray=its'.toArray) (hv:Vals ys its') (hz:ys.length<=sizeLine) :
  Inv X pins σ (upd H l (.lst ys)) { s with heap:=s.heap.update l (Obj.mapSeq f),toks:=t' }:=by
 have q:=PySem.IsL.update e f;rw[hf] at q;refine I.write (x:=l) (e:=l) (by rw[hH];exact trivial) (.inl rfl) (λb' u hb hu=>(Md s.heap (Obj.mapSeq f) (Ne.symm hb)).trans hu) ⟨_,q⟩ ?_;exact⟨hz,its',_,hv,q⟩
theorem Inv.lnew{its:List Value}{t':Nat}(I:Inv X pins σ H s)(hv:Vals ys its)(hz:ys.length<=sizeLine) :
  Inv X pins σ (upd H s.heap.objs.size (.lst ys)) { s with heap:=s.heap.push { cls:=.type "list",data:=.seq its.toArray },toks:=t' }:=
 I.laid (λ_ _ q=>Kj _ q) (Ki _) ⟨hz,its,0,hv,Ku _ rfl⟩
theorem Inv.fresh(I:Inv X pins σ H s):H s.heap.objs.size=none:=I.hok.fresh (Ki _)
theorem Inv.lstM(I:Inv X pins σ H s)(hH:H l=some (.lst xs)):xs.length<=sizeLine/\∃(its:List Value) (n:Nat),Vals xs its/\xs.length=its.length/\s.heap.get? l=some { cls:=.type "list",data:=.seq its.toArray n }:=by
 obtain⟨z,its,n,r,e⟩:=I.hok l _ hH;exact⟨z,its,n,r,r.length,e⟩
end
section
variable {X:Cx}
noncomputable def p0:V->List V->Hp->VK->Prop:=λx vs H Q=>∃l xs y,x=.ref l/\vs=[y]/\H l=some (.lst xs)/\xs.length<sizeLine/\Q .non (upd H l (.lst (xs++[y])))
theorem kY:Jl X "list.append" p0:=by
 intro pins s σ H x vs v us Q I rx rv h;obtain⟨l,xs,y,rfl,rfl,hH,hz,q⟩:=h;cases rx;obtain⟨u,rfl,ru⟩:=rv.one;obtain⟨z,its,n,r,hl,e⟩:=I.lstM hH;refine call_meets F.slot_list_append ⟨_,e,rfl⟩ F.entry_list_append (F.args_list_append_2 _ _) (PySem.list_append l its.toArray n u (by rw[Ko];lia)) ⟨e,?_⟩;refine⟨.non,_,I.lset (its':=its++[u]) hH e (by simp) (r.append (.cons ru .nil)) ?_,rfl,q⟩;rw[K5,List.length_singleton]
 lia
noncomputable def tD:V->List V->Hp->VK->Prop:=λx vs H Q=>∃l xs i k y,x=.ref l/\vs=[.int i]/\H l=some (.lst xs)/\-(2^63)<=i/\i<2^63/\seqIndex? i xs.length=some k/\xs[k]?=some y/\Q y (upd H l (.lst (xs.eraseIdx k)))
theorem tE:Jl X "list.pop" tD:=by
 intro pins s σ H x vs v us Q I rx rv h;obtain⟨l,xs,i,k,y,rfl,rfl,hH,h1,h2,hk,hy,q⟩:=h;cases rx;obtain⟨u,rfl,ru⟩:=rv.one;obtain⟨t,rfl⟩:=ru;obtain⟨z,its,n,r,hl,e⟩:=I.lstM hH;obtain⟨w,hw,rw'⟩:=r.get hy;refine call_meets F.slot_list_pop ⟨_,e,rfl⟩ F.entry_list_pop (F.args_list_pop_2 _ _)
  (MeetsSeq.list_pop_at l its.toArray n i t k w (fitsIndex_both h1 h2) (by rw[Ko,<- hl];exact hk) (by rw[<- Mi];exact hw) (by rw[Ko];lia)) ⟨e,?_⟩
 refine⟨y,_,I.lset (its':=its.eraseIdx k) hH e ?_ (r.eraseIdx k) ?_,rw',q⟩
 ·show its.toArray.eraseIdxIfInBounds k=(its.eraseIdx k).toArray;rw[List.eraseIdxIfInBounds_toArray]
 ·have:=kX xs k
  lia
noncomputable def GN:R2:=λx y H Q=>∃l b xs zs,x=.ref l/\y=.ref b/\H l=some (.lst xs)/\H b=some (.lst zs)/\xs.length+zs.length<=sizeLine/\∀p,H p=none->Q (.ref p) (upd H p (.lst (xs++zs)))
theorem Ak:fu X (binaryOp .Add) GN:=by
 intro pins s σ H x y v u Q I rx ry h;obtain⟨l,b,xs,zs,rfl,rfl,hH,hB,hz,q⟩:=h;cases rx;cases ry;obtain⟨z,its,n,r,hl,e⟩:=I.lstM hH;obtain⟨z2,its2,n2,r2,hl2,e2⟩:=I.lstM hB;refine PySem.P.add_list e e2 ?_ (by rw[Ko,Ko];lia);have ea:its.toArray++its2.toArray=(its++its2).toArray:=by simp
 rw[ea];exact⟨.ref _,_,I.lnew (t':=s.toks) (r.append r2) (by rw[K5];lia),rfl,q _ I.fresh⟩
end
section
variable {prog:Program} {w:World} {A:Around} {E:Value->Shared->Prop} {s:Shared}
end
section
variable {X:Cx}
end
end L2
namespace Att
open PySem PySem.W PySem.Calls PyProof.Rows
theorem iX:∀(ns:List Int) (vs:List Value),WellAll P h vs (ns.map WData.int)->IntsAre vs ns:=by
 intro ns
 induction ns with
 |nil=>
  intro vs w;rw[Mr] at w;cases w;exact .nil
 |cons n ns ih=>
  intro vs w;rw[KM] at w
  cases w with
  |cons a b=>
   cases a;exact .cons _ _ (ih _ b)
theorem rz{l:OpenLaw}{n:Nat}(hn:l.most=some n){P:Params}{h:Heap}{args:List WData}{vals:List Value}
  (hpre:l.row.toRowW.claim.pre args=true) (hwl:WellAll P h vals args) :
  ∃a vs ns,vals=[Value.ref a]/\args=[WData.list (ns.map WData.int)]/\h.get? a=some { cls:=.type "list",data:=.seq vs.toArray }/\IntsAre vs ns/\ns.length<=n:=by
 have hsh:WShape.hasAll [] args [.list .int]=true:=(pre_splitW hpre).1;have hc:l.pre.holds [] { args:=args }=true:=(pre_splitW hpre).2;obtain⟨d,r,rfl,h1,h2⟩:=hasAllW_cons hsh;obtain rfl:=hasAllW_nil h2;obtain⟨xs,rfl,h3⟩:=hasW_list h1;obtain⟨ns,rfl⟩:=items_int h3
 have hlen:ns.length<=n:=by
  unfold OpenLaw.pre at hc
  have h4:(WTm.not (.lt (.lit (.int (n:Int))) (.len (.arg 0)))).holds [] { args:=[.list (ns.map .int)] }=true:=by
   have h4:=(holds_andW hc).1;rw[hn] at h4;exact h4
  have h5:=condW_of h4 (w_not (w_lt w_lit (w_len_list (w_arg rfl))));rw[Kc] at h5;refine Nat.le_of_not_lt λq=>?_;have q':(n:Int)<((ns.length:Nat):Int):=by lia
  first
   |(rw[decide_eq_true q'] at h5;exact absurd h5 (by decide))
   |(simp at h5;lia)
 cases hwl with
 |cons w1 w2=>
  cases w2
  cases w1 with
  |list ho hall=>exact⟨_,_,ns,rfl,rfl,ho,iX ns _ hall,hlen⟩
theorem rA(l:OpenLaw)(args:List WData):l.row.toRowW.claim.post args (.bool true) args=true:=
 postW_of (r:=l.row.toRowW) (X:=(true==true))
  (show WShape.has [] (.bool true) .bool=true by first|rfl|decide|simp[WShape.has,WShape.arms,WShape.armsAll])
  (show(WTm.eq .res (.lit (.bool true))).value [] { args:=args,res:=some (.bool true),after:=args }=some (.bool (true==true)) from w_eq_bool (w_res rfl) w_lit) rfl
theorem mQ{l:OpenLaw}{n:Nat}{YP:World->Heap->Prop}{d:DefRec}(hn:l.most=some n)(hdf:d.params.defaults=[])(call:∀(w:World) (s₀ s₁:Shared) (mg mb:Str->Option Value) (fa:Addr) (o:Obj) (pm cd doc:Value) (a:Addr) (vs:List Value) (ns:List Int),
   Ground q loose [] XP w s₀ mg mb s₁.heap->YP w s₁.heap->
   s₁.heap.get? fa=some o->o.data=.func (docDef d.name d.params d.body d.scope pm cd doc)->s₁.heap.CodeRec cd d.name->mg d.name=some (.ref fa)->
   s₁.heap.get? a=some { cls:=.type "list",data:=.seq vs.toArray }->IntsAre vs ns->ns.length<=n->s₁.gens=#[]->
   codeAny (model l.prog w) callerA (.call (.ref fa) ⟨[.ref a],[]⟩) (λr s'=>r=.ok (.ret (.bool true))/\OldK s₁.heap s'.heap/\s'.os=s₁.os/\AllBare s'.gens) s₁) :
  WalkO q loose XP YP l.row.toRowW d [] (λf vs=>PySem.call f vs):=by
 intro w s₀ s₁ mg mb G Y fa o pm cd doc dV kV ho hd hcd hD hmg hg args vals as hpre hlay hrd hwl hlo;obtain rfl:dV=.none:=Dflts.none hD hdf;obtain rfl:kV=.none:=Dflts.noKw hD;obtain⟨a,vs,ns,rfl,rfl,hobj,hints,hlen⟩:=rz hn hpre hwl;refine enter_call (codeAny_mono (call w s₀ s₁ mg mb fa o pm cd doc a vs ns G Y ho (fd_plain hd) hcd hmg hobj hints hlen hg) λr s' hq=>?_);obtain⟨rfl,h2,h3,h4⟩:=hq
 exact⟨.inl ⟨.bool true,.bool true,[],rfl,λ_=>rfl,.bool true,rA l _,λ_=>⟨List.Pairwise.nil,λ_ hm=>(nomatch hm)⟩⟩,h2,h3,h4⟩
section
variable {prog:Program} {w:World} {A:Around} {E:Value->Shared->Prop} {s:Shared} {K:Frag}
end
end Att
namespace L2
open PySem PySem.Spec PyProof.Rows
theorem kZ:∀{vs:List Value} {ns:List Int},IntsAre vs ns->Vals (ns.map V.int) vs
 |_,_,.nil=>.nil
 |_,_,.cons n t h=>.cons ⟨t,rfl⟩ (kZ h)
noncomputable def Al(H:Hp):Prop:=∀b,H b=none\/∃o xs,H b=some (.frz o (.lst xs))
theorem tF{K:Ka}{mg mb:Str->Option Value}{k:Nat}{x:Str}{s₁:Shared}{vs:List Value}{ns:List Int}(KX:K.In s₁.heap)(hns:s₁.heap.Ns mainGlobals mg)(hb:s₁.heap.Ns builtinsNs mb)(hbb:∀x:Str,x≠"__name__"->mb x=bootBuiltins x)(hlim:s₁.heap.NoLimit)(hg:s₁.gens=#[])(ha:s₁.heap.get? a=some { cls:=.type "list",data:=.seq vs.toArray })(hi:IntsAre vs ns)(hl:ns.length<=sizeLine)(hr:Room k callerA)(F:∀base:Heap,K.In base->base.Ns mainGlobals mg->FnOk P w K mg base CX k fa fd [x] sp)(hbind:∀(s:Shared) (u:Value),BindsTo s fd ⟨[u],[]⟩ [(x,u)])(hsp:∀H:Hp,Al H->SqL K H a (ns.map V.int)->sp [.ref a] H (λv _=>v=.bl true) λ_ _ _=>False)(hCX:∀H e s',CX [] H s₁ (λ_ _ _=>False) e s'->False) :
  codeAny (model P w) callerA (.call (.ref fa) ⟨[.ref a],[]⟩) (λr s'=>r=.ok (.ret (.bool true))/\OldK s₁.heap s'.heap/\s'.os=s₁.os/\AllBare s'.gens) s₁:=by
 have rv:=kZ hi;have lenV:=hi.length
 -- from an abstract heap in which nothing but the script may be tracked
 have core:∀H:Hp,Al H->SqL K H a (ns.map V.int)->HOk P w H s₁.heap->(∀b,H b≠none->b=a)->(H a≠none->K.lookup a=none)->
   codeAny (model P w) callerA (.call (.ref fa) ⟨[.ref a],[]⟩) (λr s'=>r=.ok (.ret (.bool true))/\OldK s₁.heap s'.heap/\s'.os=s₁.os/\AllBare s'.gens) s₁:=by
  intro H hO hS hok hA hK;have base_of:∀{b:Addr} {o:Obj},s₁.heap.get? b=some o->H b=none->(lG s₁.heap H).get? b=some o:=λe n=>sN e n
  have noA:∀{b:Addr} {o:Obj} {es:Array DictEntry} {ep:Nat},s₁.heap.get? b=some o->o.data=.dict es ep->H b=none:=λ{b o es ep} e d=>by
   cases q:H b with
   |none=>rfl
   |some u=>
    have e':b=a:=hA b (by rw[q];simp);subst e';rw[ha] at e;cases e;have d':Data.seq vs.toArray _=Data.dict es ep:=d;cases d'
  have d9:∀{b:Addr} {m:Str->Option Value},s₁.heap.Ns b m->(lG s₁.heap H).Ns b m:=λ{b m} ⟨o,es,ep,e,d,r⟩=>⟨o,es,ep,base_of e (noA e d),d,r⟩
  have hKb:K.In (lG s₁.heap H):=λb o e=>base_of (KX b o e) (by
   cases q:H b with
   |none=>rfl
   |some u=>
    have e':b=a:=hA b (by rw[q];simp);subst e';rw[hK (by rw[q];simp)] at e;cases e)
  have hM:Mod K mg (lG s₁.heap H):=⟨hKb,d9 hns,⟨mb,d9 hb,hbb⟩,let ⟨mc,h1,h2⟩:=hlim;⟨mc,d9 h1,h2⟩⟩;have e0:wz P w K mg (lG s₁.heap H) callerA [] s₁ H:=⟨rfl,hM,λb o e=>wc e,Nat.le_of_eq (q9 _ _),trivial,λb hb=>absurd (show b∈([]:List Addr) from hb) (by simp),hok,.of_eq hg⟩;refine codeAny_mono ((F _ hKb (d9 hns)).run callerA [] s₁ H ⟨[.ref a],[]⟩ [.ref a] [.ref a] _ _ hr e0 (hbind s₁ (.ref a)) (.cons rfl .nil) (hsp H hO hS)) λr s' h=>?_
  cases r with
  |error e=>exact(hCX H e s' h).elim
  |ok fl=>
   cases fl with
   |next=>exact False.elim h
   |brk=>exact False.elim h
   |cont=>exact False.elim h
   |ret u=>
    obtain⟨v,H',os,bare,un,hok',r',q⟩:=h;have q':v=.bl true:=q;subst q';obtain rfl:u=Value.bool true:=r';refine⟨rfl,OldK.of_keep λb o e=>?_,os,bare⟩
    cases q:H b with
    |none=>exact un.keep b o e q (by intro z;exact absurd (show b∈([]:List Addr) from z) (by simp)) (by simp)
    |some u=>
     rcases hO b with z|⟨ob,xs,z⟩
     ·rw[q] at z;cases z
     ·have z2:=un.frzs b ob _ z;obtain⟨e1,_⟩:=hok b _ z;obtain⟨e2,_⟩:=hok' b _ z2;rw[e] at e1;cases e1;exact e2
 cases hk:K.lookup a with
 |some o=>
  -- the script is one of the module's own objects
  have e:=KX a o hk;rw[ha] at e;cases e;refine core (λ_=>none) (λ_=>.inl rfl) (.inr ⟨_,vs.toArray,_,hk,rfl,rfl,rfl,by rw[Ko,lenV];exact hl,by simpa using rv⟩) (λb u z=>by have z':(none:Option HO)=some u:=z;cases z') (λb z=>absurd rfl z) λz=>absurd rfl z
 |none=>
  refine core (λb=>if b=a then some (.frz { cls:=.type "list",data:=.seq vs.toArray } (.lst (ns.map V.int))) else none) (λb=>?_) (.inl (.inr ⟨{ cls:=.type "list",data:=.seq vs.toArray },if_pos rfl⟩)) (λb u z=>?_) (λb z=>?_) λ_=>hk
  ·by_cases hb:b=a
   ·exact .inr ⟨_,_,if_pos hb⟩
   ·exact .inl (if_neg hb)
  ·by_cases hb:b=a
   ·have z':=(if_pos hb).symm.trans z;cases z';subst hb;exact⟨ha,by rw[Kc];exact hl,vs,_,rv,ha⟩
   ·have z':=(if_neg hb).symm.trans z;cases z'
  ·by_cases hb:b=a
   ·exact hb
   ·exact absurd (if_neg hb) z
end L2
namespace L2
open PySem PySem.Spec PyProof.Rows
theorem wD{l:PySem.W.OpenLaw}{n k:Nat}{YP:World->Heap->Prop}{d:DefRec}{K:Params->Ka}{CX:World->rm}{sp:World->Sp}{x:Str}(hn:l.most=some n)(hn2:n<=sizeLine)(hdf:d.params.defaults=[])(hr:Room k callerA)(hY:∀(w:World) (h:Heap),YP w h->(K w.params).In h)(F:∀(w:World) (mg:Str->Option Value) (fa:Addr) (h:Heap),(K w.params).In h->h.Ns mainGlobals mg->mg d.name=some (.ref fa)->
   ∃fd:FuncData,(∀(s:Shared) (u:Value),BindsTo s fd ⟨[u],[]⟩ [(x,u)])/\
    ∀base:Heap,(K w.params).In base->base.Ns mainGlobals mg->FnOk l.prog w (K w.params) mg base (CX w) k fa fd [x] (sp w))(hsp:∀(w:World) (H:Hp) (a:Addr) (ns:List Int),ns.length<=n->Al H->SqL (K w.params) H a (ns.map V.int)->sp w [.ref a] H (λv _=>v=.bl true) λ_ _ _=>False)(hCX:∀(w:World) (H:Hp) (s:Shared) (e:Value) (s':Shared),CX w [] H s (λ_ _ _=>False) e s'->False) :
  PySem.W.WalkO q loose XP YP l.row.toRowW d [] (λf vs=>PySem.call f vs):=by
 refine Att.mQ hn hdf λw s₀ s₁ mg mb fa o pm cd doc a vs ns G Y ho hd hcd hmg hobj hints hlen hg=>?_;have KX:=hY w _ Y;obtain⟨fd,hb,hF⟩:=F w mg fa _ KX G.T.g hmg;exact tF KX G.T.g G.T.b G.T.builtins G.T.nolimit hg hobj hints (KF hlen hn2) hr hF hb (λH hO hS=>hsp w H a ns hlen hO hS) λH e s'=>hCX w H s₁ e s'
end L2
namespace L2
open PySem PySem.Spec PyProof.Rows
noncomputable def dI(s:Stmt):Arguments:=match s with
 |.FunctionDef _ a _ _ _ _ _ _ _ _=>a
 |_=>{ posonlyargs:=[],args:=[],vararg:=none,kwonlyargs:=[],kw_defaults:=[],kwarg:=none,defaults:=[] }
noncomputable def bZ(s:Stmt):List Stmt:=match s with
 |.FunctionDef _ _ b _ _ _ _ _ _ _=>b
 |_=>[]
noncomputable def ae(s:Stmt):Scope:=match s with
 |.FunctionDef _ _ _ _ _ _ sc _ _ _=>sc
 |_=>{ kind:=.function,names:=[],isGenerator:=false,isCoroutine:=false }
noncomputable abbrev p4:rm:=λ_ _ _ _ _ _=>False
noncomputable abbrev E0:XK:=λ_ _ _=>False
theorem tG:lM p4 X E0:=λ_ _ _ _ _ _ _ h=>h.elim
structure Fun(K:Ka)(x qual:Str)(st:Stmt)(f:Addr)(fd:FuncData):Prop where
 ex:∃(oc:Value) (od:Option Addr) (kV doc pm:Value) (an:Option Addr) (cdv ct:Value) (osl:Array (Option Value)),
  fd=Lh x qual (dI st) (bZ st) (ae st) .none kV doc pm an cdv ct/\K.lookup f=some ⟨oc,od,.func fd,osl⟩/\LR K cdv qual=true
 kp:K3 K (.ref f)=true
section
variable {P:Program} {w:World} {K:Ka} {mg:Str->Option Value} {base:Heap}
theorem Fun.ok{x qual:Str}{st:Stmt}{f:Addr}{fd:FuncData}{N ps:List Str}{k:Nat}{sp:Sp}(F:Fun K x qual st f fd)(S:aq N ps (ae st))(len:∀vs H Q E,sp vs H Q E->vs.length=ps.length)
  (hbody:∀(cdv:Value) (A:Around) (outer:List Env) (s:Shared) (H:Hp) (vs:List V) (Q:VK) (E:XK),Room k (A.deeper (envOfC qual (ae st) s.heap.objs.size f cdv))->sp vs H Q E->
   ∃t,PSs (mM p4 P w K mg base N qual (ae st) f cdv A outer s H E).nox (bZ st) t/\t { nx:=λ_ H'=>Q .non H',rt:=Q } (cH N vs) H):FnOk P w K mg base p4 (k+1) f fd ps sp:=by
 obtain⟨oc,od,kV,doc,pm,an,cdv,ct,osl,rfl,lk,hcd⟩:=F.ex;refine C8 lk hcd S len λA outer s H vs Q E hr hsp=>?_;obtain⟨t,h,q⟩:=hbody cdv A outer s H vs Q E hr hsp;exact⟨t,h.nox,q⟩
theorem Fun.binds{x qual:Str}{st:Stmt}{f:Addr}{fd:FuncData}{ps:List Str}(F:Fun K x qual st f fd)
  (h:∀(kV doc pm:Value) (an:Option Addr) (cdv ct:Value) (us:List Value),us.length=ps.length->bindArgs (Lh x qual (dI st) (bZ st) (ae st) .none kV doc pm an cdv ct) ⟨us,[]⟩=pure (ps.zip us)):Binds K fd ps []:=by
 obtain⟨oc,od,kV,doc,pm,an,cdv,ct,osl,rfl,lk,hcd⟩:=F.ex;exact .all (h kV doc pm an cdv ct)
theorem Am{x qual:Str}{st:Stmt}{f:Addr}{oc:Value}{od an:Option Addr}{osl:Array (Option Value)}{kV doc pm cdv ct:Value}(l:K.lookup f=some ⟨oc,od,.func (Lh x qual (dI st) (bZ st) (ae st) .none kV doc pm an cdv ct),osl⟩)
  (c:LR K cdv qual=true) (k:K3 K (.ref f)=true):Fun K x qual st f (Lh x qual (dI st) (bZ st) (ae st) .none kV doc pm an cdv ct):=⟨⟨oc,od,kV,doc,pm,an,cdv,ct,osl,rfl,l,c⟩,k⟩
end
section
variable {X:Cx}
end
theorem tH{A B:Prop}(h:B):if false=true then A else B:=by
 rw[if_neg K4];exact h
theorem tI{A B:Prop}(h:A):if true=true then A else B:=by
 rw[if_pos rfl];exact h
noncomputable def Same(H H':Hp):Prop:=∀b o,H b=some o->H' b=some o
theorem Same.refl(H:Hp):Same H H:=λ_ _ h=>h
theorem Same.trans(a:Same H H1)(b:Same H1 H2):Same H H2:=λc o h=>b c o (a c o h)
theorem Same.free{H H':Hp}(e:Same H H'){l:Addr}(h:H' l=Option.none):H l=Option.none:=by
 cases q:H l with
 |none=>rfl
 |some o=>
  rw[e l o q] at h;cases h
end L2
namespace HT
open PySem PySem.Spec PyProof.Rows
section
variable {prog:Program} {w:World} {A:Around} {E:Value->Shared->Prop} {s:Shared}
end
end HT
namespace L2
open PySem PySem.Spec PyProof.Rows
section
variable {X:Cx}
end
end L2
namespace L2
open PySem PySem.Spec PyProof.Rows
section
variable {κ:Type} [DecidableEq κ]
noncomputable def gr(kvs:List (κ×V))(k:κ):Option V:=(kvs.find? λkv=>decide (kv.1=k)).map (·.2)
noncomputable def c9(kvs:List (κ×V))(k:κ)(v:V):List (κ×V):=
 if(kvs.any λkv=>decide (kv.1=k))=true then kvs.map (λkv=>if kv.1=k then(kv.1,v) else kv) else kvs++[(k,v)]
theorem jw{p:κ×V}(e:p.1=k):gr (p::r) k=some p.2:=by simp[gr,Lj,e]
theorem jx{p:κ×V}(e:¬p.1=k):gr (p::r) k=gr r k:=by simp[gr,Lj,e]
theorem mR(k:κ):∀kvs:List (κ×V),(kvs.any λkv=>decide (kv.1=k))=(gr kvs k).isSome
 |[]=>rfl
 |p::r=>by
  rw[Mn];by_cases e:p.1=k
  ·simp only[jw e,decide_eq_true e,Bool.true_or,Ms]
  ·rw[jx e,decide_eq_false e,Bool.false_or];exact mR k r
theorem iL(kvs:List (κ×V))(k:κ)(v:V):(c9 kvs k v).length<=kvs.length+1:=by
 unfold c9;split
 ·rw[Kc];lia
 ·rw[K5,KS,L8];lia
theorem RelO.isSome_eq{o:Option V}{u:Option Value}(r:RelO o u):o.isSome=u.isSome:=by
 cases o with
 |none=>cases u with
  |none=>rfl
  |some _=>exact(show False from r).elim
 |some _=>cases u with
  |none=>exact(show False from r).elim
  |some _=>rfl
theorem KV.val(r:KV kvs vs)(k:κ):RelO (gr kvs k) (valueAt vs k):=by
 unfold KV at r
 induction r with
 |nil=>exact True.intro
 |@cons p q ps qs h t ih=>
  obtain⟨h1,h2⟩:=h;by_cases e:p.1=k
  ·have e':q.1=k:=h1.symm.trans e;have b:valueAt (q::qs) k=some q.2:=by simp[valueAt,Lj,e']
   rw[jw e,b];exact h2
  ·have e':¬q.1=k:=λz=>e (h1.trans z);have b:valueAt (q::qs) k=valueAt qs k:=by simp[valueAt,Lj,e']
   rw[jx e,b];exact ih
theorem KV.any{kvs:List (κ×V)}{vs:List (κ×Value)}(r:KV kvs vs)(k:κ):(kvs.any λkv=>decide (kv.1=k))=vs.any λkv=>decide (kv.1=k):=by
 unfold KV at r
 induction r with
 |nil=>rfl
 |cons h t ih=>rw[Mn,Mn,ih,h.1]
theorem KV.repl{kvs:List (κ×V)}{vs:List (κ×Value)}(r:KV kvs vs)(k:κ){y:V}{u:Value}(ry:RelV y u) :
  KV (kvs.map λkv=>if kv.1=k then(kv.1,y) else kv) (vs.map λkv=>if kv.1=k then(kv.1,u) else kv):=by
 unfold KV at r⊢
 induction r with
 |nil=>exact .nil
 |@cons p q ps qs h t ih=>
  rw[KM,KM];refine .cons ?_ ih;obtain⟨h1,h2⟩:=h;by_cases e:p.1=k
  ·rw[if_pos e,if_pos (h1.symm.trans e)];exact⟨h1,ry⟩
  ·rw[if_neg e,if_neg (λz=>e (h1.trans z))];exact⟨h1,h2⟩
theorem KV.put(r:KV kvs vs)(k:κ){y:V}{u:Value}(ry:RelV y u):KV (c9 kvs k y) (stored vs k u):=by
 unfold c9 stored;rw[r.any k];by_cases e:(vs.any λkv=>decide (kv.1=k))=true
 ·rw[if_pos e,if_pos e];exact r.repl k ry
 ·rw[if_neg e,if_neg e];exact Paired.snoc r ⟨rfl,ry⟩
theorem KV.length{kvs:List (κ×V)}{vs:List (κ×Value)}(r:KV kvs vs):kvs.length=vs.length:=Paired.length r
end
theorem mS(r:RelV (kV k) u):(a9 P w).is k u=true:=by
 cases k with
 |inl i=>obtain⟨t,e⟩:=(show ∃t,u=Value.int i t from r);subst e;exact mC P w i t
 |inr x=>obtain⟨t,e⟩:=(show ∃t,u=Value.str x t from r);subst e;exact mE P w x t
theorem k4:∀{ks:List aI} {us:List Value},Vals (ks.map kV) us->ItemsAre (a9 P w) ks us
 |[],_,r=>by rw[Mr] at r;cases r;exact .nil
 |k::ks,_,r=>by
  rw[KM] at r
  cases r with
  |cons h t=>exact .cons (mS h) (k4 t)
noncomputable abbrev KT(m:Nat)(H:Hp):List (List (aI ⊕ List aI)×V)->List (List (aI ⊕ List aI)×Addr×Value)->Prop:=Paired λp q=>p.1=q.1/\TkAt H m p.1 q.2.1/\RelV p.2 q.2.2
theorem KT.val{m:Nat}(r:KT m H kvs xs)(k:List (aI ⊕ List aI)):RelO (gr kvs k) ((atKey xs k).map (·.2)):=by
 induction r with
 |nil=>exact True.intro
 |@cons p q ps qs h t ih=>
  obtain⟨h1,_,h2⟩:=h;by_cases e:p.1=k
  ·have e':q.1=k:=h1.symm.trans e;have b:atKey (q::qs) k=some q.2:=by simp[atKey,Lj,e']
   rw[jw e,b];exact h2
  ·have e':¬q.1=k:=λz=>e (h1.trans z);have b:atKey (q::qs) k=atKey qs k:=by simp[atKey,Lj,e']
   rw[jx e,b];exact ih
theorem KT.repl{m:Nat}{kvs:List (List (aI ⊕ List aI)×V)}{xs:List (List (aI ⊕ List aI)×Addr×Value)}(r:KT m H kvs xs)(k:List (aI ⊕ List aI)){y:V}{u:Value}(ry:RelV y u) :
  KT m H (kvs.map λkv=>if kv.1=k then(kv.1,y) else kv) (xs.map (putAt k u)):=by
 induction r with
 |nil=>exact .nil
 |@cons p q ps qs h t ih=>
  rw[KM,KM];refine .cons ?_ ih;obtain⟨h1,h2,h3⟩:=h;unfold putAt;by_cases e:p.1=k
  ·rw[if_pos e,if_pos (h1.symm.trans e)];exact⟨h1,h2,ry⟩
  ·rw[if_neg e,if_neg (λz=>e (h1.trans z))];exact⟨h1,h2,h3⟩
theorem KT.put{m:Nat}{H:Hp}{kvs:List (List (aI ⊕ List aI)×V)}{xs:List (List (aI ⊕ List aI)×Addr×Value)}(r:KT m H kvs xs)(k:List (aI ⊕ List aI)){b:Addr}{y:V}{u:Value}(hb:TkAt H m k b)(ry:RelV y u) :
  KT m H (c9 kvs k y) (storedH xs k b u):=by
 have e:(kvs.any λkv=>decide (kv.1=k))=(atKey xs k).isSome:=by
  rw[mR,(r.val k).isSome_eq,MD]
 unfold c9 storedH;rw[e];by_cases q:(atKey xs k).isSome=true
 ·rw[if_pos q,if_pos q];exact r.repl k ry
 ·rw[if_neg q,if_neg q];exact Paired.snoc r ⟨rfl,hb,ry⟩
theorem KT.keeps{m:Nat}{H H':Hp}(r:KT m H kvs xs)(ht:∀b ys,H b=some (.tup ys)->H' b=some (.tup ys)):KT m H' kvs xs:=
 Paired.mapP r λ_ _ z=>⟨z.1,z.2.1.keep ht,z.2.2⟩
section
variable {P:Program} {w:World} {H:Hp} {h:Heap} {a:Addr}
theorem yW(ok:HOk P w H h)(e:Rd H a u):ObjOk P w H h a u:=e.ok ok
theorem mT{kvs:List (aI×V)}(ok:HOk P w H h)(e:Rd H a (.dK kvs)):kvs.length<=sizeLine/\(a==sysModules)=false/\∃vs,KV kvs vs/\h.DictOf (a9 P w) a vs:=
 show ObjOk P w H h a (.dK kvs) from yW ok e
theorem De{kvs:List (aI×V)}(ok:HOk P w H h)(e:H a=some (.dK kvs)):kvs.length<=sizeLine/\(a==sysModules)=false/\∃vs,KV kvs vs/\h.DictOf (a9 P w) a vs:=mT ok (.inl e)
theorem Ao{ks:List aI}(ok:HOk P w H h)(e:H a=some (.tup (ks.map kV))):(tupleKind (a9 P w)).is h ks a:=by
 obtain⟨_,its,r,o,h1,h2,n,h3⟩:=(show ObjOk P w H h a (.tup (ks.map kV)) from ok a _ e);exact⟨o,its.toArray,n,h1,h2,h3,by simpa using k4 r⟩
theorem ia{A:Around}{m:Nat}(hu:A.units+9<cLine):(cG m (a9 P w)).room A.in1:=by
 show A.units+1+8<cLine
 lia
theorem jy:∀{m:Nat} {ks:List (aI ⊕ List aI)} {vs:List V} {us:List Value},HOk P w H h->TkIts H m ks vs->Vals vs us->Its2 (a9 P w) h m ks us
 |_,[],_,_,ok,r,v=>by cases(show _=[] from r);cases v;exact .nil
 |m,.inl k::xs,_,_,ok,r,v=>by
  obtain⟨r',rfl,z,t⟩:=r
  cases v with
  |cons h1 h2=>exact .key z (mS h1) (jy ok t h2)
 |m,.inr ks::xs,_,_,ok,r,v=>by
  obtain⟨b,r',rfl,z,g,t⟩:=r
  cases v with
  |@cons _ u _ _ h1 h2=>
   cases(show u=Value.ref b from h1);exact .tup z (Ao ok g) (jy ok t h2)
theorem gu{m:Nat}(ok:HOk P w H h)(e:TkAt H m ks a):(cG m (a9 P w)).is h ks a:=by
 obtain⟨vs,g,r⟩:=e;obtain⟨_,its,q,o,h1,h2,n,h3⟩:=(show ObjOk P w H h a (.tup vs) from ok a _ g);exact⟨o,its.toArray,n,h1,h2,h3,by simpa using jy ok r q⟩
theorem mU{m ep:Nat}{kvs:List (List (aI ⊕ List aI)×V)}(ok:HOk P w H h)(e:Rd H a (.dT m ep kvs)):kvs.length<=sizeLine/\(a==sysModules)=false/\
  ∃xs,KT m H kvs xs/\h.DictOfH (cG m (a9 P w)) a xs:=by
 obtain⟨z,y,xs,r,o,es,h1,h2,h3,h4,h5⟩:=(show ObjOk P w H h a (.dT m ep kvs) from yW ok e);refine⟨z,y,xs,r,o,es,ep,h1,h2,h3,h4,λx hx=>?_,h5⟩
 have all:∀{l:List (List (aI ⊕ List aI)×V)} {n:List (List (aI ⊕ List aI)×Addr×Value)},KT m H l n->∀x∈n,(cG m (a9 P w)).is h x.1 x.2.1:=by
  intro l n q
  induction q with
  |nil=>intro x hx;exact nomatch hx
  |@cons p q ps qs hq t ih=>
   intro x hx;rcases Kn.mp hx with e|hx
   ·subst e;exact gu ok (by rw[<- hq.1];exact hq.2.1)
   ·exact ih x hx
 exact all r x hx
theorem oq{m ep:Nat}(ok:HOk P w H h)(e:H a=some (.dT m ep kvs)):(a==sysModules)=false/\∃xs o es,KT m H kvs xs/\h.get? a=some o/\o.ExactDict/\o.data=.dict es ep/\es.toList=xs.map (entryOfKey (cG m (a9 P w))):=
 let ⟨_,y,xs,r,o,es,h1,h2,h3,h4,_⟩:=(show ObjOk P w H h a (.dT m ep kvs) from ok a _ e)
 ⟨y,xs,o,es,r,h1,h2,h3,h4⟩
theorem yX{m ep:Nat}{kvs:List (List (aI ⊕ List aI)×V)}(ok:HOk P w H h)(e:H a=some (.dT m ep kvs)):kvs.length<=sizeLine/\(a==sysModules)=false/\
  ∃xs,KT m H kvs xs/\h.DictOfH (cG m (a9 P w)) a xs:=mU ok (.inl e)
end
noncomputable def DGet(H:Hp)(a:Addr)(y:V)(r:Option V):Prop:=
 (∃kvs k,Rd H a (.dK kvs)/\y=kV k/\r=gr kvs k)\/∃m ep kvs k b,Rd H a (.dT m ep kvs)/\y=.ref b/\TkAt H m k b/\r=gr kvs k
noncomputable def DPut(H:Hp)(a:Addr)(y v:V)(F:Nat->Hp):Prop:=
 (∃kvs k,H a=some (.dK kvs)/\y=kV k/\kvs.length<sizeLine/\F=λ_=>upd H a (.dK (c9 kvs k v)))\/
 ∃m ep kvs k b,H a=some (.dT m ep kvs)/\y=.ref b/\TkAt H m k b/\kvs.length<sizeLine/\F=λe=>upd H a (.dT m e (c9 kvs k v))
theorem DGet.k{H:Hp}{a:Addr}{kvs:List (aI×V)}{k:aI}(e:H a=some (.dK kvs)):DGet H a (kV k) (gr kvs k):=.inl ⟨kvs,k,.inl e,rfl,rfl⟩
theorem DGet.t{H:Hp}{a b:Addr}{m ep:Nat}{kvs:List (List (aI ⊕ List aI)×V)}{k:List (aI ⊕ List aI)}(e:H a=some (.dT m ep kvs))(eb:TkAt H m k b):DGet H a (.ref b) (gr kvs k):=.inr ⟨m,ep,kvs,k,b,.inl e,rfl,eb,rfl⟩
theorem DPut.k{H:Hp}{a:Addr}{kvs:List (aI×V)}{k:aI}{v:V}(e:H a=some (.dK kvs))(hl:kvs.length<sizeLine):DPut H a (kV k) v λ_=>upd H a (.dK (c9 kvs k v)):=.inl ⟨kvs,k,e,rfl,hl,rfl⟩
theorem DPut.t{H:Hp}{a b:Addr}{m ep:Nat}{kvs:List (List (aI ⊕ List aI)×V)}{k:List (aI ⊕ List aI)}{v:V}(e:H a=some (.dT m ep kvs))(eb:TkAt H m k b)(hl:kvs.length<sizeLine) :
  DPut H a (.ref b) v λe=>upd H a (.dT m e (c9 kvs k v)):=.inr ⟨m,ep,kvs,k,b,e,rfl,eb,hl,rfl⟩
section
variable {X:Cx} {pins:List (Addr×Obj)} {σ:St} {H:Hp} {s:Shared} {a:Addr} {y v:V} {u r:Value} {o:Option V} {A:Around} {E:Value->Shared->Prop}
theorem Inv.big(I:Inv X pins σ H s):sysModules<s.heap.objs.size:=by
 have h:mainGlobals<s.heap.objs.size:=(I.mod.glob.keeps I.bk).lt;exact LF (by decide) h
theorem rB{Q:Value->Shared->Prop}(hu:A.units+9<cLine)(I:Inv X pins σ H s)(g:DGet H a y (some v))(ry:RelV y u)(h:∀w' s',Inv X pins σ H s'->RelV v w'->Q w' s') :
  wpAny (model X.prog X.w) A (getItem (.ref a) u) Q E s:=by
 rcases g with⟨kvs,k,e,ey,l⟩|⟨m,ep,kvs,k,b,e,ey,eb,l⟩
 ·subst ey;obtain⟨z,hd,vs,rel,dd⟩:=mT I.hok e;obtain⟨w',hw,rw'⟩:=RelO.some_of (v:=v) (o:=valueAt vs k) (by rw[l];exact rel.val k);exact wpAny_getItem_of (mS ry) dd.mapOf hw (h w' _ (I.tok _) rw')
 ·subst ey;cases(show u=Value.ref b from ry);obtain⟨z,hd,xs,rel,dd⟩:=mU I.hok e;obtain⟨w',hw,rw'⟩:=RelO.some_of (v:=v) (o:=(atKey xs k).map (·.2)) (by rw[l];exact rel.val k);obtain⟨p,hp,hp2⟩:=Option.map_eq_some_iff.mp hw;refine wpAny_getItem_heap (ia hu) (gu I.hok eb) dd hp ?_;rw[hp2];exact h w' _ (I.tok _) rw'
theorem wF{Q:Value->Shared->Prop}(hu:A.units+9<cLine)(I:Inv X pins σ H s)(g:DGet H a y o)(ry:RelV y u)(h:∀s',Inv X pins σ H s'->Q (.bool (!o.isSome)) s') :
  wpAny (model X.prog X.w) A (compareOp .NotIn u (.ref a)) Q E s:=by
 rcases g with⟨kvs,k,e,ey,l⟩|⟨m,ep,kvs,k,b,e,ey,eb,l⟩
 ·subst ey;obtain⟨z,hd,vs,rel,dd⟩:=mT I.hok e;refine wpAny_notIn_of (mS ry) hd dd.mapOf ?_;rw[<- (rel.val k).isSome_eq,<- l];exact h _ (I.tok _)
 ·subst ey;cases(show u=Value.ref b from ry);obtain⟨z,hd,xs,rel,dd⟩:=mU I.hok e;refine wpAny_notIn_heap (ia hu) (gu I.hok eb) hd dd ?_;have q:=(rel.val k).isSome_eq;rw[MD] at q;rw[<- q,<- l];exact h _ (I.tok _)
theorem lS{h':Heap}{t':Nat}(I:Inv X pins σ H s)(mu:CL (H a))(hs:Heap.SameBut a s.heap h')(he:∃q,h'.get? a=some q)(new:ObjOk X.prog X.w (upd H a ob) h' a ob) :
  Inv X pins σ (upd H a ob) { s with heap:=h',toks:=t' }:=
 I.write (x:=a) (e:=a) mu (.inl rfl) (λb q hb z=>(hs.2 b hb).trans z) he new
theorem Ap{h':Heap}{kvs:List (aI×V)}(z:kvs.length<=sizeLine)(hd:(a==sysModules)=false)(rel:KV kvs vs)(dd:h'.DictOf (a9 P w) a vs) :
  ObjOk P w H' h' a (.dK kvs):=⟨z,hd,vs,rel,dd⟩
theorem rC{F:Nat->Hp}{Q:Unit->Shared->Prop}(hu:A.units+9<cLine)(I:Inv X pins σ H s)(g:DPut H a y v F)(ry:RelV y u)(rv:RelV v r)(h:∀e s',Inv X pins σ (F e) s'->Q () s') :
  wpAny (model X.prog X.w) A (setItem (.ref a) u r) Q E s:=by
 rcases g with⟨kvs,k,e,ey,l,eH⟩|⟨m,ep,kvs,k,b,e,ey,eb,l,eH⟩
 ·subst ey eH;obtain⟨z,hd,vs,rel,dd⟩:=De I.hok e;have hz:vs.length<=sizeLine:=by rw[<- rel.length];exact z
  have hl:(c9 kvs k v).length<=sizeLine:=by have:=iL kvs k v;lia
  refine wpAny_setItem_pairs (hsz:=hz) (mS ry) dd λh' dd' hs=>h 0 _ ?_;have he:∃q,h'.get? a=some q:=let ⟨q,_,_,hq,_⟩:=dd';⟨q,hq⟩;exact lS I (by rw[e];exact True.intro) hs he (Ap hl hd (rel.put k rv) dd')
 ·subst ey eH;cases(show u=Value.ref b from ry);obtain⟨z,hd,xs,rel,dd⟩:=yX I.hok e;have hz:xs.length<=sizeLine:=by rw[<- Paired.length rel];exact z
  have hl:(c9 kvs k v).length<=sizeLine:=by have:=iL kvs k v;lia
  refine wpAny_setItem_heap (hsz:=hz) (ia hu) (gu I.hok eb) dd λh' dd' hs=>?_;obtain⟨q,es,ep,hq,h2,h3,h4,_,h5⟩:=dd';refine h ep _ ?_;refine lS I (by rw[e];exact True.intro) hs ⟨q,hq⟩ ⟨hl,hd,_,(rel.put k eb rv).keeps λc ys ec=>?_,q,es,hq,h2,h3,h4,h5⟩
  rw[am (yN ec e (λz=>nomatch z))]
  exact ec
end
section
variable {X:Cx} {pins:List (Addr×Obj)} {σ:St} {H:Hp} {s:Shared} {a:Addr} {kvs:List (aI×V)} {k:aI} {u:Value} {A:Around} {E:Value->Shared->Prop}
theorem Df{Q:Value->Shared->Prop}(I:Inv X pins σ H s)(e:Rd H a (.dK kvs))(h:∀t s',Inv X pins σ H s'->Q (.int kvs.length t) s'):wpAny (model X.prog X.w) A (call (.builtin "len") [.ref a]) Q E s:=by
 obtain⟨z,hd,vs,rel,dd⟩:=mT I.hok e;refine call_len_dict hd dd (by rw[<- rel.length];rw[sizeLine_eq] at z;lia) ?_;rw[<- rel.length];exact h _ _ (I.tok _)
end
noncomputable def Dg(i:Expr):Prop:=∀ov iv,subscripted i false ov iv=operate [ov,iv] (getItem ov iv)
theorem wH{T id:String}(hl:typeLookup (.type T) "__getitem__" = pure (some (.builtin id)))(hs:Dg slice)(h:wpAny (model prog w) A (eval value env) (λo s₁=>wpAny (model prog w) A (eval slice env) (λi s₂=>s₂.TypeIs o T/\wpAny (model prog w) A (getItem o i) Q E s₂) E s₁) E s) :
  wpAny (model prog w) A (eval (.Subscript value slice pos) env) Q E s:=by
 refine Subscript_ (wpAny_mono h (λo s₁ h₁=>wpAny_mono h₁ (λi s₂ h₂=>?_) λ_ _ x=>x) λ_ _ x=>x);obtain⟨hT,h₂⟩:=h₂;unfold subscriptTail;refine wpAny_bind ?_;rw[getitemInPython_of_ne hT.not_modules];refine wpAny_bind (wpAny_specialOf hT hl ?_)
 have fin:wpAny (model prog w) A (subscripted slice false o i) (λr s₃=>wpAny (model prog w) A (letTemporaryGo value o r >>= λ_=>pure r) Q E s₃) E s₂:=by
  rw[hs o i];exact wpAny_operating (wpAny_mono h₂ (λr s₃ h₃=>wpAny_bind (wpAny_letTemporaryGo (wpAny_pure h₃))) λ_ _ x=>x)
 first
  |exact wpAny_pure (wpAny_bind fin)
  |exact wpAny_bind (wpAny_pure (wpAny_bind fin))
  |exact wpAny_bind fin
theorem mV{s:Shared}(I:Inv X pins σ H s)(g:DGet H a y o):s.TypeIs (.ref a) "dict":=by
 rcases g with⟨kvs,k,e,_,_⟩|⟨m,ep,kvs,k,b,e,_,_,_⟩
 ·obtain⟨_,_,vs,_,dd⟩:=mT I.hok e;exact dd.typeIs
 ·obtain⟨_,_,xs,_,dd⟩:=mU I.hok e;exact dd.typeIs
noncomputable def Dh(td ty:TE):TE:=λσ H Q=>td σ H λx H1=>ty σ H1 λy H2=>∃a v,x=.ref a/\DGet H2 a y (some v)/\Q v H2
noncomputable def Di(td ty tv:TE):TS:=λD σ H=>tv σ H λv H1=>td σ H1 λx H2=>ty σ H2 λy H3=>∃a F,x=.ref a/\DPut H3 a y v F/\∀e,D.nx σ (F e)
section
variable {X:Cx} {o i e value:Expr} {pos pos' tpos:Pos} {td ty tv:TE}
theorem wJ(hu:X.A.units+9<cLine)(ho:PE X o td)(hi:PE X i ty)(hs:Dg i):PE X (.Subscript o i pos) (Dh td ty):=by
 intro pins s σ H Q I h;refine wH PySem.F.slot_dict_getitem.lookup hs (bx (ho pins s σ H _ I h) λu s1 ⟨x,H1,I1,rx,q1⟩=>bx (hi pins s1 σ H1 _ I1 q1) λiv s2 ⟨y,H2,I2,ry,a,v,ex,g,q2⟩=>?_);subst ex;obtain rfl:u=Value.ref a:=rx;exact⟨mV I2 g,rB hu I2 g ry λw' s3 I3 rw'=>⟨v,H2,I3,rw',q2⟩⟩
theorem wK(hu:X.A.units+9<cLine)(ho:PE X o td)(hi:PE X i ty)(hv:PE X value tv)(hs:swapsWith value (some (.Subscript o i pos')) pos.line X.env=pure false) :
  PS X (.Assign [.Subscript o i pos'] value pos) (Di td ty tv):=by
 intro pins s σ H D I h;refine wpAny_Assign_Subscript (bx (hv pins s σ H _ I h) λr s1 ⟨v,H1,I1,rv,q1⟩=>bx (ho pins s1 σ H1 _ I1 q1) λu s2 ⟨x,H2,I2,rx,q2⟩=>bx (hi pins s2 σ H2 _ I2 q2) λiv s3 ⟨y,H3,I3,ry,a,F,ex,g,q3⟩=>?_) hs;subst ex;obtain rfl:u=Value.ref a:=rx;exact rC hu I3 g ry rv λe s4 I4=>⟨σ,F e,I4,q3 e⟩
end
theorem tJ(h:Heap)(hb:sysModules<h.objs.size):ObjOk P w H (h.push { cls:=.type "dict",data:=.dict #[] }) h.objs.size (.dK []):=
 ⟨KJ _,beq_eq_false_iff_ne.mpr (Ne.symm (KB hb)),[],.nil,Heap.DictOf.new h⟩
theorem mW{m:Nat}(h:Heap)(hb:sysModules<h.objs.size):ObjOk P w H (h.push { cls:=.type "dict",data:=.dict #[] }) h.objs.size (.dT m 0 []):=
 ⟨KJ _,beq_eq_false_iff_ne.mpr (Ne.symm (KB hb)),[],.nil,_,#[],Ku _ rfl,⟨rfl,rfl,rfl⟩,rfl,rfl,List.nodup_nil⟩
noncomputable def Aq:TE:=λ_ H Q=>∀p,H p=none->Q (.ref p) (upd H p (.dK []))
noncomputable def Ar(m:Nat):TE:=λ_ H Q=>∀p,H p=none->Q (.ref p) (upd H p (.dT m 0 []))
section
variable {X:Cx} {pos:Pos}
theorem tK:PE X (.Dict [] [] pos) Aq:=λpins s σ H Q I h=>
 wpAny_Dict_empty ⟨.ref s.heap.objs.size,_,I.laid (a:=s.heap.objs.size) (o:=.dK []) (t':=s.toks) (λ_ _ q=>Kj _ q) (Ki _) (tJ s.heap I.big),rfl,h _ (I.hok.fresh (Ki _))⟩
theorem tL{m:Nat}:PE X (.Dict [] [] pos) (Ar m):=λpins s σ H Q I h=>
 wpAny_Dict_empty ⟨.ref s.heap.objs.size,_,I.laid (a:=s.heap.objs.size) (o:=.dT m 0 []) (t':=s.toks) (λ_ _ q=>Kj _ q) (Ki _) (mW s.heap I.big),rfl,h _ (I.hok.fresh (Ki _))⟩
end
structure M1(X:Cx)(o:Expr)(m:Str)(apos:Pos)(e:Expr)(cpos:Pos):Prop where
 base:attributeBase o m X.env (eval o X.env)=eval o X.env
 few:((backTo cpos (starEach [e] X.env)).all (λx=>!x.1)&&(backToKw cpos (keywordEach [] X.env)).all (λx=>x.1.isSome)
  && decide (([e]:List Expr).length+([]:List Keyword).length+(if([]:List Keyword).isEmpty then 0 else 1)<30))=true
 line:(apos.endLine==cpos.line)=true
 trees:backTo cpos (starEach [e] X.env)=[(false,eval e X.env)]
structure M2(X:Cx)(o:Expr)(m:Str)(apos:Pos)(e f:Expr)(cpos:Pos):Prop where
 base:attributeBase o m X.env (eval o X.env)=eval o X.env
 few:((backTo cpos (starEach [e,f] X.env)).all (λx=>!x.1)&&(backToKw cpos (keywordEach [] X.env)).all (λx=>x.1.isSome)
  && decide (([e,f]:List Expr).length+([]:List Keyword).length+(if([]:List Keyword).isEmpty then 0 else 1)<30))=true
 line:(apos.endLine==cpos.line)=true
 trees:backTo cpos (starEach [e,f] X.env)=[(false,eval e X.env),(false,eval f X.env)]
section
variable {X:Cx} {pins:List (Addr×Obj)} {σ:St} {H:Hp} {s:Shared} {a:Addr} {y d:V} {u r:Value} {o:Option V} {A:Around} {E:Value->Shared->Prop}
end
section
variable {X:Cx} {o e f:Expr} {apos cpos:Pos} {td ty tx:TE}
end
section
variable {X:Cx} {pins:List (Addr×Obj)} {σ:St} {H:Hp} {s:Shared} {a:Addr} {kvs:List (aI×V)} {A:Around} {E:Value->Shared->Prop}
end
section
variable {X:Cx} {pins:List (Addr×Obj)} {σ:St} {H:Hp} {s:Shared} {a:Addr} {y:V} {u:Value} {A:Around} {E:Value->Shared->Prop}
end
end L2
namespace L2
open PySem PySem.Spec PyProof.Rows
section
variable {prog:Program} {w:World} {A:Around} {E:Value->Shared->Prop} {s:Shared}
theorem tM{k v:Expr}{Q:Value->Shared->Prop}(h:wpAny (model prog w) A (eval k env) (λkv s1=>wpAny (model prog w) A (eval v env) (λvv s2=>wpAny (model prog w) A (dictSet s.heap.objs.size kv vv) (λ_ s3=>Q (.ref s.heap.objs.size) s3) E s2) E s1) E { s with heap:=s.heap.push { cls:=.type "dict",data:=.dict #[] } }) :
  wpAny (model prog w) A (eval (.Dict [some k] [v] pos) env) Q E s:=by
 rw[arm_eval_Dict,zip_pairTrees [some k] [v] env pos rfl rfl,dictDisplay_pairs _ (by simp[pairTrees]) (by simp[pairTrees])];refine wpAny_bind (wpAny_standAt (wpAny_bind ?_));unfold subDict;refine wpAny_bind (wpAny_alloc (wpAny_bind (wpAny_holding ?_)));rw[if_pos (by simp[pairTrees])];refine wpAny_bind (pairTrees_cons_walk (wpAny_mono h (λkv s1 h1=>wpAny_mono h1 (λvv s2 h2=>pairTrees_nil_walk (wpAny_holding ?_)) λ_ _ e=>e) λ_ _ e=>e));rw[MS];refine wpAny_bind (wpAny_bind (show wpAny _ _ (dictSet s.heap.objs.size kv vv >>= λ_=>pure (ForInStep.yield PUnit.unit)) _ _ _ from wpAny_bind (wpAny_mono h2 (λ_ s3 q=>?_) λ_ _ e=>e)));refine wpAny_pure ?_;show wpAny _ _ (forIn [] _ _) _ _ _;rw[List.forIn_nil];exact wpAny_pure (wpAny_pure (wpAny_pure (wpAny_pure q)))
end
noncomputable def Dj(m:Nat)(tk tv:TE):TE:=λσ H Q=>∀p,H p=none->tk σ (upd H p (.dT m 0 [])) λx H1=>tv σ H1 λy H2=>H2 p=some (.dT m 0 [])/\∃k b,x=.ref b/\TkAt H2 m k b/\∀ep,Q (.ref p) (upd H2 p (.dT m ep [(k,y)]))
theorem wL{X:Cx}{k v:Expr}{m:Nat}(hu:X.A.units+8<cLine)(hk:PE X k tk)(hv:PE X v tv):PE X (.Dict [some k] [v] pos) (Dj m tk tv):=by
 intro pins s σ H Q I h;have I1:=I.laid (a:=s.heap.objs.size) (o:=.dT m 0 []) (h':=s.heap.push { cls:=.type "dict",data:=.dict #[] }) (t':=s.toks) (λ_ _ q=>Kj _ q) (Ki _) (mW s.heap I.big);refine tM (bx (hk pins _ σ _ _ I1 (h _ (I.hok.fresh (Ki _)))) λkv s1 ⟨x,H1,I2,rx,q1⟩=>bx (hv pins s1 σ H1 _ I2 q1) λvv s2 ⟨y,H2,I3,ry,hp,kk,b,ex,tk,q⟩=>?_);subst ex;cases(show kv=Value.ref b from rx);obtain⟨z,hd,xs,rel,dd⟩:=yX I3.hok hp;cases rel;refine wpAny_dictSet_heap (hsz:=KJ _) (knd:=cG m (a9 X.prog X.w)) hu (gu I3.hok tk) dd λh' dd' hs=>?_;obtain⟨ob,es,ep,hq,h2,h3,h4,_,h5⟩:=dd';have one:storedH ([]:List (List (aI ⊕ List aI)×Addr×Value)) kk b vv=[(kk,b,vv)]:=rfl;rw[one] at h4 h5;refine⟨.ref s.heap.objs.size,_,lS I3 (by rw[hp];exact True.intro) hs ⟨ob,hq⟩ (ob:=.dT m ep [(kk,y)]) ⟨by show 1<=sizeLine;decide,hd,[(kk,b,vv)],.cons ⟨rfl,tk.keep λc ys ec=>?_,ry⟩ .nil,ob,es,hq,h2,h3,h4,h5⟩,rfl,q ep⟩
 rw[am (yN ec hp (λz=>nomatch z))]
 exact ec
end L2
namespace L2
open PySem PySem.Spec PyProof.Rows
section
variable {prog:Program} {w:World} {K:Type} [DecidableEq K] {knd:HeapKind prog w K} {A:Around} {E:Value->Shared->Prop} {s:Shared} {d a:Addr} {k:K} {xs:List (K×Addr×Value)}
end
section
variable {X:Cx} {pins:List (Addr×Obj)} {σ:St} {H:Hp} {s:Shared} {a b:Addr} {m ep:Nat} {kvs:List (List (aI ⊕ List aI)×V)} {k:List (aI ⊕ List aI)} {v:V} {r:Value} {A:Around} {E:Value->Shared->Prop}
end
end L2
namespace L2
open PySem PySem.Spec PyProof.Rows
section
variable {prog:Program} {w:World} {A:Around} {E:Value->Shared->Prop} {s:Shared} {d:Addr}
theorem ou{es:Array DictEntry}{ep:Nat}{o:Obj}(hd:(d==sysModules)=false)(hdat:o.data=.dict es ep) :
  MeetsIn prog w (Builtin.«dict.__len__» ⟨[.ref d],[]⟩) (λ_ R s=>s.heap.get? d=some o/\R (.ok (.ret (.int es.size s.toks))) { s with toks:=s.toks+1 }):=
 .of_wp λA R s ⟨ho,h⟩=>by
  show wpAny _ _ (dictSize d >>= _) _ _ s;unfold dictSize;refine wpAny_bind (wpAny_bind (wpAny_dictEntries ho hdat (wpAny_pure (show wpAny _ _ (Builtin.Dict.pendingCount d >>= _) _ _ s from wpAny_bind (wpAny_pendingCount_other hd (wpAny_ret_mkInt ?_))))));rw[Nat.add_zero];exact h
theorem wM{es:Array DictEntry}{ep:Nat}{o:Obj}{Q:Value->Shared->Prop}(hd:(d==sysModules)=false)(ho:s.heap.get? d=some o)(hc:o.cls=.type "dict")(hdat:o.data=.dict es ep)(hfit:(es.size:Int)<2^63)
  (h:Q (.int es.size (s.toks+1)) { s with toks:=s.toks+1+1 }):wpAny (model prog w) A (call (.builtin "len") [.ref d]) Q E s:=by
 have ty:s.TypeIs (.ref d) "dict":=⟨o,ho,hc⟩;refine Calls.call_function_entry kind_len plain_len entry_len (args_len1 _) ?_;unfold Builtin.«len»;refine wpAny_bind (m:=oneArg "len" _) (wpAny_pure (wpAny_bind (m:=callSpecial? (.ref d) (Str.ofString "__len__")) (wpAny_callSpecial?_slot (name:=Str.ofString "__len__") ty PySem.F.slot_dict_len (call_meetsIn PySem.F.slot_dict_len ty PySem.F.entry_dict_len (PySem.F.args_dict_len_1 _) (ou hd hdat) ⟨ho,?_⟩))));show wpAny _ _ _ _ _ { s with toks:=s.toks+1 };refine wpAny_bind (wpAny_holding (wpAny_pure (wpAny_bind (wpAny_letGo ?_))))
 show wpAny _ _ (if((es.size:Nat):Int)<0 then _ else _) _ _ _
 rw[if_neg (by lia)]
 show wpAny _ _ (if((es.size:Nat):Int) ≥ 2^63 then _ else _) _ _ _
 rw[if_neg (by lia)];exact wpAny_bind (wpAny_mkInt (wpAny_pure ⟨_,rfl,h⟩))
end
theorem As{X:Cx}{m ep:Nat}{kvs:List (List (aI ⊕ List aI)×V)}{Q:Value->Shared->Prop}(I:Inv X pins σ H s)(e:Rd H a (.dT m ep kvs))(h:∀t s',Inv X pins σ H s'->Q (.int kvs.length t) s'):wpAny (model X.prog X.w) A (call (.builtin "len") [.ref a]) Q E s:=by
 obtain⟨z,hd,xs,rel,o,es,ep,ho,hc,hdat,he,_⟩:=mU I.hok e;have hl:es.size=kvs.length:=by rw[size_of_entries he,Paired.length rel]
 refine wM hd ho hc.1 hdat (by rw[hl];rw[sizeLine_eq] at z;lia) ?_;rw[hl];exact h _ _ (I.tok _)
end L2
namespace L2
open PySem PySem.Spec PyProof.Rows
section
variable {prog:Program} {w:World} {A:Around} {E:Value->Shared->Prop} {s:Shared} {d it:Addr} {o:Obj} {es:Array DictEntry} {ep i:Nat}
theorem Dk{Q:Value->Shared->Prop}(hd:(d==sysModules)=false)(ho:s.heap.get? d=some o)(hc:o.cls=.type "dict")(hdat:o.data=.dict es ep)
  (hQ:Q (.ref s.heap.objs.size) { s with heap:=s.heap.push { cls:=.type "dict_keyiterator",data:=.fields #[.ref d,.int 0 0,.int es.size 0,.int ep 0] } }):wpAny (model prog w) A (pyIter (.ref d)) Q E s:=by
 have ty:s.TypeIs (.ref d) "dict":=⟨o,ho,hc⟩;refine wpAny_pyIter_slot ty PySem.F.slot_dict_iter (wpAny_call_entry PySem.F.slot_dict_iter ty PySem.F.entry_dict_iter ?_ (PySem.F.args_dict_iter_1 _));unfold Builtin.«dict.__iter__» Builtin.Dict.dictSlotNone;refine wpAny_bind (wpAny_bind (wpAny_notOrdered_dict ty ?_));show wpAny _ _ (pure (Value.ref d)) _ _ s;refine wpAny_pure ?_;show wpAny _ _ (Builtin.Dict.showsAll d >>= _) _ _ s;unfold Builtin.Dict.showsAll;rw[if_neg (by rw[hd];exact K4)];refine wpAny_bind (wpAny_pure (wpAny_bind (wpAny_dictEntries ho hdat (wpAny_bind (wpAny_dictEpoch ho hdat ?_)))));exact wpAny_bind (wpAny_newObj_type (wpAny_pure ⟨_,rfl,"dict_keyiterator",_,⟨_,Ku _ rfl,rfl⟩,PySem.F.slot_dict_keyiterator_next.lookup,by simpa[rawInt] using hQ⟩))
theorem yY{Q:Option Value->Shared->Prop}(hh:A.handled=none)(hit:s.heap.IsKeyIter it d i es.size ep)(hod:s.heap.get? d=some o)(hdd:o.data=.dict es ep)
  (yes:∀e h',es[i]?=some e->h'.IsKeyIter it d (i+1) es.size ep->Heap.SameBut it s.heap h'->Q (some e.key) { s with heap:=h' })
  (no:∀h',es[i]?=none->Heap.ExtBut it s.heap h'->Q none { s with heap:=h' }):wpAny (model prog w) A (pyNext (.ref it)) Q E s:=by
 have ty:=hit.typeIs;rcases hit with⟨oi,ho,hc,hd⟩;have sl:=PySem.F.slot_dict_keyiterator_next;have hown:Builtin.Dict_items.ownsTuple "dict_keyiterator" = false:=by decide
 unfold pyNext;refine wpAny_bind (wpAny_attempt (wpAny_callSpecial?_slot (name:=Str.ofString "__next__") ty sl (wpAny_call_entry sl ty PySem.F.entry_dict_keyiterator_next ?_ (PySem.F.args_dict_keyiterator_next_1 _))));refine wpAny_bind (wpAny_pure (wpAny_bind (wpAny_bind ?_)))
 first|refine wpAny_bind (wpAny_typeNameOfWhole_keyiter ty (wpAny_pure ?_))|refine wpAny_bind (wpAny_typeNameOf_keyiter ty (wpAny_pure ?_))
 refine wpAny_bind (wpAny_fieldsOf ho hd ?_);simp only[hown,K9,if_false]
 show wpAny _ _ (if(Value.ref d==Value.none)=true then _ else _) _ _ s
 rw[if_neg (show ¬((Value.ref d==Value.none)=true) from K4)];refine wpAny_bind (wpAny_pure (wpAny_bind (wpAny_dictEntries hod hdd ?_)));rw[if_neg (by simp)];refine wpAny_bind (wpAny_pure (wpAny_bind (wpAny_dictEpoch hod hdd ?_)));rw[if_neg (by simp)];refine wpAny_pure ?_;have ni:¬((i:Int)<0):=by lia
 cases e:es[i]? with
 |some en=>
  simp only[ni,if_false,KC,e];refine wpAny_bind ?_
  first|refine wpAny_bind (wpAny_typeNameOfWhole_keyiter ty (wpAny_pure ?_))|refine wpAny_bind (wpAny_typeNameOf_keyiter ty (wpAny_pure ?_))
  refine wpAny_bind (wpAny_isOneOf_keyiter ty ?_);show wpAny _ _ (setField (.ref it) 1 (rawInt ((i:Int)+1)) >>= _) _ _ s;refine wpAny_bind (wpAny_setField ho hd (by simp) ?_)
  have hit':(s.heap.update it (Obj.mapFields (·.setIfInBounds 1 (rawInt ((i:Int)+1))))).IsKeyIter it d (i+1) es.size ep:=
   ⟨_,LJ _ ho (Obj.isFreed_of_fields (Obj.data_mapFields hd _)),(Obj.cls_mapFields ..).trans hc,by rw[Obj.data_mapFields hd];simp[rawInt]⟩
  refine wpAny_bind (wpAny_holding (wpAny_bind (wpAny_isOneOf_keyiter (s:={ s with heap:=s.heap.update it (Obj.mapFields (·.setIfInBounds 1 (rawInt ((i:Int)+1)))) }) hit'.typeIs ?_)));show wpAny _ _ (pure en.key) _ _ _;exact wpAny_pure (wpAny_pure ⟨_,rfl,wpAny_pure (yes en _ e hit' (Heap.SameBut.update ..))⟩)
 |none=>
  simp only[ni,if_false,KC,e];refine wpAny_bind ?_
  first|refine wpAny_bind (wpAny_typeNameOfWhole_keyiter ty (wpAny_pure ?_))|refine wpAny_bind (wpAny_typeNameOf_keyiter ty (wpAny_pure ?_))
  show wpAny _ _ (setField (.ref it) 0 .none >>= _) _ _ s;refine wpAny_bind (wpAny_setField ho hd (by simp) (wpAny_bind (m:=newExc (.type "StopIteration") []) ?_));simp only[newExc,newTuple]
  refine wpAny_bind (wpAny_newObj_type (wpAny_bind (m:=firstArgMember _ _) (wpAny_of_eq (a:=Value.none) (by first|rfl|(simp only[firstArgMember];rfl)) (wpAny_newObj_type ?_ (by size_fits)))) (by size_fits))
  simp only[raiseNew];refine wpAny_bind (wpAny_handled ?_);rw[show A.in1.handled=none from hh];refine wpAny_bind (wpAny_pure (wpAny_throw ?_));refine wpAny_bind (wpAny_isInstance (T:="StopIteration") (b:=true) ⟨_,Ku _ rfl,rfl⟩ isSubtype_stop ?_);exact wpAny_pure (no _ e (((Heap.SameBut.update ..).extBut.push _).push _))
end
noncomputable def GO(a:Addr)(m ep:Nat)(kvs:List (List (aI ⊕ List aI)×V)):It:=
 ⟨λi H=>H a=some (.dT m ep kvs)/\i<kvs.length,λi H x H'=>H'=H/\∃p b,kvs[i]?=some p/\x=.ref b/\TkAt H m p.1 b,λi H=>H a=some (.dT m ep kvs)/\kvs.length<=i⟩
theorem Paired.get{α β:Type}{F:α->β->Prop}:∀{l:List α} {r:List β} {i:Nat} {y:β},Paired F l r->r[i]?=some y->∃x,l[i]?=some x/\F x y
 |_,_,i,_,.nil,h=>by simp at h
 |_,_,0,_,.cons q t,h=>by simp at h;subst h;exact⟨_,rfl,q⟩
 |_,_,i+1,_,.cons q t,h=>by simpa using Paired.get t (by simpa using h)
theorem rD{P:Program}{w:World}{K:Ka}{tg:Expr}{m ep:Nat}{kvs:List (List (aI ⊕ List aI)×V)}(a it:Addr):mI P w K tg (GO a m ep kvs) [it] it (λi h=>h.IsKeyIter it a i kvs.length ep) where
 mem:=by simp
 obj:=λi h st b hb=>by
  have e:b=it:=by simpa using hb
  subst e;obtain⟨o,e,c,d⟩:=st;exact⟨o,e,λv z=>by rw[d] at z;cases z⟩
 keep:=λi h h' st k=>st.at λo e=>k it (by simp) o e
 item:=by
  intro X hP hw hK hc i pins s σ H E I hf st hg;subst hP hw hK;obtain⟨hq,hx⟩:=hg;obtain⟨hd,xs,o,es,rel,h1,h2,h3,h4⟩:=oq I.hok hq;have hl:es.size=kvs.length:=by rw[size_of_entries h4,Paired.length rel]
  obtain⟨f0,f1,f2,f3,f4,f5⟩:=hf it (by simp);rw[<- hl] at st;refine yY (I.ok.hd hc) st h1 h3 (λe h' he st' sb=>?_) λh' he _=>?_
  ·have I1:Inv X pins σ H { s with heap:=h' }:=I.turned (t':=s.toks) (λb o hb e=>(sb.2 b hb).trans e) f0 f1 f3 f4 f5;rw[<- Mi,h4,Kf] at he
   cases hy:xs[i]? with
   |none=>rw[hy] at he;cases he
   |some y=>
    rw[hy] at he;cases he;obtain⟨p,hp,e1,e2,_⟩:=Paired.get rel hy;rw[hl] at st';obtain⟨oi,ei,c,d⟩:=id st';exact⟨_,rfl,pS (s:={ s with heap:=h' }) ei c d (by decide) ⟨.ref y.2.1,H,I1,rfl,⟨rfl,p,y.2.1,hp,rfl,e2⟩,st',λb hb=>(hf b hb).1⟩⟩
  ·exact absurd (Array.getElem?_eq_none_iff.mp he) (by lia)
 done:=by
  intro X hP hw hK hc i pins s σ H E I hf st hg;subst hP hw hK;obtain⟨hq,hx⟩:=hg;obtain⟨hd,xs,o,es,rel,h1,h2,h3,h4⟩:=oq I.hok hq;have hl:es.size=kvs.length:=by rw[size_of_entries h4,Paired.length rel]
  obtain⟨f0,f1,f2,f3,f4,f5⟩:=hf it (by simp);rw[<- hl] at st;refine yY (I.ok.hd hc) st h1 h3 (λe h' he st' sb=>?_) λh' he eb=>⟨rfl,I.turned (t':=s.toks) (λb o hb e=>eb b o hb e) f0 f1 f3 f4 f5⟩;exact absurd (Array.getElem?_eq_some_iff.mp he).1 (by lia)
 self:=λ_ _ _ _ _ st h=>wpAny_pyIter_keyiter st h
noncomputable def Dl(tl:TE):TI:=λσ H R=>tl σ H λx H1=>∃a m ep kvs,x=.ref a/\H1 a=some (.dT m ep kvs)/\R (GO a m ep kvs) H1
theorem wN(hl:PE X l tl):PI X tg l (Dl tl):=by
 intro pins s σ H R I h;refine bx (hl pins s σ H _ I h) λv s1 ⟨x,H1,I1,r1,q1⟩=>?_;obtain⟨a,m,ep,kvs,e,hq,q⟩:=q1;subst e;cases r1;obtain⟨hd,xs,o,es,rel,h1,h2,h3,h4⟩:=oq I1.hok hq;have hl:es.size=kvs.length:=by rw[size_of_entries h4,Paired.length rel]
 refine Dk hd h1 h2.1 h3 ?_;refine⟨s1.heap.objs.size,[s1.heap.objs.size],_,_,H1,rfl,I1.kept (t':=s1.toks) λb o e=>Kj _ e,rD a _,⟨_,Ku _ rfl,rfl,by rw[hl];rfl⟩,λb hb=>?_,q⟩;have e:b=s1.heap.objs.size:=by simpa using hb
 subst e;exact I1.fpOk (Ki _) (I1.hok.fresh (Ki _))
end L2
namespace L2
open PySem PySem.Spec PyProof.Rows
noncomputable def fS(cells:List (Str×Addr)):List (Str×NameKind)->List (Str×Addr)->List (Str×Addr)
 |[],acc=>acc
 |(n,k)::r,acc=>fS cells r (if k=.free then(match cells.lookup n with|some c=>(n,c)::acc|none=>acc) else acc)
theorem dY{cells:List (Str×Addr)}:∀{names:List (Str×NameKind)} {acc:List (Str×Addr)},(∀x c,acc.lookup x=some c->cells.lookup x=some c)->
  ∀x c,(fS cells names acc).lookup x=some c->cells.lookup x=some c
 |[],_,h=>h
 |(n,k)::r,acc,h=>by
  unfold fS;refine dY (names:=r) λx c=>?_;split
  ·cases e:cells.lookup n with
   |none=>exact h x c
   |some d=>
    dsimp only;intro q;rw[KG] at q
    cases hx:x==n with
    |true=>
     rw[hx] at q;have:x=n:=by simpa using hx
     subst this;cases q;exact e
    |false=>
     rw[hx] at q;exact h x c q
  ·exact h x c
theorem k5:∀{names:List (Str×NameKind)} {acc:List (Str×Addr)} {x:Str},(∃c,acc.lookup x=some c)->∃c,(fS cells names acc).lookup x=some c
 |[],_,_,h=>h
 |(n,k)::r,acc,x,h=>by
  unfold fS;refine k5 (names:=r) ?_;split
  ·cases e:cells.lookup n with
   |none=>exact h
   |some d=>
    dsimp only;rw[KG]
    cases x==n with
    |true=>exact⟨d,rfl⟩
    |false=>exact h
  ·exact h
theorem jz{cells:List (Str×Addr)}:∀{names:List (Str×NameKind)} {acc:List (Str×Addr)} {x:Str},(x,NameKind.free)∈names->(∃c,cells.lookup x=some c)->∃c,(fS cells names acc).lookup x=some c
 |(n,k)::r,acc,x,h,hc=>by
  unfold fS;rcases Kn.mp h with e|h
  ·cases e;obtain⟨c,hc⟩:=hc;refine k5 ⟨c,?_⟩;rw[if_pos rfl,hc];simp
  ·exact jz h hc
theorem kC{scope:Scope}{env:Env}(h:∀y∈scope.names,y.2=.free->∃c,env.cells.lookup y.1=some c):closureFor scope env=pure (fS env.cells scope.names []):=by
 have key:∀(names:List (Str×NameKind)) (acc:List (Str×Addr)),(∀y∈names,y.2=.free->∃c,env.cells.lookup y.1=some c)->
   (forIn names acc λ(x:Str×NameKind) (r:List (Str×Addr))=>(match x with|(name,kind)=>if(kind==.free)=true then do let a <- cellOf env name;pure (ForInStep.yield ((name,a)::r)) else pure (ForInStep.yield r):Sem (ForInStep (List (Str×Addr)))))=pure (fS env.cells names acc):=by
  intro names
  induction names with
  |nil=>intro acc _;rfl
  |cons y r ih=>
   intro acc hh;obtain⟨n,k⟩:=y;rw[MS];dsimp only;by_cases hk:k=.free
   ·obtain⟨c,hc⟩:=hh (n,k) KA hk;subst hk;have e:cellOf env n=pure c:=by unfold cellOf;rw[hc]
    rw[e];simp only[beq_self_eq_true,if_true,pure_bind];rw[ih _ λy hy=>hh y (Kp _ hy)]
    conv=>rhs;unfold fS
    rw[if_pos rfl];have hc':env.cells.lookup n=some c:=hc;rw[hc']
   ·have e:(k==NameKind.free)=false:=by simpa using hk
    rw[e];simp only[K9,if_false,pure_bind];rw[ih _ λy hy=>hh y (Kp _ hy)]
    conv=>rhs;unfold fS
    rw[if_neg hk]
 unfold closureFor;exact(congrArg (λm=>m >>= λr=>pure r) (key scope.names [] h)).trans (by simp)
theorem cy:∀(names:List (Str×NameKind)) (n:Nat) (acc:List (Str×Addr)),cellsFrom n names acc=cellsFrom n names []++acc
 |[],n,acc=>rfl
 |(x,k)::r,n,acc=>by
  unfold cellsFrom;split
  ·rw[cy r (n+1) ((x,n)::acc),cy r (n+1) [(x,n)],List.append_assoc];rfl
  ·exact cy r n acc
theorem tN{x:Str}{c:Addr}:∀{names:List (Str×NameKind)} {n:Nat} {acc:List (Str×Addr)},(cellsFrom n names acc).lookup x=some c->((x,NameKind.cell)∈names/\n<=c)\/acc.lookup x=some c
 |[],_,_,h=>.inr h
 |(y,k)::r,n,acc,h=>by
  unfold cellsFrom at h;split at h
  ·rename_i hk;have hk:k=.cell:=by simpa using hk
   subst hk;rcases tN h with⟨h1,h2⟩|h1
   ·exact .inl ⟨Kp _ h1,LY h2⟩
   ·rw[KG] at h1
    cases hx:x==y with
    |true=>
     rw[hx] at h1;have:x=y:=by simpa using hx
     subst this;cases h1;exact .inl ⟨KA,Ki _⟩
    |false=>rw[hx] at h1;exact .inr h1
  ·rcases tN h with⟨h1,h2⟩|h1
   ·exact .inl ⟨Kp _ h1,h2⟩
   ·exact .inr h1
theorem ow{x:Str}:∀{names:List (Str×NameKind)} {n:Nat} {acc:List (Str×Addr)},(x,NameKind.cell)∉names->(cellsFrom n names acc).lookup x=acc.lookup x
 |[],_,_,_=>rfl
 |(y,k)::r,n,acc,h=>by
  unfold cellsFrom;have hr:(x,NameKind.cell)∉r:=λz=>h (Kp _ z);split
  ·rename_i hk;have hk:k=.cell:=by simpa using hk
   subst hk;rw[ow hr,KG]
   have:(x==y)=false:=by
    have:x≠y:=λz=>h (by rw[z];exact KA);simpa using this
   rw[this]
  ·exact ow hr
theorem lT{x:Str}:∀{names:List (Str×NameKind)} {n:Nat} {acc:List (Str×Addr)},((x,NameKind.cell)∈names\/∃c,acc.lookup x=some c)->∃c,(cellsFrom n names acc).lookup x=some c
 |[],_,_,h=>by
  rcases h with h|h
  ·simp at h
  ·exact h
 |(y,k)::r,n,acc,h=>by
  unfold cellsFrom;split
  ·rename_i hk;have hk:k=.cell:=by simpa using hk
   subst hk;refine lT ?_;by_cases hx:x=y
   ·subst hx;exact .inr ⟨n,by rw[KG];simp⟩
   ·have e:(x==y)=false:=by simpa using hx
    rcases h with h|h
    ·rcases Kn.mp h with z|z
     ·exact absurd (by cases z;rfl) hx
     ·exact .inl z
    ·exact .inr (by rw[KG,e];exact h)
  ·rename_i hk;refine lT ?_;rcases h with h|h
   ·rcases Kn.mp h with z|z
    ·exact absurd (by cases z;rfl) hk
    ·exact .inl z
   ·exact .inr h
theorem ox{x:Str}{m:Nat}:∀{names:List (Str×NameKind)} {n:Nat} {acc:List (Str×Addr)},((x,NameKind.cell)∈names\/∀c,acc.lookup x=some c->m<=c)->m<=n->∀c,(cellsFrom n names acc).lookup x=some c->m<=c
 |[],_,_,h,_,c,e=>by
  rcases h with h|h
  ·simp at h
  ·exact h c e
 |(y,k)::r,n,acc,h,hm,c,e=>by
  unfold cellsFrom at e;split at e
  ·rename_i hk;have hk:k=.cell:=by simpa using hk
   subst hk;refine ox ?_ (Nat.le_succ_of_le hm) c e;by_cases hx:x=y
   ·subst hx;refine .inr λc e=>?_;rw[KG] at e;simp at e;exact e▸hm
   ·have e2:(x==y)=false:=by simpa using hx
    rcases h with h|h
    ·rcases Kn.mp h with z|z
     ·exact absurd (by cases z;rfl) hx
     ·exact .inl z
    ·exact .inr (by intro c e;rw[KG,e2] at e;exact h c e)
  ·rename_i hk;refine ox ?_ hm c e;rcases h with h|h
   ·rcases Kn.mp h with z|z
    ·exact absurd (by cases z;rfl) hk
    ·exact .inl z
   ·exact .inr h
theorem oy:∀{names:List (Str×NameKind)} {n:Nat} {acc:List (Str×Addr)},(∀x c,acc.lookup x=some c->c<n)->(∀x y c,acc.lookup x=some c->acc.lookup y=some c->x=y)->∀x y c,(cellsFrom n names acc).lookup x=some c->(cellsFrom n names acc).lookup y=some c->x=y
 |[],_,_,_,h=>h
 |(z,k)::r,n,acc,hb,h=>by
  unfold cellsFrom;split
  ·refine oy (λx c e=>?_) λx y c e1 e2=>?_
   ·rw[KG] at e
    cases hx:x==z with
    |true=>rw[hx] at e;cases e;exact Ly _
    |false=>rw[hx] at e;exact LZ (hb x c e)
   ·rw[KG] at e1 e2
    cases hx:x==z with
    |true=>
     rw[hx] at e1;cases e1
     cases hy:y==z with
     |true=>rw[(by simpa using hx:x=z),(by simpa using hy:y=z)]
     |false=>rw[hy] at e2;exact absurd (hb y _ e2) (Ld _)
    |false=>
     rw[hx] at e1
     cases hy:y==z with
     |true=>rw[hy] at e2;cases e2;exact absurd (hb x _ e1) (Ld _)
     |false=>rw[hy] at e2;exact h x y c e1 e2
  ·exact oy hb h
noncomputable def Cv(cells:List (Str×Addr))(names:List (Str×NameKind))(C:Addr):List (Str×Addr):=cellsFrom (C+1) names (fS cells names [])
theorem tO{cells:List (Str×Addr)}{C:Addr}{x:Str}(h:(Cv cells names C).lookup x=some c):C+1<=c\/cells.lookup x=some c:=by
 rcases tN h with h|h
 ·exact .inl h.2
 ·exact .inr (dY (λ_ _ z=>by cases z) x c h)
theorem kE{s:Shared}{scope:Scope}{qual:Str}{Q:Env->Shared->Prop}(hQ:Q (newEnv scope s.heap.objs.size globals (cellsFrom (s.heap.objs.size+1) scope.names cl) qual none .none (some outer) builtinsNs) { s with heap:=pushCells (s.heap.push { cls:=.type "dict",data:=.dict #[] }) scope.names }) :
  wpAny M A (newFunctionEnv scope globals cl [] qual none .none (some outer)) Q E s:=by
 simp only[newFunctionEnv,Ms,if_true];refine wpAny_bind (wpAny_alloc ?_)
 refine wpAny_bind (wpAny_layCells _ (λname kind cells=>by cases hkc:kind==NameKind.cell<;>simp[hkc]) _ _ _ _ ?_)
 rw[show({ s with heap:=s.heap.push { cls:=.type "dict",data:=.dict #[] } }:Shared).heap.objs.size=s.heap.objs.size+1 from LG ..];rw[List.forIn_nil];exact wpAny_bind (wpAny_pure (wpAny_pure hQ))
noncomputable def aQ(X:Cx)(N':List Str)(scope:Scope)(C:Addr)(s:Shared)(H:Hp)(ex:List Addr):Cx where
 prog:=X.prog
 w:=X.w
 K:=X.K
 mg:=X.mg
 base:=X.base
 A:=X.A
 N:=N'
 s₀:=s
 H₀:=H
 env:=compEnvC scope (Cv X.env.cells scope.names C) C X.env
 outer:=X.stack
 stack:=X.stack
 ex:=ex
 fn:=λx=>scope.names.lookup x==some .cell
 calm:=X.calm
 pn:=[]
 xe:=λ_ _=>False
theorem cv{α β:Type}[BEq α][LawfulBEq α]:∀{l:List (α×β)} {x:α} {y:β},l.lookup x=some y->(x,y)∈l
 |(a,b)::r,x,y,h=>by
  rw[KG] at h
  cases e:x==a with
  |true=>
   rw[e] at h;have:x=a:=by simpa using e
   subst this;cases h;exact KA
  |false=>
   rw[e] at h;exact Kp _ (cv h)
theorem jA{scope:Scope}{x:Str}(h:(relabel scope env).names.lookup x=some .cell\/(relabel scope env).names.lookup x=some .free):(x,NameKind.cell)∈scope.names\/(x,NameKind.free)∈scope.names:=by
 have key:∀k,(k=NameKind.cell\/k=NameKind.free)->(x,k)∈(relabel scope env).names->(x,NameKind.cell)∈scope.names\/(x,NameKind.free)∈scope.names:=λk hk hm=>by
  obtain⟨⟨n,k'⟩,hy,e⟩:=KW.mp hm;dsimp only at e;split at e
  ·rename_i q
   have:k'=NameKind.free:=by
    simp only[Ke,beq_iff_eq] at q;exact q.1.1
   subst this;cases e;exact .inr hy
  ·cases e;rcases hk with rfl|rfl
   ·exact .inl hy
   ·exact .inr hy
 rcases h with h|h
 ·exact key _ (.inl rfl) (cv h)
 ·exact key _ (.inr rfl) (cv h)
section
variable {X:Cx} {pins:List (Addr×Obj)} {σ:St} {H:Hp} {s:Shared}
theorem tP(I:Inv X pins σ H s){fp:List Addr}{N':List Str}{scope:Scope}{C:Addr}(hf:∀b∈fp,jp X pins H b)(hfo:∀b∈fp,b<s.heap.objs.size)(hkind:scope.kind=.function)(hC:s.heap.objs.size<=C)
  (hfree:∀y∈scope.names,y.2=.free->X.env.kindOf y.1=some .cell\/X.env.kindOf y.1=some .free):(aQ X N' scope C s H fp).Ok where
 mod:=I.ok.mod
 kind:=hkind
 glob:=I.ok.glob
 blt:=I.ok.blt
 above:=hC
 inj:=oy (λx c h=>by
   obtain⟨v,o,g,_⟩:=I.cell x c (dY (λ_ _ z=>by cases z) x c h);exact LZ (Km (Kl g) hC)) λx y c h1 h2=>I.ok.inj x y c (dY (λ_ _ z=>by cases z) x c h1) (dY (λ_ _ z=>by cases z) y c h2)
 has:=λx hx=>by
  rcases jA hx with m|m
  ·exact lT (.inl m)
  ·exact lT (.inr (jz m (I.ok.has x (hfree _ m rfl))))
 cab:=λx c h e=>by
  have h:scope.names.lookup x=some .cell:=by simpa[aQ] using h
  exact KF hC (LY (ox (.inl (cv h)) (Ki _) c e))
 hd:=I.ok.hd
 frames:=I.ok.frames
 stk:=.inl rfl
 exf:=λb hb=>⟨KB (Km (hfo b hb) hC),λx c h=>by
  rcases tO h with h|h
  ·exact Lm (Km (LZ (Km (hfo b hb) hC)) h)
  ·exact(hf b hb).2.2.2.2.1 x c h⟩
 bs:=I.bs
 bsz:=KF I.ok.bsz I.sz
 noex:=λb o e hb=>by
  obtain⟨_,_,_,h,_⟩:=hf b hb;rcases h with h|h
  ·exact I.ok.noex b o e h
  ·exact absurd (Km (Kl e) (KF I.ok.bsz h)) (Ld _)
 exfs:=λb hb hz=>by
  obtain⟨_,h1,h2,_⟩:=hf b hb;rcases Kn.mp (I.stkSub b hz) with e|e
  ·exact h1 e
  ·exact h2 e
 funs:=I.stack
 frf:=I.stkFree
noncomputable def dJ(σ:St)(cap:List (Option Nat)):St:=cap.map λo=>o.bind λi=>(σ[i]?).join
structure jB(X:Cx)(N':List Str)(scope:Scope)(cap:List (Option Nat)):Prop where
 kind:scope.kind=.function
 cell:∀y∈scope.names,y.2=.cell->scope.names.lookup y.1=some .cell
 names:∀y∈scope.names,y.2=.local->scope.names.lookup y.1=some .local
 free:∀y∈scope.names,y.2=.free->X.env.kindOf y.1=some .cell\/X.env.kindOf y.1=some .free
 len:cap.length=N'.length
 cap:∀(j i:Nat) (x:Str),N'[j]?=some x->cap[j]?=some (some i)->X.N[i]?=some x/\scope.names.lookup x=some .free/\(X.env.kindOf x=some .cell\/X.env.kindOf x=some .free)
theorem gw{scope:Scope}{env:Env}{x:Str}:∀{names:List (Str×NameKind)},names.lookup x=some .free->
  (names.map λ(n,k)=>if(k==NameKind.free&&env.scope.kind==.function&&env.kindOf n==some .cell) then(n,NameKind.cell) else(n,k)).lookup x=some .cell\/
  (names.map λ(n,k)=>if(k==NameKind.free&&env.scope.kind==.function&&env.kindOf n==some .cell) then(n,NameKind.cell) else(n,k)).lookup x=some .free
 |(n,k)::r,h=>by
  have ih:=@gw scope env x r
  show Me x ((if(k==NameKind.free&&env.scope.kind==.function&&env.kindOf n==some .cell)=true then(n,NameKind.cell) else(n,k))::_)=_\/Me x ((if(k==NameKind.free&&env.scope.kind==.function&&env.kindOf n==some .cell)=true then(n,NameKind.cell) else(n,k))::_)=_
  cases hx:x==n with
  |true=>
   simp only[KG,hx] at h;cases h;by_cases hc:(NameKind.free==NameKind.free&&env.scope.kind==.function&&env.kindOf n==some .cell)=true
   ·rw[if_pos hc];left;simp only[KG,hx]
   ·rw[if_neg hc];right;simp only[KG,hx]
  |false=>
   simp only[KG,hx] at h;by_cases hc:(k==NameKind.free&&env.scope.kind==.function&&env.kindOf n==some .cell)=true
   ·rw[if_pos hc];simp only[KG,hx];exact ih h
   ·rw[if_neg hc];simp only[KG,hx];exact ih h
theorem tQ(I:Inv X pins σ H s){fp:List Addr}{N':List Str}{scope:Scope}{cap:List (Option Nat)}{C D:Addr}{h₁:Heap}{tk n:Nat}{m:Str->Option Value}(O:jB X N' scope cap)(hf:∀b∈fp,jp X pins H b)(hfo:∀b∈fp,b<s.heap.objs.size)
  (hC:s.heap.objs.size<=C) (hD:s.heap.objs.size<=D) (hDC:D<C) (hcs:∀x c,(cellsFrom (C+1) scope.names []).lookup x=some c->h₁.IsCell c none) (hn:h₁.Ns C m) (old:∀b o,s.heap.get? b=some o->h₁.get? b=some o)
  (new:h₁.get? D=some { cls:=.type "list",data:=.seq ([]:List Value).toArray n }) :
  Inv (aQ X N' scope C s H fp) [] (dJ σ cap) (upd H D (.lst [])) { s with heap:=h₁,toks:=tk }:=by
 have sub:∀x c,(fS X.env.cells scope.names []).lookup x=some c->X.env.cells.lookup x=some c:=dY (λ_ _ z=>by cases z)
 have offc:∀x,scope.names.lookup x=some .free->(Cv X.env.cells scope.names C).lookup x=(fS X.env.cells scope.names []).lookup x:=λx h=>ow λz=>by
  have:=O.cell _ z rfl;rw[h] at this;cases this
 refine⟨tP I hf hfo O.kind hC O.free,rfl,I.bare,Un.laid old hD (I.hok.fresh hD),⟨m,hn,λj x v h1 h2 h3=>?_⟩,λx c e=>?_,?_,λx c e=>?_,λp hp=>absurd hp (by simp[aQ]),I.hok.laid old hD ⟨KJ _,[],n,.nil,new⟩,?_⟩
 ·have h2':(dJ σ cap)[j]?=some (some v):=h2;unfold dJ at h2';rw[Kf] at h2'
  cases hc:cap[j]? with
  |none=>rw[hc] at h2';cases h2'
  |some o=>
   rw[hc] at h2'
   cases o with
   |none=>cases h2'
   |some i=>
    have hv:(σ[i]?).join=some v:=by simpa using h2'
    have hv2:σ[i]?=some (some v):=by
     cases q:σ[i]? with
     |none=>rw[q] at hv;cases hv
     |some z=>rw[q] at hv;have:z=some v:=hv;rw[this]
    obtain⟨c1,c2,c3⟩:=O.cap j i x h1 hc;obtain⟨mo,hno,hl⟩:=I.loc;have vis:CM X.env.scope x:=c3.elim (λz=>.inr (.inl z)) λz=>.inr (.inr z);obtain⟨u,ru,l⟩:=hl i x v c1 hv2 vis;refine⟨u,ru,?_⟩;rcases l with⟨k,_⟩|⟨_,c,ec,ic⟩
    ·rcases c3 with z|z
     ·rw[z] at k;cases k
     ·rw[z] at k;cases k
    ·obtain⟨c',ec'⟩:=jz (cells:=X.env.cells) (acc:=[]) (cv c2) ⟨c,ec⟩;have e2:=sub x c' ec';rw[ec] at e2;cases e2;obtain⟨oc,hoc,hdc⟩:=ic;exact .inr ⟨gw (scope:=scope) c2,c,(offc x c2).trans ec',oc,old _ _ hoc,hdc⟩
 ·have e:(Cv X.env.cells scope.names C).lookup x=some c:=e;unfold Cv at e;rw[cy,List.lookup_append] at e
  cases q:(cellsFrom (C+1) scope.names []).lookup x with
  |some c'=>
   rw[q] at e;cases e;exact⟨none,hcs x _ q⟩
  |none=>
   rw[q] at e;obtain⟨v,oc,hoc,hdc⟩:=I.cell x c (sub x c e);exact⟨v,oc,old _ _ hoc,hdc⟩
 ·rw[show(aQ X N' scope C s H fp).env.locals=C from rfl,am (Ne.symm (KB hDC))];exact I.hok.fresh hC
 ·rcases tO e with e'|e'
  ·rw[am (Lm (LF hDC e'))];exact I.hok.fresh (KF hC (LY e'))
  ·obtain⟨v,oc,hoc,hdc⟩:=I.cell x c e';rw[am (KB (Km (Kl hoc) hD))];exact I.freeC x c e'
 ·show(dJ σ cap).length=N'.length;unfold dJ;rw[Kc,O.len]
theorem mX(I:Inv X pins σ H s){fp:List Addr}{N':List Str}{scope:Scope}{C:Addr}{σ':St}{H':Hp}{s':Shared}{h':Heap}(hf:∀b∈fp,jp X pins H b)(J:Inv (aQ X N' scope C s H fp) [] σ' H' s')(hsb:Heap.SameBut C s'.heap h') :
  Inv X pins σ H' { s' with heap:=h' }:=by
 have hC:s.heap.objs.size<=C:=J.ok.above;have neC:∀b o,s.heap.get? b=some o->b≠C:=λb o e=>KB (Km (Kl e) hC);have U:Un (sH X.stack) fp H H' s.heap s'.heap:=J.base;refine I.call' (s':={ s' with heap:=h' }) (ch:=fp) (J.os) ⟨λb o e n h1 h2=>?_,λb o e n h1 h2=>?_,U.free,λb o e h2=>?_,U.tups,U.frzs,U.tbls⟩ (λb o e=>?_) J.bare λb hb=>?_
 ·exact(hsb.2 b (neC b o e)).trans (U.keep b o e n h1 h2)
 ·obtain⟨sl,q⟩:=U.slot b o e n h1 h2;exact⟨sl,(hsb.2 b (neC b o e)).trans q⟩
 ·obtain⟨o',q⟩:=U.there b o e h2;exact⟨o',(hsb.2 b (neC b o e)).trans q⟩
 ·have fr:H' C=none:=J.free;refine(J.hok b o e).stay (λc v hc q=>(hsb.2 c ?_).trans q) (λ_ q=>q) λ_ _ q=>q
  rintro rfl
  rcases hc with rfl|hc
  ·rw[fr] at e;cases e
  ·rw[fr] at hc;cases hc
 ·obtain⟨h0,h1,h2,h3,h4,h5⟩:=hf b hb;exact⟨h3,h1,h4,h5⟩
theorem lU{R:Result->Shared->Prop}{s:Shared}(I:Nat->Shared->Prop)(turn:∀n s,I n s->wpAny (model prog w) A (pyNext it) (λr s₁=>match r with
   |none=>R (.ok .next) s₁
   |some v=>wpAny (model prog w) A (letOwnedTupleGo target it v) (λ_ s₁'=>wpAny (model prog w) A (assign target env v) (λ_ s₂=>
     wpAny (model prog w) A (forIn ifs true λc r=>if r=true then do let ok <- isTrue c env (eval c env);pure (ForInStep.yield ok) else pure (ForInStep.yield r)) (λok s₃=>
      if ok=true then wpAny (model prog w) A (eval elt env) (λx s₄=>
       wpAny (model prog w) A (call (.builtin "list.append") [acc,x]) (λ_ s₅=>∃m,m<n/\I m s₅) (λ_ _=>False) s₄) (λ_ _=>False) s₃
      else ∃m,m<n/\I m s₃) (λ_ _=>False) s₂) (λ_ _=>False) s₁') (λ_ _=>False) s₁) (λ_ _=>False) s)(n:Nat)(h:I n s) :
  codeAny (model prog w) A (.compLoop (.ListComp elt [⟨target,iter,ifs,0⟩] scope pos) 0 it acc env) R s:=by
 refine codeAny_loop rfl I (λn s hI=>?_) n h;show wpAny _ A ((compTurn (.ListComp elt [⟨target,iter,ifs,0⟩] scope pos) 0 it acc env).onRaise (λx=>do noteFrame x env;theTreesLotGoes x)) _ _ s;refine wpAny_noted ?_;rw[compTurn_list];refine wpAny_bind (wpAny_standAt (wpAny_bind (wpAny_mono (turn n s hI) (λr s₁ h₁=>?_) λ_ _ h'=>h'.elim)))
 cases r with
 |none=>exact wpAny_pure h₁
 |some v=>
  refine wpAny_bind (wpAny_mono h₁ (λ_ s₁' h₁'=>?_) λ_ _ h'=>h'.elim);refine wpAny_bind (wpAny_mono h₁' (λ_ s₂ h₂=>wpAny_bind (wpAny_mono h₂ (λok s₃ h₃=>?_) λ_ _ h'=>h'.elim)) λ_ _ h'=>h'.elim)
  cases ok with
  |false=>exact wpAny_pure ⟨rfl,h₃⟩
  |true=>
   exact wpAny_bind (wpAny_bind (wpAny_mono h₃ (λx s₄ h₄=>wpAny_bind (wpAny_mono h₄ (λ_ s₅ h₅=>wpAny_pure (wpAny_pure ⟨rfl,h₅⟩)) λ_ _ h'=>h'.elim)) λ_ _ h'=>h'.elim))
end
end L2
namespace L2
open PySem PySem.Spec PyProof.Rows
section
variable {X:Cx} {pins:List (Addr×Obj)} {σ:List (Option V)} {H:Hp} {s:Shared} {h':Heap}
theorem Inv.junk(I:Inv X pins σ H s)(hs:Heap.SameBut C s.heap h')(h0:X.s₀.heap.objs.size<=C)(hL:X.env.locals≠C)(hc:∀x c,X.env.cells.lookup x=some c->c≠C)(hp:∀p∈X.pn++pins,p.1≠C)(hH:H C=none):Inv X pins σ H { s with heap:=h' }:=by
 have ne:∀b o,X.s₀.heap.get? b=some o->b≠C:=λb o e=>KB (Km (Kl e) h0);obtain⟨m,hn,hl⟩:=id I.loc;refine⟨I.ok,I.os,I.bare,⟨λb o e n hb hx=>?_,λb o e n hb hx=>?_,I.base.free,λb o e hx=>?_,I.base.tups,I.base.frzs,I.base.tbls⟩,⟨m,hn.sameBut hs hL,λj y v' e1 e2 e3=>?_⟩,λy c e=>?_,I.free,I.freeC,λp hpp=>?_,λb ob e=>?_,I.len⟩
 ·exact(hs.2 b (ne b o e)).trans (I.base.keep b o e n hb hx)
 ·obtain⟨sl,e1⟩:=I.base.slot b o e n hb hx;exact⟨sl,(hs.2 b (ne b o e)).trans e1⟩
 ·obtain⟨o',e1⟩:=I.base.there b o e hx;exact⟨o',(hs.2 b (ne b o e)).trans e1⟩
 ·obtain⟨u',r',q⟩:=hl j y v' e1 e2 e3;refine⟨u',r',?_⟩;rcases q with⟨k,e⟩|⟨k,c,e,z⟩
  ·exact .inl ⟨k,e⟩
  ·refine .inr ⟨k,c,e,?_⟩;obtain⟨o,g,d⟩:=z;exact⟨o,(hs.2 c (hc y c e)).trans g,d⟩
 ·obtain⟨v,o,g,d⟩:=I.cell y c e;exact⟨v,o,(hs.2 c (hc y c e)).trans g,d⟩
 ·obtain⟨g,r⟩:=I.pin p hpp;exact⟨(hs.2 _ (hp p hpp)).trans g,r⟩
 ·refine(I.hok b ob e).stay (λc w' hcc q=>(hs.2 c ?_).trans q) (λ_ q=>q) λ_ _ q=>q
  rintro rfl
  rcases hcc with rfl|hcc
  ·rw[hH] at e;cases e
  ·rw[hH] at hcc;cases hcc
noncomputable def GP(te tst:TE):TE:=λσ H Q=>te σ H λx H1=>tst σ H1 λy H2=>∃a xs,x=.ref a/\y=.int (-1)/\SqL X.K H2 a xs/\∀p,H2 p=none->Q (.ref p) (upd H2 p (.lst xs.reverse))
theorem At{e st:Expr}{te tst:TE}{p2 pos:Pos}(he:PE X e te)(hst:PE X st tst):PE X (.Subscript e (.Slice none none (some st) p2) pos) (GP (X:=X) te tst):=by
 intro pins s σ H Q I h;refine Subscript_ (bx (he pins s σ H _ I h) λv s1 ⟨x,H1,I1,r1,q1⟩=>?_);refine wpAny_Slice ?_;rw[evalPart_none];refine wpAny_pure (wpAny_pure ?_);refine bx (hst pins s1 σ H1 _ I1 q1) λvst s3 ⟨y,H3,I3,r3,q3⟩=>?_;obtain⟨a,xs,rfl,rfl,hx,q⟩:=q3;obtain⟨t,rfl⟩:=r3;cases r1;have I4:Inv X pins σ H3 { s3 with heap:=s3.heap.push { cls:=.type "slice",data:=.fields #[.none,.none,.int (-1) t] } }:=I3.kept (t':=s3.toks) λb ob q=>Kj _ q;obtain⟨its,r,ht,hz⟩:=I4.list hx;show wpAny (model X.prog X.w) X.A (subscriptTail e (.Slice none none (some st) p2) (.ref a) (.ref s3.heap.objs.size)) (EP X pins σ Q) X.xe { s3 with heap:=s3.heap.push { cls:=.type "slice",data:=.fields #[.none,.none,.int (-1) t] } };refine tail_any (ops:=[.ref a,.ref s3.heap.objs.size]) ht.isList.typeIs slot_list_getitem.lookup ?_ (by with_unfolding_all rfl);refine wpAny_getItem_list_slice ht.isList (Heap.IsSliceOf.new ..) .none .none (.int _ _) (by simp) ?_ (by rw[Ko,<- r.length];exact hz);rw[PySem.W.krv_pick];refine⟨.ref _,_,I4.laid (t':=s3.toks) (o:=.lst xs.reverse) (λb ob q=>Kj _ q) (Ki _) ?_,rfl,q _ (I4.hok.fresh (Ki _))⟩;exact⟨by rw[List.length_reverse];exact hz,_,0,r.reverse,Ku _ rfl⟩
noncomputable def GQ(K:Ka)(n:Nat)(t:sS):TG:=λv σ H Q=>∃a xs,v=.ref a/\SqL K H a xs/\xs.length=n/\t xs σ H Q
theorem Au{k:Nat}{n:Nat}(hc:X.calm=true)(h:zT X es t)(hn:(assignEach es X.env).length=n)(hst:(assignEach es X.env).findIdx? (·.1)=none):PG X (.Tuple es k pos) (GQ X.K n t):=by
 intro pins s σ H v u Q I r hw;obtain⟨a,xs,e1,hq,hl,hw⟩:=hw;subst e1;cases r;obtain⟨its,rv,ht,hz⟩:=I.list hq;rw[assign_Tuple];refine wpAny_bind (wpAny_standAt ?_);unfold unpack;rw[hst,show(assignEach es X.env).length=its.toArray.size by rw[hn,<- hl,rv.length,Ko]];refine wpAny_bind (wpAny_holding (PySem.W.kun_itemsOf (I.ok.hd hc) ht.isList λh' hx=>?_));have I1:Inv X pins σ H { s with heap:=h' }:=I.kept (t':=s.toks) λb o e=>hx b o (KB (Kl e)) e;exact h pins _ σ H xs _ Q I1 (by simpa using rv) hw
end
end L2
namespace G
open PySem PySem.Spec PyProof.Rows L2
inductive D where
 |non|bl (b:Bool)|int (i:Int)|str (x:Str)|lst (xs:List D)|tup (xs:List D)|scr (ns:List Int)|dic (ks:List aI) (vs:List D)
noncomputable def Dm(K:Ka)(a:Addr)(xs:List V):Prop:=
 ∃(o:Obj) (its:Array Value) (n:Nat),K.lookup a=some o/\o.cls=.type "list"/\o.dict=none/\o.data=.seq its n/\its.size<=sizeLine/\Vals xs its.toList
mutual
noncomputable def Rp(K:Ka)(H:Hp)(S:List Addr):D->V->Prop
 |.non,v=>v=.non
 |.bl b,v=>v=.bl b
 |.int i,v=>v=.int i
 |.str x,v=>v=.str x
 |.lst ds,v=>∃a xs,v=.ref a/\a∉S/\H a=some (.lst xs)/\RpL K H S ds xs
 |.tup ds,v=>∃a xs,v=.ref a/\a∉S/\H a=some (.tup xs)/\RpL K H S ds xs
 |.scr ns,v=>∃a,v=.ref a/\((a∉S/\Rd H a (.lst (ns.map V.int)))\/Dm K a (ns.map V.int))
 |.dic ks vs,v=>∃a kvs,v=.ref a/\a∉S/\H a=some (.dK kvs)/\kvs.map (·.1)=ks/\RpL K H S vs (kvs.map (·.2))
noncomputable def RpL(K:Ka)(H:Hp)(S:List Addr):List D->List V->Prop
 |[],xs=>xs=[]
 |d::ds,xs=>∃y ys,xs=y::ys/\Rp K H S d y/\RpL K H S ds ys
end
section
variable {K:Ka} {H H':Hp} {S S':List Addr}
end
inductive Kd where
 |sh|fr|bo
 deriving DecidableEq
noncomputable def VR(K:Ka)(H0 H:Hp)(S:List Addr):Kd->D->V->Prop
 |.sh,d,v=>Rp K H S d v
 |.fr,.lst ds,v=>∃a xs,v=.ref a/\H0 a=none/\H a=some (.lst xs)/\RpL K H (a::S) ds xs
 |.bo,.lst ds,v=>∃a xs,v=.ref a/\H a=some (.lst xs)/\RpL K H S ds xs
 |_,_,_=>False
section
variable {K:Ka} {H0 H H':Hp} {S:List Addr}
end
end G
namespace G
open PySem PySem.Spec PyProof.Rows L2
section
variable {X:Cx}
section
variable {pins:List (Addr×Obj)} {s:Shared} {σ:L2.St} {H:Hp}
end
end
noncomputable def FF(K:Ka)(a:Addr):It:=
 ⟨λi H=>∃xs x,SqL K H a xs/\xs[i]?=some x,λi H x H'=>∃p v,H p=none/\H'=upd H p (.tup [.int i,v])/\x=.ref p/\∀xs,SqL K H a xs->xs[i]?=some v,λi H=>∃xs,SqL K H a xs/\xs.length<=i⟩
theorem rE{P:Program}{w:World}{K:Ka}{es:List Expr}{kk:Nat}{tp:Pos}(a e it:Addr)(hne:e≠it):mI P w K (.Tuple es kk tp) (FF K a) [e,it] e (λi h=>(∃old,IsEnum h e it ((i:Nat):Int) old)/\h.IsListIter it a i) where
 mem:=by simp
 obj:=λi h st b hb=>by
  obtain⟨⟨old,h1⟩,o,h2,h3,h4⟩:=st;rcases Kn.mp hb with rfl|hb
  ·exact⟨_,h1,λv z=>by
    have z':Data.fields _=Data.cell v:=z;cases z'⟩
  ·have:b=it:=by simpa using hb
   subst this;exact⟨o,h2,λv z=>by rw[h4] at z;cases z⟩
 keep:=λi h h' st k=>by
  obtain⟨⟨old,h1⟩,h2⟩:=st;exact⟨⟨old,k e (by simp) _ h1⟩,h2.at λo q=>k it (by simp) o q⟩
 item:=by
  intro X hP hw hK hc i pins s σ H E I hf st hg;subst hP hw hK;obtain⟨⟨old,he⟩,hit⟩:=st;obtain⟨xs,x,hq,hx⟩:=hg;obtain⟨its,rv,p,hz⟩:=I.list hq;obtain⟨u,hu,ru⟩:=rv.get hx;obtain⟨f0,f1,f2,f3,f4,f5⟩:=hf e (by simp);obtain⟨g0,g1,g2,g3,g4,g5⟩:=hf it (by simp);have hes:=Kl he;refine wpAny_pyNext_enum_item he hit p.isList (x:=u) (by simpa using hu) hne λh1 ho hit1 ht hs1 kk1=>?_;refine⟨_,rfl,wpAny_letOwnedTupleGo_enum ho λh2 he2 sb2=>?_⟩;have sb2':Heap.SameBut e h1 h2:=sb2;have step1:∀b o,b≠e->b≠it->s.heap.get? b=some o->h2.get? b=some o:=λb o n1 n2 q=>(sb2'.2 b n1).trans (kk1 b o n1 n2 q);have fr:=I.hok.fresh (Ki s.heap.objs.size);have htup:h2.get? s.heap.objs.size=some { cls:=.type "tuple",data:=.seq #[.int i s.toks,u] }:=(sb2'.2 _ (Lm hes)).trans ht
  have I1:Inv X pins σ (upd H s.heap.objs.size (.tup [.int i,x])) { s with heap:=h2,toks:=s.toks+1 }:=by
   have nit:∀b o,H b=some o->b≠e/\b≠it:=λb o q=>⟨(λz=>by rw[z,f0] at q;cases q),(λz=>by rw[z,g0] at q;cases q)⟩
   have hok':HOk X.prog X.w (upd H s.heap.objs.size (.tup [.int i,x])) h2:=λb o q=>by
    by_cases hb:b=s.heap.objs.size
    ·subst hb;rw[aG] at q;cases q;exact⟨(by show 2<=sizeLine;decide),[.int i s.toks,u],.cons ⟨_,rfl⟩ (.cons ru .nil),_,htup,rfl,_,rfl⟩
    ·rw[am hb] at q;refine(I.hok b o q).stay (λc v hc' q'=>step1 c v ?_ ?_ q') (λc q'=>by rw[am (av q' fr)];exact q') λc ys q'=>by rw[am (av q' fr)];exact q'
     ·rcases hc' with rfl|hc'
      ·exact(nit _ _ q).1
      ·exact(nit _ _ hc').1
     ·rcases hc' with rfl|hc'
      ·exact(nit _ _ q).2
      ·exact(nit _ _ hc').2
   refine I.step (g':=s.gens) (d':=s.drawn) (t':=s.toks+1) (ch:=[e,it]) (λb hb=>?_) (λb o _ _ hcx q _=>step1 b o (λz=>hcx (by simp[z])) (λz=>hcx (by simp[z])) q)
    (λb o _ _ hcx q _=>⟨o.slots,step1 b o (λz=>hcx (by simp[z])) (λz=>hcx (by simp[z])) q⟩) (λb o hcx q n=>by rw[am (KB (Kl q))];exact n)
    (λb o hcx q=>⟨o,step1 b o (λz=>hcx (by simp[z])) (λz=>hcx (by simp[z])) q⟩) (λb ys q=>by rw[am (av q fr)];exact q) (λb o z q=>by rw[am (av q fr)];exact q)
    (λb ps q=>⟨#[],by rw[am (av q fr),q];simp⟩) (λm hm=>?_) hok' I.bare
   ·rcases Kn.mp hb with rfl|hb
    ·exact⟨f3,f1,f4,f5⟩
    ·have:b=it:=by simpa using hb
     subst this;exact⟨g3,g1,g4,g5⟩
   ·obtain⟨o,es',ep,ho',r'⟩:=hm;exact⟨o,es',ep,step1 _ o (Ne.symm f1) (Ne.symm g1) ho',r'⟩
  refine⟨.ref s.heap.objs.size,_,I1,rfl,⟨s.heap.objs.size,x,fr,rfl,rfl,λys hy=>by rw[I.list_inj hy hq];exact hx⟩,⟨⟨u,by
    have:(((i+1:Nat):Int))=(i:Int)+1:=by lia
    rw[this];exact he2⟩,hit1.extBut sb2'.extBut (Ne.symm hne)⟩,λb hb=>?_⟩
  have hb0:=(hf b hb).1
  have hlt:b<s.heap.objs.size:=by
   rcases Kn.mp hb with rfl|hb
   ·exact hes
   ·have:b=it:=by simpa using hb
    subst this;obtain⟨o,q,_⟩:=hit;exact Kl q
  rw[am (KB hlt)];exact hb0
 done:=by
  intro X hP hw hK hc i pins s σ H E I hf st hg;subst hP hw hK;obtain⟨⟨old,he⟩,hit⟩:=st;obtain⟨xs,hq,hx⟩:=hg;obtain⟨its,rv,p,hz⟩:=I.list hq;obtain⟨f0,f1,f2,f3,f4,f5⟩:=hf it (by simp);have hl:=rv.length;exact wpAny_pyNext_enum_end (I.ok.hd hc) he hit p.isList (by simp;lia) λh' eb=>⟨rfl,I.turned (t':=s.toks) (λb o hb q=>eb b o hb q) f0 f1 f3 f4 f5⟩
 self:=λ_ _ _ _ _ st h=>let ⟨_,q⟩:=st.1;wpAny_pyIter_enum q h
section
variable {X:Cx}
noncomputable def Do(K:Ka)(ta:TA):TI:=λσ H R=>ta σ H λvs H1=>∃a,vs=[.ref a]/\(∃xs,SqL K H1 a xs)/\R (FF K a) H1
theorem wP{a:Expr}{kk:Nat}(hg:Gl X "enumerate")(hm:X.mg "enumerate" = none)(ha:PA X [a] ta)(hs:starEach [a] X.env=[(false,eval a X.env)]) :
  PI X (.Tuple es kk tp) (.Call (.Name "enumerate" p) [a] [] pos) (Do X.K ta):=by
 intro pins s σ H R I h;refine Call_ (dQ I hg hm boot_enumerate (PyProof.Rows.callWith_type1 (bx (ha pos pins s σ H _ I h) λus s1 ⟨vs,H1,I1,r1,q1⟩=>?_) hs rfl));obtain⟨l,e,⟨xs,hq⟩,q⟩:=q1;subst e;obtain⟨u,rfl,rx⟩:=eO r1;cases rx;obtain⟨its,rv,pl,hz⟩:=I1.list hq;refine call_enumerate_list pl.isList λh' he hit hsz hk=>?_;refine wpAny_pyIter_enum (s:={ s1 with heap:=h' }) he ?_;have I2:Inv X pins σ H1 { s1 with heap:=h' }:=I1.kept (t':=s1.toks) hk;refine⟨s1.heap.objs.size+1,[s1.heap.objs.size+1,s1.heap.objs.size],_,_,H1,rfl,I2,rE l _ _ (Lm (Ly _)),⟨⟨_,he⟩,hit⟩,λb hb=>?_,q⟩
 have hb':s1.heap.objs.size<=b:=by
  rcases Kn.mp hb with rfl|hb
  ·exact LA _
  ·have:b=s1.heap.objs.size:=by simpa using hb
   rw[this];exact Ki _
 exact I1.fpOk hb' (I1.hok.fresh hb')
end
end G
namespace G
open PySem PySem.Spec PyProof.Rows L2
open AutoSeq1 (wpAny_loadPart')
section
variable {prog:Program} {w:World} {A:Around} {E:Value->Shared->Prop} {s:Shared}
theorem tR{i:Nat}{items:Array Value}{Q:Value->Shared->Prop}(hh:A.handled=none)(hit:s.heap.IsTupleIter it t i)(ht:s.heap.IsTuple t items)(yes:∀x h',items[i]?=some x->h'.IsTupleIter it t (i+1)->Heap.SameBut it s.heap h'->Q x { s with heap:=h' })(no:∀h' e,items[i]?=none->Heap.ExtBut it s.heap h'->(∃o,h'.get? e=some o/\o.cls=.type "StopIteration")->E (.ref e) { s with heap:=h' }):wpAny (model prog w) A (Builtin.SmallTypes.nextOf (.ref it)) Q E s:=by
 have ty:=hit.typeIs;rcases hit with⟨o,ho,hc,hd⟩;rcases ht with⟨ot,hot,_,nt,hdt⟩;have here:¬((Value.ref t==Value.none)=true):=K4;have sl:=F.slot_tuple_iterator_next;unfold Builtin.SmallTypes.nextOf;refine wpAny_bind (wpAny_callSpecial?_slot (name:=Str.ofString "__next__") ty sl (wpAny_call_entry sl ty F.entry_tuple_iterator_next (show wpAny _ _ (field (.ref it) 0 >>= _) _ _ s from wpAny_bind (wpAny_field ho hd (x:=.ref t) rfl ?_)) (F.args_tuple_iterator_next_1 _)))
 show wpAny _ _ (if(Value.ref t==Value.none)=true then _ else _) _ _ s
 rw[if_neg here];refine wpAny_bind (m:=field (.ref it) 1) (wpAny_field ho hd (x:=.int i 0) rfl (wpAny_bind (m:=seqItems? (.ref t)) (wpAny_seqItems hot hdt ?_)))
 cases e:items[i]? with
 |some x=>
  simp only[KC,e];exact wpAny_bind (wpAny_setField ho hd (by simp) (wpAny_pure ⟨x,rfl,wpAny_pure (yes x _ e ⟨_,LJ _ ho (Obj.isFreed_of_fields (Obj.data_mapFields hd _)),(Obj.cls_mapFields ..).trans hc,by rw[Obj.data_mapFields hd];simp[rawInt]⟩ (Heap.SameBut.update ..))⟩))
 |none=>
  simp only[KC,e];refine wpAny_bind (wpAny_rule (wpAny_bind (wpAny_setField ho hd (by simp) (wpAny_bind (m:=newExc (.type "StopIteration") []) ?_))));simp only[newExc,newTuple]
  refine wpAny_bind (wpAny_newObj_type (wpAny_bind (m:=firstArgMember _ _) (wpAny_of_eq (a:=Value.none) (by first|rfl|(simp only[firstArgMember];rfl)) (wpAny_newObj_type ?_ (by size_fits)))) (by size_fits))
  simp only[raiseNew];refine wpAny_bind (wpAny_handled ?_)
  first|rw[show A.in1.handled=none from hh]|rw[hh]
  exact wpAny_bind (wpAny_pure (wpAny_throw (no _ _ e (((Heap.SameBut.update ..).extBut.push _).push _) ⟨_,Ku _ rfl,rfl⟩)))
theorem Av(hh:A.handled=none)(it t:Addr)(hne:t≠it)(items:Array Value):Draws prog w A it [it,t] items.size (λi v=>items[i]?=some v) (λi h=>h.IsTupleIter it t i/\h.IsTuple t items) where
 live:=λ_ _ st=>let ⟨o,ho,_⟩:=st.1;⟨o,ho⟩
 frame:=λ_ _ _ st hk=>⟨st.1.at λo e=>hk it (by simp) o e,let ⟨o,ho,r⟩:=st.2;⟨o,hk t (by simp) o ho,r⟩⟩
 item:=λi s Q E hi st hQ=>tR hh st.1 st.2 (λx h' e q b=>hQ x h' s.toks e ⟨q,st.2.extBut b.extBut hne⟩ b) λ_ _ e=>by simp[hi] at e
 done:=λs Q E st hE=>tR hh st.1 st.2 (λx h' e=>by simp at e) λh' e _=>hE h' e
theorem rF(l:Addr)(items:Array Value)(n:Nat)(dct:Option Addr)(sl:Array (Option Value)) :
  Meets (Builtin.«enumerate.__new__» ⟨[.type "enumerate",.ref l],[]⟩) (λ_ R s=>s.heap.get? l=some { cls:=.type "tuple",dict:=dct,data:=.seq items n,slots:=sl }/\
   R (.ok (.ret (.ref (s.heap.push { cls:=.type "tuple_iterator",data:=.fields #[.ref l,.int 0 0] }).objs.size)))
    { s with heap:=(s.heap.push { cls:=.type "tuple_iterator",data:=.fields #[.ref l,.int 0 0] }).push { cls:=.type "enumerate",data:=.fields #[.none,.bool false,.ref s.heap.objs.size,rawInt 0,.none,.none] } }):=
 .of_wp λprog w A R s h=>by
  obtain⟨hp,g,d,tk,os⟩:=s;obtain⟨hl,h⟩:=h;have hsub:=sub_enumerate;have hL:Heap.IsTuple (Shared.heap ⟨hp,g,d,tk,os⟩) l items:=⟨_,hl,rfl,n,rfl⟩
  wp_walk using wpAny_loadPart' hl
  refine wpAny_stack_any λst=>wpAny_pure ?_;split
  ·rename_i c _ _ _ _ _
   cases(c==Value.type "enumerate") <;>
   ·wp_walk using wpAny_loadPart' hl,wpAny_pyIter_tuple hL
    exact⟨_,rfl,h⟩
  ·wp_walk using wpAny_loadPart' hl,wpAny_pyIter_tuple hL
   exact⟨_,rfl,h⟩
theorem oz{Q:Value->Shared->Prop}(hL:s.heap.IsTuple l items)(h:∀h',IsEnum h' (s.heap.objs.size+1) s.heap.objs.size 0 .none->h'.IsTupleIter s.heap.objs.size l 0->(∀b o,s.heap.get? b=some o->h'.get? b=some o)->Q (.ref (s.heap.objs.size+1)) { s with heap:=h' }) :
  wpAny (model prog w) A (call (.type "enumerate") [.ref l]) Q E s:=by
 obtain⟨⟨c,dct,dt,sl⟩,hl,hc,n,hd⟩:=hL;replace hc:c=.type "tuple":=hc;replace hd:dt=.seq items n:=hd;subst hc hd;refine callType_new F.called_enumerate (by decide) (F.typeCall_enumerate_1 _) (F.newCall_enumerate_1 _) (λobj=>F.args_object_init_2 obj _) F.entry_enumerate_new (rF l items n dct sl) ⟨hl,?_⟩;have hz:(s.heap.push { cls:=.type "tuple_iterator",data:=.fields #[.ref l,.int 0 0] }).objs.size=s.heap.objs.size+1:=LG ..;show _/\_;rw[hz]
 have he:IsEnum ((s.heap.push { cls:=.type "tuple_iterator",data:=.fields #[.ref l,.int 0 0] }).push { cls:=.type "enumerate",data:=.fields #[.none,.bool false,.ref s.heap.objs.size,rawInt 0,.none,.none] }) (s.heap.objs.size+1) s.heap.objs.size 0 .none:=by
  have:=Ku (s.heap.push { cls:=.type "tuple_iterator",data:=.fields #[.ref l,.int 0 0] }) (o:={ cls:=.type "enumerate",data:=.fields #[.none,.bool false,.ref s.heap.objs.size,rawInt 0,.none,.none] }) rfl;rw[hz] at this;exact this
 exact⟨⟨_,he,rfl⟩,h _ he ⟨_,Kj _ (Ku _ rfl),rfl,rfl⟩ λb o x=>Kj _ (Kj _ x)⟩
end
noncomputable def GR(K:Ka)(a:Addr):It:=
 ⟨λi H=>∃xs x,SqT K H a xs/\xs[i]?=some x,λi H x H'=>∃p v,H p=none/\H'=upd H p (.tup [.int i,v])/\x=.ref p/\∀xs,SqT K H a xs->xs[i]?=some v,λi H=>∃xs,SqT K H a xs/\xs.length<=i⟩
theorem oA{P:Program}{w:World}{K:Ka}{es:List Expr}{kk:Nat}{tp:Pos}(a e it:Addr)(hne:e≠it):mI P w K (.Tuple es kk tp) (GR K a) [e,it] e (λi h=>(∃old,IsEnum h e it ((i:Nat):Int) old)/\h.IsTupleIter it a i) where
 mem:=by simp
 obj:=λi h st b hb=>by
  obtain⟨⟨old,h1⟩,o,h2,h3,h4⟩:=st;rcases Kn.mp hb with rfl|hb
  ·exact⟨_,h1,λv z=>by
    have z':Data.fields _=Data.cell v:=z;cases z'⟩
  ·have:b=it:=by simpa using hb
   subst this;exact⟨o,h2,λv z=>by rw[h4] at z;cases z⟩
 keep:=λi h h' st k=>by
  obtain⟨⟨old,h1⟩,h2⟩:=st;exact⟨⟨old,k e (by simp) _ h1⟩,h2.at λo q=>k it (by simp) o q⟩
 item:=by
  intro X hP hw hK hc i pins s σ H E I hf st hg;subst hP hw hK;obtain⟨⟨old,he⟩,hit⟩:=st;obtain⟨xs,x,hq,hx⟩:=hg;obtain⟨its,rv,p,hz⟩:=I.tuple hq;have p:s.heap.IsTuple a its.toArray:=p;obtain⟨u,hu,ru⟩:=rv.get hx;obtain⟨f0,f1,f2,f3,f4,f5⟩:=hf e (by simp);obtain⟨g0,g1,g2,g3,g4,g5⟩:=hf it (by simp);have hes:=Kl he
  have hai:a≠it:=λz=>by
   subst z;obtain⟨o1,e1,c1,_⟩:=p;obtain⟨o2,e2,c2,_⟩:=hit;rw[e1] at e2;cases e2;rw[c1] at c2;exact absurd c2 (by decide)
  have hea:e≠a:=λz=>by
   subst z;obtain⟨o1,e1,c1,_⟩:=p;have he':s.heap.get? e=some _:=he;rw[e1] at he';cases he';exact absurd (show Value.type "enumerate" = Value.type "tuple" from c1) (by decide)
  have hlt:i<its.toArray.size:=by
   have:=(Kb.mp hu).1;simpa using this
  refine wpAny_pyNext_enum_itemD (Av (A:=X.A.in1) (I.ok.hd hc) it a hai its.toArray) he ⟨hit,p⟩ hlt hne (by simp[hne,hea]) λx' h1 tk hP ho hit1 ht hs1 kk1=>?_
  obtain rfl:u=x':=by
   have hu':its.toArray[i]?=some u:=by simpa using hu
   have hP':its.toArray[i]?=some x':=hP;rw[hu'] at hP';cases hP';rfl
  refine⟨_,rfl,wpAny_letOwnedTupleGo_enum ho λh2 he2 sb2=>?_⟩;have sb2':Heap.SameBut e h1 h2:=sb2;have step1:∀b o,b≠e->b≠it->s.heap.get? b=some o->h2.get? b=some o:=λb o n1 n2 q=>(sb2'.2 b n1).trans (kk1 b o n1 n2 q);have fr:=I.hok.fresh (Ki s.heap.objs.size);have htup:h2.get? s.heap.objs.size=some { cls:=.type "tuple",data:=.seq #[.int i tk,u] }:=(sb2'.2 _ (Lm hes)).trans ht
  have I1:Inv X pins σ (upd H s.heap.objs.size (.tup [.int i,x])) { s with heap:=h2,toks:=tk+1 }:=by
   have nit:∀b o,H b=some o->b≠e/\b≠it:=λb o q=>⟨(λz=>by rw[z,f0] at q;cases q),(λz=>by rw[z,g0] at q;cases q)⟩
   have hok':HOk X.prog X.w (upd H s.heap.objs.size (.tup [.int i,x])) h2:=λb o q=>by
    by_cases hb:b=s.heap.objs.size
    ·subst hb;rw[aG] at q;cases q;exact⟨(by show 2<=sizeLine;decide),[.int i tk,u],.cons ⟨_,rfl⟩ (.cons ru .nil),_,htup,rfl,_,rfl⟩
    ·rw[am hb] at q;refine(I.hok b o q).stay (λc v hc' q'=>step1 c v ?_ ?_ q') (λc q'=>by rw[am (av q' fr)];exact q') λc ys q'=>by rw[am (av q' fr)];exact q'
     ·rcases hc' with rfl|hc'
      ·exact(nit _ _ q).1
      ·exact(nit _ _ hc').1
     ·rcases hc' with rfl|hc'
      ·exact(nit _ _ q).2
      ·exact(nit _ _ hc').2
   refine I.step (g':=s.gens) (d':=s.drawn) (t':=tk+1) (ch:=[e,it]) (λb hb=>?_) (λb o _ _ hcx q _=>step1 b o (λz=>hcx (by simp[z])) (λz=>hcx (by simp[z])) q)
    (λb o _ _ hcx q _=>⟨o.slots,step1 b o (λz=>hcx (by simp[z])) (λz=>hcx (by simp[z])) q⟩) (λb o hcx q n=>by rw[am (KB (Kl q))];exact n)
    (λb o hcx q=>⟨o,step1 b o (λz=>hcx (by simp[z])) (λz=>hcx (by simp[z])) q⟩) (λb ys q=>by rw[am (av q fr)];exact q) (λb o z q=>by rw[am (av q fr)];exact q)
    (λb ps q=>⟨#[],by rw[am (av q fr),q];simp⟩) (λm hm=>?_) hok' I.bare
   ·rcases Kn.mp hb with rfl|hb
    ·exact⟨f3,f1,f4,f5⟩
    ·have:b=it:=by simpa using hb
     subst this;exact⟨g3,g1,g4,g5⟩
   ·obtain⟨o,es',ep,ho',r'⟩:=hm;exact⟨o,es',ep,step1 _ o (Ne.symm f1) (Ne.symm g1) ho',r'⟩
  refine⟨.ref s.heap.objs.size,_,I1,rfl,⟨s.heap.objs.size,x,fr,rfl,rfl,λys hy=>by rw[I.tuple_inj hy hq];exact hx⟩,⟨⟨u,by
    have:(((i+1:Nat):Int))=(i:Int)+1:=by lia
    rw[this];exact he2⟩,hit1.1.extBut sb2'.extBut (Ne.symm hne)⟩,λb hb=>?_⟩
  have hb0:=(hf b hb).1
  have hlt:b<s.heap.objs.size:=by
   rcases Kn.mp hb with rfl|hb
   ·exact hes
   ·have:b=it:=by simpa using hb
    subst this;obtain⟨o,q,_⟩:=hit;exact Kl q
  rw[am (KB hlt)];exact hb0
 done:=by
  intro X hP hw hK hc i pins s σ H E I hf st hg;subst hP hw hK;obtain⟨⟨old,he⟩,hit⟩:=st;obtain⟨xs,hq,hx⟩:=hg;obtain⟨its,rv,p,hz⟩:=I.tuple hq;have p:s.heap.IsTuple a its.toArray:=p;obtain⟨f0,f1,f2,f3,f4,f5⟩:=hf it (by simp);have hl:=rv.length;have hT:s.TypeIs (.ref e) "enumerate":=⟨_,he,rfl⟩;unfold pyNext;refine wpAny_bind (wpAny_attempt (wpAny_callSpecial?_slot (name:=Str.ofString "__next__") hT F.slot_enumerate_next (wpAny_call_entry F.slot_enumerate_next hT F.entry_enumerate_next ?_ (F.args_enumerate_next_1 _))));show wpAny _ _ (field (.ref e) 2 >>= _) _ _ _;refine wpAny_bind (wpAny_field he rfl (x:=.ref it) rfl ?_);refine wpAny_bind (tR (A:=X.A.in1) (I.ok.hd hc) hit p (λx h' e=>by simp at e;have:=(Kb.mp e).1;lia) λh' x _ he' hx'=>?_);obtain⟨o,ho,hc⟩:=hx';refine wpAny_bind (wpAny_isInstance (T:="StopIteration") (b:=true) ⟨o,ho,hc⟩ isSubtype_stop ?_);exact wpAny_pure ⟨rfl,I.turned (t':=s.toks) (λb o hb q=>he' b o hb q) f0 f1 f3 f4 f5⟩
 self:=λ_ _ _ _ _ st h=>let ⟨_,q⟩:=st.1;wpAny_pyIter_enum q h
section
variable {X:Cx}
noncomputable def Aw(K:Ka)(ta:TA):TI:=λσ H R=>ta σ H λvs H1=>∃a,vs=[.ref a]/\(∃xs,SqT K H1 a xs)/\R (GR K a) H1
theorem tS{a:Expr}{kk:Nat}(hg:Gl X "enumerate")(hm:X.mg "enumerate" = none)(ha:PA X [a] ta)(hs:starEach [a] X.env=[(false,eval a X.env)]) :
  PI X (.Tuple es kk tp) (.Call (.Name "enumerate" p) [a] [] pos) (Aw X.K ta):=by
 intro pins s σ H R I h;refine Call_ (dQ I hg hm boot_enumerate (PyProof.Rows.callWith_type1 (bx (ha pos pins s σ H _ I h) λus s1 ⟨vs,H1,I1,r1,q1⟩=>?_) hs rfl));obtain⟨l,e,⟨xs,hq⟩,q⟩:=q1;subst e;obtain⟨u,rfl,rx⟩:=eO r1;cases rx;obtain⟨its,rv,pl,hz⟩:=I1.tuple hq;refine oz (show s1.heap.IsTuple l its.toArray from pl) λh' he hit hk=>?_;refine wpAny_pyIter_enum (s:={ s1 with heap:=h' }) he ?_;have I2:Inv X pins σ H1 { s1 with heap:=h' }:=I1.kept (t':=s1.toks) hk;refine⟨s1.heap.objs.size+1,[s1.heap.objs.size+1,s1.heap.objs.size],_,_,H1,rfl,I2,oA l _ _ (Lm (Ly _)),⟨⟨_,he⟩,hit⟩,λb hb=>?_,q⟩
 have hb':s1.heap.objs.size<=b:=by
  rcases Kn.mp hb with rfl|hb
  ·exact LA _
  ·have:b=s1.heap.objs.size:=by simpa using hb
   rw[this];exact Ki _
 exact I1.fpOk hb' (I1.hok.fresh hb')
end
end G
namespace G
open PySem PySem.Spec PyProof.Rows L2
noncomputable def GS(K:Ka)(a b:Addr):It:=
 ⟨λi H=>∃xs ys x y,SqL K H a xs/\SqL K H b ys/\xs[i]?=some x/\ys[i]?=some y,λi H x H'=>∃p v u,H p=none/\H'=upd H p (.tup [v,u])/\x=.ref p/\(∀xs,SqL K H a xs->xs[i]?=some v)/\∀ys,SqL K H b ys->ys[i]?=some u,
  λi H=>∃xs ys,SqL K H a xs/\SqL K H b ys/\(xs.length<=i\/ys.length<=i)⟩
theorem k6{h:Heap}{z TI TO i1 i2 l a b:Addr}{us:Array Value}{x y:Value}{i j:Nat}(hl:h.IsList l us)(hz:IsZip h z TI TO .none)(hTI:IsPair h TI (.ref i1) (.ref i2))(hTO:IsPair h TO x y)(h1:h.IsListIter i1 a i)(h2:h.IsListIter i2 b j):∀c∈[z,TI,TO,i1,i2],l≠c:=λc hc e=>by
 subst e;obtain⟨o,q,q1,_⟩:=hl;simp only[Kn,K1,or_false] at hc;rcases hc with rfl|rfl|rfl|rfl|rfl
 ·rw[hz] at q;cases q;exact absurd (show Value.type "zip" = .type "list" from q1) (by decide)
 ·rw[hTI] at q;cases q;exact absurd (show Value.type "tuple" = .type "list" from q1) (by decide)
 ·rw[hTO] at q;cases q;exact absurd (show Value.type "tuple" = .type "list" from q1) (by decide)
 ·obtain⟨o2,r,r1,_⟩:=h1;rw[r] at q;cases q;rw[r1] at q1;exact absurd q1 (by decide)
 ·obtain⟨o2,r,r1,_⟩:=h2;rw[r] at q;cases q;rw[r1] at q1;exact absurd q1 (by decide)
theorem yZ{h:Heap}{z TI TO i1 i2 a b:Addr}{us vs:Array Value}{x y:Value}{i j:Nat}(nd:[z,TI,TO,i1,i2].Nodup)(hl:h.IsList a us)(hl2:h.IsList b vs)(hz:IsZip h z TI TO .none)(hTI:IsPair h TI (.ref i1) (.ref i2))(hTO:IsPair h TO x y)(h1:h.IsListIter i1 a i)(h2:h.IsListIter i2 b j):ZipApart z TI TO i1 i2 a b:=by
 have n1:=k6 hl hz hTI hTO h1 h2;have n2:=k6 hl2 hz hTI hTO h1 h2;simp only[KR,Kn,K1,or_false,not_or,List.nodup_nil,and_true,not_false_iff] at nd;obtain⟨⟨a1,a2,a3,a4⟩,⟨b1,b2,b3⟩,⟨c1,c2⟩,d1⟩:=nd;exact⟨Ne.symm a1,Ne.symm a2,Ne.symm a3,Ne.symm a4,b1,b2,b3,c1,c2,d1,n1 _ (by simp),n1 _ (by simp),n1 _ (by simp),n1 _ (by simp),n2 _ (by simp),n2 _ (by simp),n2 _ (by simp),n2 _ (by simp)⟩
theorem tT{P:Program}{w:World}{K:Ka}{es:List Expr}{kk:Nat}{tp:Pos}(a b z TI TO i1 i2:Addr)(nd:[z,TI,TO,i1,i2].Nodup):mI P w K (.Tuple es kk tp) (GS K a b) [z,TI,TO,i1,i2] z (λi h=>IsZip h z TI TO .none/\IsPair h TI (.ref i1) (.ref i2)/\(∃x y,IsPair h TO x y)/\h.IsListIter i1 a i/\h.IsListIter i2 b i) where
 mem:=by simp
 obj:=λi h st c hc=>by
  obtain⟨h1,h2,⟨x,y,h3⟩,⟨o4,h4,h5,h6⟩,o7,h7,h8,h9⟩:=st;simp only[Kn,K1,or_false] at hc;rcases hc with rfl|rfl|rfl|rfl|rfl
  ·exact⟨_,h1,λv z=>by
    have z':Data.fields _=Data.cell v:=z;cases z'⟩
  ·exact⟨_,h2,λv z=>by
    have z':Data.seq _ _=Data.cell v:=z;cases z'⟩
  ·exact⟨_,h3,λv z=>by
    have z':Data.seq _ _=Data.cell v:=z;cases z'⟩
  ·exact⟨o4,h4,λv z=>by rw[h6] at z;cases z⟩
  ·exact⟨o7,h7,λv z=>by rw[h9] at z;cases z⟩
 keep:=λi h h' st k=>by
  obtain⟨h1,h2,⟨x,y,h3⟩,h4,h5⟩:=st;exact⟨k z (by simp) _ h1,k TI (by simp) _ h2,⟨x,y,k TO (by simp) _ h3⟩,h4.at λo q=>k i1 (by simp) o q,h5.at λo q=>k i2 (by simp) o q⟩
 item:=by
  intro X hP hw hK hc i pins s σ H E I hf st hg;subst hP hw hK;obtain⟨hz,hTI,⟨x0,y0,hTO⟩,hi1,hi2⟩:=st;obtain⟨xs,ys,x,y,hq,hq2,hx,hy⟩:=hg;obtain⟨its,rv,p,hsz⟩:=I.list hq;obtain⟨its2,rv2,p2,hsz2⟩:=I.list hq2;obtain⟨u,hu,ru⟩:=rv.get hx;obtain⟨u2,hu2,ru2⟩:=rv2.get hy;have un:∀c∈[z,TI,TO,i1,i2],H c=none:=λc hc=>(hf c hc).1;have D:=yZ nd p.isList p2.isList hz hTI hTO hi1 hi2
  have hlt:∀c∈[z,TI,TO,i1,i2],c<s.heap.objs.size:=λc hc=>by
   simp only[Kn,K1,or_false] at hc;rcases hc with rfl|rfl|rfl|rfl|rfl
   ·exact Kl hz
   ·exact Kl hTI
   ·exact Kl hTO
   ·obtain⟨o,q,_⟩:=hi1;exact Kl q
   ·obtain⟨o,q,_⟩:=hi2;exact Kl q
  refine wpAny_pyNext_zip_item D hz hTI hTO hi1 hi2 p.isList p2.isList (x:=u) (y:=u2) (by simpa using hu) (by simpa using hu2) λh1 hz1 hTO1 hi11 hi21 ht hs1 kk1=>?_;refine⟨_,rfl,wpAny_letOwnedTupleGo_zip hz1 λh2 hz2 sb2=>?_⟩;have sb2':Heap.SameBut z h1 h2:=sb2
  have step1:∀c o,c∉[z,TI,TO,i1,i2]->s.heap.get? c=some o->h2.get? c=some o:=λc o n q=>
   (sb2'.2 c (λe=>n (by simp[e]))).trans (kk1 c o (λe=>n (by simp[e])) (λe=>n (by simp[e])) (λe=>n (by simp[e])) (λe=>n (by simp[e])) q)
  have fr:=I.hok.fresh (Ki s.heap.objs.size);have htup:h2.get? s.heap.objs.size=some { cls:=.type "tuple",data:=.seq #[u,u2] }:=(sb2'.2 _ (Lm (hlt z (by simp)))).trans ht
  have I1:Inv X pins σ (upd H s.heap.objs.size (.tup [x,y])) { s with heap:=h2 }:=by
   have nit:∀c o,H c=some o->c∉[z,TI,TO,i1,i2]:=λc o q hc=>by rw[un c hc] at q;cases q
   have hok':HOk X.prog X.w (upd H s.heap.objs.size (.tup [x,y])) h2:=λc o q=>by
    by_cases hb:c=s.heap.objs.size
    ·subst hb;rw[aG] at q;cases q;exact⟨(by show 2<=sizeLine;decide),[u,u2],.cons ru (.cons ru2 .nil),_,htup,rfl,_,rfl⟩
    ·rw[am hb] at q;refine(I.hok c o q).stay (λd v hc' q'=>step1 d v ?_ q') (λd q'=>by rw[am (av q' fr)];exact q') λd ys q'=>by rw[am (av q' fr)];exact q'
     rcases hc' with rfl|hc'
     ·exact nit _ _ q
     ·exact nit _ _ hc'
   refine I.step (g':=s.gens) (d':=s.drawn) (t':=s.toks) (ch:=[z,TI,TO,i1,i2]) (λc hc=>?_) (λc o _ _ hcx q _=>step1 c o hcx q)
    (λc o _ _ hcx q _=>⟨o.slots,step1 c o hcx q⟩) (λc o hcx q n=>by rw[am (KB (Kl q))];exact n)
    (λc o hcx q=>⟨o,step1 c o hcx q⟩) (λc ys q=>by rw[am (av q fr)];exact q) (λc o z q=>by rw[am (av q fr)];exact q)
    (λc ps q=>⟨#[],by rw[am (av q fr),q];simp⟩) (λm hm=>?_) hok' I.bare
   ·obtain⟨f0,f1,f2,f3,f4,f5⟩:=hf c hc;exact⟨f3,f1,f4,f5⟩
   ·obtain⟨o,es',ep,ho',r'⟩:=hm;exact⟨o,es',ep,step1 _ o (λhc=>(hf _ hc).2.1 rfl) ho',r'⟩
  refine⟨.ref s.heap.objs.size,_,I1,rfl,⟨s.heap.objs.size,x,y,fr,rfl,rfl,λzs hy=>by rw[I.list_inj hy hq];exact hx,λzs hz=>by rw[I.list_inj hz hq2];exact hy⟩,⟨hz2,?_,⟨u,u2,(sb2'.2 TO D.TOz).trans hTO1⟩,hi11.extBut sb2'.extBut D.i1z,hi21.extBut sb2'.extBut D.i2z⟩,λc hc=>?_⟩
  ·exact(sb2'.2 TI D.TIz).trans (kk1 TI _ D.TIz D.TITO D.TIi1 D.TIi2 hTI)
  ·rw[am (KB (hlt c hc))];exact un c hc
 done:=by
  intro X hP hw hK hc i pins s σ H E I hf st hg;subst hP hw hK;obtain⟨hz,hTI,⟨x0,y0,hTO⟩,hi1,hi2⟩:=st;obtain⟨xs,ys,hq,hq2,hx⟩:=hg;obtain⟨its,rv,p,hsz⟩:=I.list hq;obtain⟨its2,rv2,p2,hsz2⟩:=I.list hq2;have D:=yZ nd p.isList p2.isList hz hTI hTO hi1 hi2;have l1:=rv.length;have l2:=rv2.length;refine wpAny_pyNext_zip_end (I.ok.hd hc) D hz hTI hTO hi1 hi2 p.isList p2.isList (hx.imp (λh=>by simp;lia) λh=>by simp;lia) λh' kk=>⟨rfl,?_⟩;have un:∀c∈[z,TI,TO,i1,i2],H c=none:=λc hc=>(hf c hc).1
  have step1:∀c o,c∉[z,TI,TO,i1,i2]->s.heap.get? c=some o->h'.get? c=some o:=λc o n q=>
   kk c o (λe=>n (by simp[e])) (λe=>n (by simp[e])) (λe=>n (by simp[e])) (λe=>n (by simp[e])) q
  have nit:∀c o,H c=some o->c∉[z,TI,TO,i1,i2]:=λc o q hc=>by rw[un c hc] at q;cases q
  refine I.step (g':=s.gens) (d':=s.drawn) (t':=s.toks) (ch:=[z,TI,TO,i1,i2]) (λc hc=>?_) (λc o _ _ hcx q _=>step1 c o hcx q)
   (λc o _ _ hcx q _=>⟨o.slots,step1 c o hcx q⟩) (λ_ _ _ _ n=>n)
   (λc o hcx q=>⟨o,step1 c o hcx q⟩) (λ_ _ q=>q) (λ_ _ _ q=>q)
   (λc ps q=>⟨#[],by rw[q];simp⟩) (λm hm=>?_) (λc o q=>?_) I.bare
  ·obtain⟨f0,f1,f2,f3,f4,f5⟩:=hf c hc;exact⟨f3,f1,f4,f5⟩
  ·obtain⟨o,es',ep,ho',r'⟩:=hm;exact⟨o,es',ep,step1 _ o (λhc=>(hf _ hc).2.1 rfl) ho',r'⟩
  ·refine(I.hok c o q).stay (λd v hc' q'=>step1 d v ?_ q') (λd q'=>q') λd ys q'=>q';rcases hc' with rfl|hc'
   ·exact nit _ _ q
   ·exact nit _ _ hc'
 self:=λ_ _ _ _ _ st h=>wpAny_pyIter_zip st.1 h
section
variable {X:Cx}
noncomputable def GU(K:Ka)(ta:TA):TI:=λσ H R=>ta σ H λvs H1=>∃a b,vs=[.ref a,.ref b]/\(∃xs,SqL K H1 a xs)/\(∃ys,SqL K H1 b ys)/\R (GS K a b) H1
theorem Ax{a b:Expr}{kk:Nat}(hg:Gl X "zip")(hm:X.mg "zip" = none)(ha:PA X [a,b] ta)(hs:starEach [a,b] X.env=[(false,eval a X.env),(false,eval b X.env)])(hs2:starEach [b] X.env=[(false,eval b X.env)]) :
  PI X (.Tuple es kk tp) (.Call (.Name "zip" p) [a,b] [] pos) (GU X.K ta):=by
 intro pins s σ H R I h;refine Call_ (dQ I hg hm boot_zip (PyProof.Rows.callWith_type1 (bx (ha pos pins s σ H _ I h) λus s1 ⟨vs,H1,I1,r1,q1⟩=>?_) (by rw[hs,hs2]) (by rw[hs2];rfl)));obtain⟨l,l2,e,⟨xs,hq⟩,⟨ys,hq2⟩,q⟩:=q1;subst e
 cases r1 with
 |cons rx r1=>cases r1 with
  |cons ry r1=>
   cases r1;cases rx;cases ry;obtain⟨its,rv,pl,hz⟩:=I1.list hq;obtain⟨its2,rv2,pl2,hz2⟩:=I1.list hq2;refine call_zip_2 pl.isList pl2.isList λh' he hti hto hi1 hi2 hsz hk=>?_;refine wpAny_pyIter_zip (s:={ s1 with heap:=h' }) he ?_;have I2:Inv X pins σ H1 { s1 with heap:=h' }:=I1.kept (t':=s1.toks) hk
   refine⟨s1.heap.objs.size+4,[s1.heap.objs.size+4,s1.heap.objs.size+2,s1.heap.objs.size+3,s1.heap.objs.size,s1.heap.objs.size+1],_,_,H1,rfl,I2,tT l l2 _ _ _ _ _ (by simp<;>lia),⟨he,hti,⟨_,_,hto⟩,hi1,hi2⟩,λc hb=>?_,q⟩
   have hb':s1.heap.objs.size<=c:=by
    simp only[Kn,K1,or_false] at hb;rcases hb with rfl|rfl|rfl|rfl|rfl
    ·exact Ln _ _
    ·exact Ln _ _
    ·exact Ln _ _
    ·exact Ki _
    ·exact Ln _ _
   exact I1.fpOk hb' (I1.hok.fresh hb')
end
end G
namespace G
open PySem PySem.Spec PyProof.Rows L2
section
variable {X:Cx}
end
end G
namespace G
open PySem PySem.Spec PyProof.Rows L2
end G
namespace G
open PySem PySem.Spec PyProof.Rows L2
section
variable {X:Cx}
end
end G
namespace G
open PySem PySem.Spec PyProof.Rows L2
section
variable {X:Cx}
noncomputable def Dp(ta:TA):TE:=λσ H Q=>ta σ H λvs H1=>∃j:Int,vs=[.int j]/\0<=j/\j<=100000/\∀l,H1 l=none->Q (.ref l) (upd H1 l (.lst ((Kh j.toNat).map λ(i:Nat)=>V.int (i:Int))))
theorem wQ{a:Expr}(hc:X.calm=true)(hg:Gl X "list")(hm:X.mg "list" = none)(hg2:Gl X "range")(hm2:X.mg "range" = none)(ha:PA X [a] ta)(hs:starEach [a] X.env=[(false,eval a X.env)])(hs2:starEach [.Call (.Name "range" p2) [a] [] pos2] X.env=[(false,eval (.Call (.Name "range" p2) [a] [] pos2) X.env)]:=by rfl) :
  PE X (.Call (.Name "list" p) [.Call (.Name "range" p2) [a] [] pos2] [] pos) (Dp ta):=by
 intro pins s σ H Q I h;refine Call_ (dQ I hg hm boot_list (PyProof.Rows.callWith_type1 ?_ hs2 rfl));rw[hs2];refine Calls.spliced_cons ?_;refine Call_ (dQ I hg2 hm2 boot_range (PyProof.Rows.callWith_type1 (bx (ha pos2 pins s σ H _ I h) λus s1 ⟨vs,H1,I1,r1,j,e,h0,h1,q⟩=>?_) hs rfl));subst e;obtain⟨u,rfl,ru⟩:=r1.one;obtain⟨t,rfl⟩:=ru;refine call_range_1 (Calls.spliced_nil ?_);have hh:X.A.handled=none:=I.ok.hd hc
 refine call_list_range (n:=j.toNat) hh (IsRange.new ..) (small_one (by decide) (by decide) (by lia) (by lia)) (by rw[rangeSize_one];split<;>lia) (by lia) λh' tk acc' c' kp new its=>?_
 have key:Vals ((Kh j.toNat).map λ(i:Nat)=>V.int (i:Int)) acc'.toList:=by
  have all:∀(n:Nat) (l:List Value),l.length=n->(∀(i:Nat) v,l[i]?=some v->∃t,v=.int ((i:Int)) t)->Vals ((Kh n).map λ(i:Nat)=>V.int (i:Int)) l:=by
   intro n
   induction n with
   |zero=>intro l hl _;rw[L5.mp hl];exact .nil
   |succ n ih=>
    intro l hl hv;have hne:l≠[]:=λz=>by rw[z] at hl;simp at hl
    rw[<- List.dropLast_concat_getLast hne,L9,Kq];refine(ih _ (by rw[List.length_dropLast];lia) λi v hi=>hv i v ?_).append (.cons ?_ .nil)
    ·rw[List.getElem?_dropLast] at hi;split at hi
     ·exact hi
     ·cases hi
    ·obtain⟨t,e⟩:=hv n (l.getLast hne) (by rw[List.getLast_eq_getElem];rw[Kg (by lia)];congr 1;simp only[hl];rfl);exact⟨t,e⟩
  refine all _ _ (by rw[LP];exact its.1) λi v hv=>?_;obtain⟨t,e⟩:=its.2 i v (by simpa using hv);exact⟨t,by rw[e];congr 1;lia⟩
 have hle:s1.heap.objs.size<=(s1.heap.push { cls:=.type "range",data:=.fields #[.int 0 s1.toks,.int j t,.int 1 (s1.toks+1)] }).objs.size:=by
  rw[LG];exact LA _
 have ok:ObjOk X.prog X.w (upd H1 (s1.heap.push { cls:=.type "range",data:=.fields #[.int 0 s1.toks,.int j t,.int 1 (s1.toks+1)] }).objs.size (.lst ((Kh j.toNat).map λ(i:Nat)=>V.int (i:Int)))) h' (s1.heap.push { cls:=.type "range",data:=.fields #[.int 0 s1.toks,.int j t,.int 1 (s1.toks+1)] }).objs.size (.lst ((Kh j.toNat).map λ(i:Nat)=>V.int (i:Int))):=
  ⟨by rw[Kc,Kx,sizeLine_eq];lia,acc'.toList,c',key,by simpa using new⟩
 exact⟨.ref (s1.heap.push { cls:=.type "range",data:=.fields #[.int 0 s1.toks,.int j t,.int 1 (s1.toks+1)] }).objs.size,_,I1.laid (t':=tk) (λb o e=>kp b o (Kj _ e)) hle ok,rfl,q _ (I1.hok.fresh hle)⟩
end
end G
namespace L2
open PySem PySem.Spec PyProof.Rows
section
variable {X:Cx} {pins:List (Addr×Obj)} {σ:St} {H:Hp} {s:Shared}
noncomputable def ib(wi:TI)(g:TG)(tt:TT)(te:TE)(cap:List (Option Nat)):TE:=λσ H Q=>wi σ H λJ H1=>∀D,H1 D=none->∃W:Nat->Nat->St->Hp->Prop,(∃m,W 0 m (dJ σ cap) (upd H1 D (.lst [])))/\∀i m σ' H',W i m σ' H'->
 (J.stop i H'/\Q (.ref D) H')\/(J.go i H'/\∀x H2,J.yld i H' x H2->g x σ' H2 λσ2 H3=>tt σ2 H3 λok H3=>if ok=true then te σ2 H3 λy H4=>∃ys,H4 D=some (.lst ys)/\ys.length<sizeLine/\∃m',m'<m/\W (i+1) m' σ2 (upd H4 D (.lst (ys++[y]))) else ∃m',m'<m/\W (i+1) m' σ2 H3)
noncomputable def Cw(X:Cx)(ifs:List Expr)(tt:TT):Prop:=∀(pins:List (Addr×Obj)) (s:Shared) (σ:St) (H:Hp) (Q:Bool->Hp->Prop),Inv X pins σ H s->tt σ H Q->
 wpAny (model X.prog X.w) X.A (forIn ifs true λc r=>if r=true then do let ok <- isTrue c X.env (eval c X.env);pure (ForInStep.yield ok) else pure (ForInStep.yield r)) (TP X pins σ Q) X.xe s
theorem p5:Cw X [] (λ_ H Q=>Q true H):=λpins s σ H Q I h=>wpAny_tests_nil ⟨H,I,h⟩
theorem p6{c:Expr}(h:PT X c t):Cw X [c] t:=λpins s σ H Q I q=>wpAny_tests_one (h pins s σ H Q I q)
theorem k7(hc:X.calm=true)(O:jB X N' scope cap)(hi:PI X tg iter wi)(hg:∀C s H ex,PG (aQ X N' scope C s H ex) tg g)(ht:∀C s H ex,Cw (aQ X N' scope C s H ex) ifs tt)(he:∀C s H ex,PE (aQ X N' scope C s H ex) elt te){Q:VK}(I:Inv X pins σ H s)(h:ib wi g tt te cap σ H Q)(hs:∀x,foldedSetIterable iter X.env x=pure x)(hX:X.xe=E)(hQ:∀(C D:Addr) (s1:Shared) (H1:Hp) (fp:List Addr) (σ':St) (H':Hp) (s':Shared),Inv X pins σ H1 s1->(∀b∈fp,jp X pins H1 b)->Inv (aQ X N' scope C s1 H1 fp) [] σ' H' s'->Q (.ref D) H'->
   compPost (model X.prog X.w) X.A E use Q' (.ref D) C (.ok .next) s') :
  wpAny (model X.prog X.w) X.A (comprehension (.ListComp elt [⟨tg,iter,ifs,0⟩] scope pos) scope X.env cpos (newList []) false (eval iter X.env) use) Q' E s:=by
 have hcl:closureFor scope X.env=pure (fS X.env.cells scope.names []):=kC λy hy e=>I.ok.has _ (O.free y hy e);refine wpAny_comprehension_free (g:=⟨tg,iter,ifs,0⟩) (gs:=[]) rfl hs hcl O.kind O.names ?_;subst hX;refine bx (hi pins s σ H _ I h) λv s1 h1=>bx h1 λitv s2 h2=>?_;obtain⟨it,fp,tn,J,H2,e,I2,T,st2,f2,hW⟩:=h2;subst e;refine wpAny_newObj_type (kE ?_);dsimp only;generalize hH2:s2.heap.push { cls:=.type "list",dict:=none,data:=.seq ([]:List Value).toArray }=HH;have hCs:HH.objs.size=s2.heap.objs.size+1:=by rw[<- hH2,LG]
 have hDC:s2.heap.objs.size<HH.objs.size:=by rw[hCs];exact Ly _
 generalize hh1:pushCells (HH.push { cls:=.type "dict",data:=.dict #[] }) scope.names=h₁;have kp:∀b o,HH.get? b=some o->h₁.get? b=some o:=λb o e=>hh1▸pushCells_keeps _ _ b o (Kj _ e);have hns₁:h₁.Ns HH.objs.size λ_=>none:=hh1▸(Heap.Ns.new HH (.type "dict")).keeps (pushCells_keeps _ _)
 have hcs:∀x c,(cellsFrom (HH.objs.size+1) scope.names []).lookup x=some c->h₁.IsCell c none:=λx c e=>by
  have ok:=cellsFrom_ok scope.names (HH.push { cls:=.type "dict",data:=.dict #[] }) 0 [] ⟨λ_ _ hm=>(nomatch hm),List.Pairwise.nil⟩ (KJ _)
  rw[LG] at ok;exact hh1▸(ok.empty x c (cv e)).1
 have old:∀b o,s2.heap.get? b=some o->h₁.get? b=some o:=λb o e=>kp b o (hH2▸Kj _ e);have new:h₁.get? s2.heap.objs.size=some { cls:=.type "list",data:=.seq ([]:List Value).toArray }:=kp _ _ (hH2▸Ku _ rfl);have hfo:∀b∈fp,b<s2.heap.objs.size:=λb hb=>let ⟨o,e,_⟩:=T.obj 0 _ st2 b hb;Kl e;have hfree:=I2.hok.fresh (Ki s2.heap.objs.size);obtain⟨W,⟨m0,w0⟩,turn⟩:=hW s2.heap.objs.size hfree;have J0:=tQ (tk:=s2.toks) I2 O f2 hfo (C:=HH.objs.size) (D:=s2.heap.objs.size) (by rw[hCs];exact LA _) (Ki _) hDC hcs hns₁ old new;have st0:tn 0 h₁:=T.keep 0 _ _ st2 λb _ o e=>old b o e
 have fr0:∀b∈fp,(upd H2 s2.heap.objs.size (.lst [])) b=none:=λb hb=>by
  rw[am (KB (hfo b hb))];exact(f2 b hb).1
 have stat:∀{H':Hp},(∀b∈fp,H' b=none)->∀b∈fp,jp (aQ X N' scope HH.objs.size s2 H2 fp) [] H' b:=λhn b hb=>
  ⟨hn b hb,(J0.ok.exf b hb).1,J0.ok.exfs b hb,.inl hb,(J0.ok.exf b hb).2,λp hp=>absurd hp (by simp[aQ])⟩
 have loop:codeAny (model X.prog X.w) X.A (.compLoop (.ListComp elt [⟨tg,iter,ifs,0⟩] scope pos) 0 (.ref it) (.ref s2.heap.objs.size) (compEnvC scope (Cv X.env.cells scope.names HH.objs.size) HH.objs.size X.env))
   (compPost (model X.prog X.w) X.A X.xe use Q' (.ref s2.heap.objs.size) HH.objs.size) { s2 with heap:=h₁,toks:=s2.toks }:=by
  refine lU (λn s'=>∃i σ' H',Inv (aQ X N' scope HH.objs.size s2 H2 fp) [] σ' H' s'/\tn i s'.heap/\(∀b∈fp,H' b=none)/\W i n σ' H') ?_ m0 ⟨0,_,_,J0,st0,fr0,w0⟩
  rintro n s3 ⟨i,σ3,H3,I3,st3,fr3,w3⟩
  rcases turn i n σ3 H3 w3 with⟨stop,qn⟩|⟨go,step⟩
  ·refine bx (T.done (aQ X N' scope HH.objs.size s2 H2 fp) rfl rfl rfl hc i [] s3 σ3 H3 _ I3 (stat fr3) st3 stop) λr s4 ⟨hr,I4⟩=>?_;subst hr;exact hQ _ _ s2 H2 fp σ3 H3 s4 I2 f2 I4 qn
  ·refine bx (T.item (aQ X N' scope HH.objs.size s2 H2 fp) rfl rfl rfl hc i [] s3 σ3 H3 _ I3 (stat fr3) st3 go) λr s4 ⟨u,hr,h4⟩=>?_;subst hr;refine bx h4 λ_ s5 ⟨x,H5,I5,r5,y5,st5,fr5⟩=>?_;have I5':=I5.pinned (stat fr5) (T.obj _ _ st5);refine bx (hg _ _ _ _ _ s5 σ3 H5 x u _ I5' r5 (step x H5 y5)) λ_ s6 ⟨σ6,H6,I6,q6⟩=>?_;refine bx (ht _ _ _ _ _ s6 σ6 H6 _ I6 q6) λok s6' ⟨H6',I6',q6'⟩=>?_
   cases ok with
   |false=>
    rw[if_neg K4] at q6'⊢;obtain⟨m',hm,w7⟩:=q6';refine⟨m',hm,i+1,σ6,_,I6'.unpinned,T.keep _ _ _ st5 λb hb o e=>(I6'.pin (b,o) (Ky _ (Ky _ (cu hb e)))).1,λb hb=>?_,w7⟩;obtain⟨o,e,d⟩:=T.obj _ _ st5 b hb;exact(I6'.pin (b,o) (Ky _ (Ky _ (cu hb e)))).2.1
   |true=>
   rw[if_pos rfl] at q6'⊢;refine bx (he _ _ _ _ _ s6' σ6 H6' _ I6' q6') λyv s7 ⟨y,H7,I7,r7,ys,hD,hz,m',hm,w7⟩=>?_;refine bx (kY _ s7 σ6 H7 (.ref s2.heap.objs.size) [y] (.ref s2.heap.objs.size) [yv] (λv H'=>v=.non/\H'=upd H7 s2.heap.objs.size (.lst (ys++[y]))) I7 rfl (.cons r7 .nil) ⟨_,ys,y,rfl,rfl,hD,hz,rfl,rfl⟩) λ_ s8 ⟨_,H8,I8,_,_,e8⟩=>?_;subst e8;refine⟨m',hm,i+1,σ6,_,I8.unpinned,T.keep _ _ _ st5 λb hb o e=>(I8.pin (b,o) (Ky _ (Ky _ (cu hb e)))).1,λb hb=>?_,w7⟩;obtain⟨o,e,d⟩:=T.obj _ _ st5 b hb;exact(I8.pin (b,o) (Ky _ (Ky _ (cu hb e)))).2.1
 exact codeAny_compStart_list loop (T.self _ 0 _ _ _ st0 loop)
theorem mY(hc:X.calm=true)(O:jB X N' scope cap)(hi:PI X tg iter wi)(hg:∀C s H ex,PG (aQ X N' scope C s H ex) tg g)(ht:∀C s H ex,Cw (aQ X N' scope C s H ex) ifs tt)(he:∀C s H ex,PE (aQ X N' scope C s H ex) elt te)(hs:∀x,foldedSetIterable iter X.env x=pure x:=by intro _;rfl):PE X (.ListComp elt [⟨tg,iter,ifs,0⟩] scope pos) (ib wi g tt te cap):=by
 intro pins s σ H Q I h;rw[eval_ListComp];refine k7 (use:=none) (Q':=EP X pins σ Q) hc O hi hg ht he I h hs rfl λC D s1 H1 fp σ' H' s' I1 f1 J q=>?_;obtain⟨m,hn,_⟩:=J.loc;exact⟨m,hn,λh' hsb=>⟨.ref D,H',mX I1 f1 J hsb,rfl,q⟩⟩
theorem tU{cpos pos' pos:Pos}{i:Nat}{x:Str}(hc:X.calm=true)(O:jB X N' scope cap)(hi:PI X tg iter wi)(hg:∀C s H ex,PG (aQ X N' scope C s H ex) tg g)(ht:∀C s H ex,Cw (aQ X N' scope C s H ex) ifs tt)(he:∀C s H ex,PE (aQ X N' scope C s H ex) elt te)(hs:∀x,foldedSetIterable iter X.env x=pure x)(hN:X.N.Nodup)(hix:X.N[i]?=some x)(hx:zK X.env.scope x)(hf:X.fn x=true\/X.env.scope.names.lookup x=some .local)(hsw:swapsWith (.ListComp elt [⟨tg,iter,ifs,0⟩] scope cpos) (some (.Name x pos')) pos.line X.env=pure true) :
  PS X (.Assign [.Name x pos'] (.ListComp elt [⟨tg,iter,ifs,0⟩] scope cpos) pos) (zW (ib wi g tt te cap) (jo i)):=by
 intro pins s σ H D I h;rw[exec_Assign_Name_used _ _ _ _ hsw];refine wpAny_bind (wpAny_standAt (wpAny_bind ?_));show wpAny _ _ (do let _ <- comprehension (.ListComp elt [⟨tg,iter,ifs,0⟩] scope cpos) scope X.env _ (newList []) false (eval iter X.env) (some (assign (.Name x pos') X.env))) _ _ s;refine wpAny_bind (wpAny_mono (k7 (use:=some (assign (.Name x pos') X.env)) (Q':=λ_ s'=>∃σ' H',Inv X pins σ' H' s'/\D.nx σ' H') hc O hi hg ht he I h hs rfl λC D1 s1 H1 fp σ' H' s' I1 f1 J q=>?_) (λ_ s' hq=>wpAny_pure (wpAny_pure hq)) λ_ _ e=>e);show wpAny _ _ (assign (.Name x pos') X.env (.ref D1)) _ _ s';have I2:Inv X pins σ H' s':=mX I1 f1 J (Heap.SameBut.refl C s'.heap);have hC:s1.heap.objs.size<=C:=J.ok.above;have old:∀b o,s1.heap.get? b=some o->b≠C:=λb o e=>KB (Km (Kl e) hC);obtain⟨m1,⟨oL,_,_,gL,_⟩,_⟩:=id I1.loc;have hL:X.env.locals≠C:=old _ _ gL
 have hcl:∀x c,X.env.cells.lookup x=some c->c≠C:=λx c e=>by
  obtain⟨v,o,g,_⟩:=I1.cell x c e;exact old _ _ g
 have hpn:∀p∈X.pn++pins,p.1≠C:=λp hp=>old _ _ (I1.pin p hp).1
 have h0:X.s₀.heap.objs.size<=C:=by
  refine KF ?_ hC;exact L1 (Li I1.ok.above (Kl gL))
 obtain⟨m,hn,_⟩:=J.loc;refine wpAny_assign_Name (kP I2 hN hix hx (v:=.ref D1) rfl (λs3 I3 hsb=>?_) hf);obtain⟨a,hsb,ha⟩:=hsb
 have hCa:C≠a:=by
  rcases ha with rfl|ha
  ·exact Ne.symm hL
  ·exact Ne.symm (hcl _ _ ha)
 exact⟨m,hn.sameBut hsb hCa,λh' hs'=>⟨_,H',I3.junk hs' h0 hL hcl hpn J.free,q⟩⟩
end
end L2
namespace J
open PySem PySem.Spec PyProof.Rows L2
noncomputable abbrev DK:=aI ⊕ List (aI ⊕ List aI)
inductive Hd where
 |lst|tup|dic (t:Nat) (ks:List DK)|obj (c:Str) (ns:List Str)
 deriving DecidableEq
inductive D where
 |non|bl (b:Bool)|int (i:Int)|str (x:Str)|scr (ns:List Int)|nd (h:Hd) (ds:List D)
noncomputable abbrev D.lst(ds:List D):D:=.nd .lst ds
noncomputable abbrev D.tup(ds:List D):D:=.nd .tup ds
noncomputable abbrev D.dic(t:Nat)(ks:List DK)(ds:List D):D:=.nd (.dic t ks) ds
noncomputable abbrev D.obj(c:Str)(ns:List Str)(ds:List D):D:=.nd (.obj c ns) ds
noncomputable def Hd.mu:Hd->Bool
 |.tup=>false
 |_=>true
noncomputable def Dm(K:Ka)(a:Addr)(xs:List V):Prop:=
 ∃(o:Obj) (its:Array Value) (n:Nat),K.lookup a=some o/\o.cls=.type "list"/\o.dict=none/\o.data=.seq its n/\its.size<=sizeLine/\Vals xs its.toList
noncomputable def eL(K:Ka)(o:HO):Hd->List V->Prop
 |.lst,xs=>o=.lst xs
 |.tup,xs=>o=.tup xs
 |.dic t ks,xs=>(t=0/\∃kvs:List (aI×V),o=.dK kvs/\ks=kvs.map (λp=>Sum.inl p.1)/\xs=kvs.map (·.2))\/(∃m,t=m+1/\∃(kvs:List (List (aI ⊕ List aI)×V)) (ep:Nat),o=.dT m ep kvs/\ks=kvs.map (λp=>Sum.inr p.1)/\xs=kvs.map (·.2))
 |.obj c ns,xs=>∃C dx,LL K mainGlobals c=some (some (.ref C))/\(Cls K C/\∀f∈ns,lK K C f)/\o=.ins C dx (ns.zip xs)/\ns.length=xs.length
noncomputable abbrev Pr:=Addr->Prop
mutual
noncomputable def Rp(K:Ka)(H:Hp)(S:Pr):D->V->Prop
 |.non,v=>v=.non
 |.bl b,v=>v=.bl b
 |.int i,v=>v=.int i
 |.str x,v=>v=.str x
 |.scr ns,v=>∃a,v=.ref a/\((¬S a/\Rd H a (.lst (ns.map V.int)))\/Dm K a (ns.map V.int))
 |.nd h ds,v=>∃a o xs,v=.ref a/\¬S a/\H a=some o/\eL K o h xs/\RpL K H S ds xs
noncomputable def RpL(K:Ka)(H:Hp)(S:Pr):List D->List V->Prop
 |[],xs=>xs=[]
 |d::ds,xs=>∃y ys,xs=y::ys/\Rp K H S d y/\RpL K H S ds ys
end
section
variable {K:Ka} {H H':Hp} {S S':Pr}
mutual
theorem Rp.go(k:∀b o,¬S b->H b=some o->H' b=some o/\¬S' b):∀{d:D} {v:V},Rp K H S d v->Rp K H' S' d v
 |.non,_,h=>h
 |.bl _,_,h=>h
 |.int _,_,h=>h
 |.str _,_,h=>h
 |.scr ns,v,h=>by
  unfold Rp at h⊢;obtain⟨a,e,h⟩:=h;refine⟨a,e,?_⟩;rcases h with⟨n,g|⟨o,g⟩⟩|h
  ·exact .inl ⟨(k _ _ n g).2,.inl (k _ _ n g).1⟩
  ·exact .inl ⟨(k _ _ n g).2,.inr ⟨o,(k _ _ n g).1⟩⟩
  ·exact .inr h
 |.nd hd ds,v,h=>by
  unfold Rp at h⊢;obtain⟨a,o,xs,e,n,g,q,r⟩:=h;exact⟨a,o,xs,e,(k _ _ n g).2,(k _ _ n g).1,q,RpL.go k r⟩
theorem RpL.go(k:∀b o,¬S b->H b=some o->H' b=some o/\¬S' b):∀{ds:List D} {vs:List V},RpL K H S ds vs->RpL K H' S' ds vs
 |[],_,h=>by unfold RpL at h⊢;exact h
 |d::ds,_,h=>by
  unfold RpL at h⊢;obtain⟨y,ys,e,r,t⟩:=h;exact⟨y,ys,e,Rp.go k r,RpL.go k t⟩
end
theorem Rp.same(s:Same H H'){d:D}{v:V}(h:Rp K H S d v):Rp K H' S d v:=h.go λb o n e=>⟨s b o e,n⟩
theorem RpL.same(s:Same H H'){d:List D}{v:List V}(h:RpL K H S d v):RpL K H' S d v:=h.go λb o n e=>⟨s b o e,n⟩
theorem Rp.weak(k:∀b,S' b->S b){d:D}{v:V}(h:Rp K H S d v):Rp K H S' d v:=h.go λb o n e=>⟨e,λz=>n (k b z)⟩
theorem RpL.weak(k:∀b,S' b->S b){d:List D}{v:List V}(h:RpL K H S d v):RpL K H S' d v:=h.go λb o n e=>⟨e,λz=>n (k b z)⟩
theorem RpL.len:∀{ds:List D} {vs:List V},RpL K H S ds vs->vs.length=ds.length
 |[],_,h=>by unfold RpL at h;rw[h];rfl
 |d::ds,_,h=>by
  unfold RpL at h;obtain⟨y,ys,rfl,_,t⟩:=h;rw[KS,KS,RpL.len t]
theorem RpL.nil:RpL K H S [] []:=by unfold RpL;rfl
theorem RpL.cons{d:D}{v:V}{ds:List D}{vs:List V}(h1:Rp K H S d v)(h2:RpL K H S ds vs):RpL K H S (d::ds) (v::vs):=by unfold RpL;exact⟨v,vs,rfl,h1,h2⟩
theorem RpL.nil_inv(h:RpL K H S [] vs):vs=[]:=by unfold RpL at h;exact h
theorem RpL.cons_inv(h:RpL K H S (d::ds) vs):∃y ys,vs=y::ys/\Rp K H S d y/\RpL K H S ds ys:=by unfold RpL at h;exact h
theorem RpL.getD:∀{ds:List D} {vs:List V} {i:Nat} {d:D},RpL K H S ds vs->ds[i]?=some d->∃v,vs[i]?=some v/\Rp K H S d v
 |[],_,_,_,_,e=>by simp at e
 |d::ds,_,0,d',h,e=>by obtain⟨y,ys,rfl,r,t⟩:=h.cons_inv;simp at e;subst e;exact⟨y,rfl,r⟩
 |d::ds,_,i+1,d',h,e=>by obtain⟨y,ys,rfl,r,t⟩:=h.cons_inv;simpa using RpL.getD t (by simpa using e)
theorem RpL.append:∀{ds es:List D} {vs us:List V},RpL K H S ds vs->RpL K H S es us->RpL K H S (ds++es) (vs++us)
 |[],_,_,_,h,g=>by rw[h.nil_inv];exact g
 |d::ds,_,_,_,h,g=>by obtain⟨y,ys,rfl,r,t⟩:=h.cons_inv;exact .cons r (RpL.append t g)
theorem RpL.take:∀{ds:List D} {vs:List V} (n:Nat),RpL K H S ds vs->RpL K H S (ds.take n) (vs.take n)
 |_,_,0,_=>by simpa using RpL.nil
 |[],_,_+1,h=>by rw[h.nil_inv];simpa using RpL.nil
 |d::ds,_,n+1,h=>by obtain⟨y,ys,rfl,r,t⟩:=h.cons_inv;exact .cons r (RpL.take n t)
theorem RpL.drop:∀{ds:List D} {vs:List V} (n:Nat),RpL K H S ds vs->RpL K H S (ds.drop n) (vs.drop n)
 |_,_,0,h=>h
 |[],_,_+1,h=>by rw[h.nil_inv];simpa using RpL.nil
 |d::ds,_,n+1,h=>by obtain⟨y,ys,rfl,r,t⟩:=h.cons_inv;exact RpL.drop n t
theorem RpL.reverse{ds:List D}{vs:List V}(h:RpL K H S ds vs):RpL K H S ds.reverse vs.reverse:=by
 induction ds generalizing vs with
 |nil=>rw[h.nil_inv];exact .nil
 |cons d ds ih=>obtain⟨y,ys,rfl,r,t⟩:=h.cons_inv;rw[LH,LH];exact(ih t).append (.cons r .nil)
theorem RpL.ints:∀ns:List Int,RpL K H S (ns.map D.int) (ns.map V.int)
 |[]=>.nil
 |n::ns=>.cons (by unfold Rp;rfl) (RpL.ints ns)
theorem RpL.erase:∀{ds:List D} {vs:List V} (n:Nat),RpL K H S ds vs->RpL K H S (ds.eraseIdx n) (vs.eraseIdx n)
 |[],_,_,h=>by rw[h.nil_inv];simpa using RpL.nil
 |d::ds,_,0,h=>by obtain⟨y,ys,rfl,r,t⟩:=h.cons_inv;exact t
 |d::ds,_,n+1,h=>by obtain⟨y,ys,rfl,r,t⟩:=h.cons_inv;exact .cons r (RpL.erase n t)
end
mutual
noncomputable def oB:D->Bool
 |.nd h ds=>!h.mu&&wR ds
 |.scr _=>false
 |_=>true
noncomputable def wR:List D->Bool
 |[]=>true
 |d::ds=>oB d&&wR ds
end
noncomputable def MuOk(H:Hp)(S:Pr):Prop:=∀a,S a->∃o,H a=some o/\∀xs,o≠.tup xs
section
variable {K:Ka} {H:Hp} {S S':Pr}
mutual
theorem Rp.im(m:MuOk H S'):∀{d:D} {v:V},oB d=true->Rp K H S d v->Rp K H S' d v
 |.non,_,_,h=>h
 |.bl _,_,_,h=>h
 |.int _,_,_,h=>h
 |.str _,_,_,h=>h
 |.scr ns,v,i,h=>by simp[oB] at i
 |.nd hd ds,v,i,h=>by
  unfold Rp at h⊢;obtain⟨a,o,xs,e,n,g,q,r⟩:=h;rw[oB,Ke] at i;refine⟨a,o,xs,e,λz=>?_,g,q,RpL.im m i.2 r⟩;obtain⟨o',e',ne⟩:=m a z;rw[g] at e';cases e'
  cases hd with
  |tup=>exact ne _ q
  |_=>exact absurd i.1 (by simp[Hd.mu])
theorem RpL.im(m:MuOk H S'):∀{ds:List D} {vs:List V},wR ds=true->RpL K H S ds vs->RpL K H S' ds vs
 |[],_,_,h=>by unfold RpL at h⊢;exact h
 |d::ds,_,i,h=>by
  rw[wR,Ke] at i;obtain⟨y,ys,rfl,r,t⟩:=h.cons_inv;exact .cons (Rp.im m i.1 r) (RpL.im m i.2 t)
end
end
inductive Ow where
 |fz|own (es:List Ow) (r:Ow)
mutual
noncomputable def Tr(K:Ka)(H:Hp)(S:Pr):D->Ow->V->Pr->Prop
 |.nd h ds,.own es r,v,F=>∃a o xs F',v=.ref a/\H a=some o/\eL K o h xs/\(h.mu=true->¬F' a)/\(h.mu=false->¬S a)/\(∀b,F b↔(h.mu=true/\b=a)\/F' b)/\TrL K H S ds es r xs F'
 |d,_,v,F=>(∀b,¬F b)/\Rp K H S d v
noncomputable def TrL(K:Ka)(H:Hp)(S:Pr):List D->List Ow->Ow->List V->Pr->Prop
 |[],_,_,xs,F=>xs=[]/\∀b,¬F b
 |d::ds,es,r,xs,F=>∃y ys F1 F2,xs=y::ys/\(∀b,F b↔F1 b\/F2 b)/\(∀b,F1 b->¬F2 b)/\Tr K H S d (es.headD r) y F1/\TrL K H S ds es.tail r ys F2
end
section
variable {K:Ka} {H H':Hp} {S S':Pr}
mutual
theorem Tr.go:∀{d:D} {k:Ow} {v:V} {F:Pr},(∀b o,(¬S b\/F b)->H b=some o->H' b=some o)->(∀b o,H b=some o->¬S b->¬S' b)->Tr K H S d k v F->Tr K H' S' d k v F
 |.non,_,_,_,k1,k2,h=>by unfold Tr at h⊢;exact⟨h.1,h.2⟩
 |.bl _,_,_,_,k1,k2,h=>by unfold Tr at h⊢;exact⟨h.1,h.2⟩
 |.int _,_,_,_,k1,k2,h=>by unfold Tr at h⊢;exact⟨h.1,h.2⟩
 |.str _,_,_,_,k1,k2,h=>by unfold Tr at h⊢;exact⟨h.1,h.2⟩
 |.scr ns,_,_,_,k1,k2,h=>by unfold Tr at h⊢;exact⟨h.1,h.2.go λb o n e=>⟨k1 b o (.inl n) e,k2 b o e n⟩⟩
 |.nd hd ds,.fz,_,_,k1,k2,h=>by unfold Tr at h⊢;exact⟨h.1,h.2.go λb o n e=>⟨k1 b o (.inl n) e,k2 b o e n⟩⟩
 |.nd hd ds,.own es r,v,F,k1,k2,h=>by
  unfold Tr at h⊢;obtain⟨a,o,xs,F',e,g,q,n1,n2,hF,t⟩:=h
  have hg:H' a=some o:=by
   cases hm:hd.mu with
   |true=>exact k1 a o (.inr ((hF a).mpr (.inl ⟨hm,rfl⟩))) g
   |false=>exact k1 a o (.inl (n2 hm)) g
  refine⟨a,o,xs,F',e,hg,q,n1,λhm=>k2 a o g (n2 hm),hF,TrL.go (λb o h=>k1 b o (h.imp id λz=>(hF b).mpr (.inr z))) k2 t⟩
theorem TrL.go:∀{ds:List D} {es:List Ow} {r:Ow} {vs:List V} {F:Pr},(∀b o,(¬S b\/F b)->H b=some o->H' b=some o)->(∀b o,H b=some o->¬S b->¬S' b)->TrL K H S ds es r vs F->TrL K H' S' ds es r vs F
 |[],_,_,_,_,_,_,h=>by unfold TrL at h⊢;exact h
 |d::ds,es,r,vs,F,k1,k2,h=>by
  unfold TrL at h⊢;obtain⟨y,ys,F1,F2,e,hF,dj,h1,h2⟩:=h;exact⟨y,ys,F1,F2,e,hF,dj,Tr.go (λb o h=>k1 b o (h.imp id λz=>(hF b).mpr (.inl z))) k2 h1,TrL.go (λb o h=>k1 b o (h.imp id λz=>(hF b).mpr (.inr z))) k2 h2⟩
end
mutual
theorem Tr.rp:∀{d:D} {k:Ow} {v:V} {F:Pr},(∀b,S' b->S b/\¬F b)->Tr K H S d k v F->Rp K H S' d v
 |.non,_,_,_,k2,h=>by unfold Tr at h;exact h.2
 |.bl _,_,_,_,k2,h=>by unfold Tr at h;exact h.2
 |.int _,_,_,_,k2,h=>by unfold Tr at h;exact h.2
 |.str _,_,_,_,k2,h=>by unfold Tr at h;exact h.2
 |.scr ns,_,_,_,k2,h=>by unfold Tr at h;exact h.2.weak λb z=>(k2 b z).1
 |.nd hd ds,.fz,_,_,k2,h=>by unfold Tr at h;exact h.2.weak λb z=>(k2 b z).1
 |.nd hd ds,.own es r,v,F,k2,h=>by
  unfold Tr at h;unfold Rp;obtain⟨a,o,xs,F',e,g,q,n1,n2,hF,t⟩:=h;refine⟨a,o,xs,e,λz=>?_,g,q,TrL.rp (λb z=>⟨(k2 b z).1,λz2=>(k2 b z).2 ((hF b).mpr (.inr z2))⟩) t⟩
  cases hm:hd.mu with
  |true=>exact(k2 a z).2 ((hF a).mpr (.inl ⟨hm,rfl⟩))
  |false=>exact n2 hm (k2 a z).1
theorem TrL.rp:∀{ds:List D} {es:List Ow} {r:Ow} {vs:List V} {F:Pr},(∀b,S' b->S b/\¬F b)->TrL K H S ds es r vs F->RpL K H S' ds vs
 |[],_,_,_,_,_,h=>by unfold TrL at h;unfold RpL;exact h.1
 |d::ds,es,r,vs,F,k2,h=>by
  unfold TrL at h;obtain⟨y,ys,F1,F2,rfl,hF,dj,h1,h2⟩:=h;exact .cons (Tr.rp (λb z=>⟨(k2 b z).1,λz2=>(k2 b z).2 ((hF b).mpr (.inl z2))⟩) h1) (TrL.rp (λb z=>⟨(k2 b z).1,λz2=>(k2 b z).2 ((hF b).mpr (.inr z2))⟩) h2)
end
theorem Tr.rd(h:Tr K H S d k v F):Rp K H (λ_=>False) d v:=h.rp λb z=>z.elim
theorem Tr.fz(h:Rp K H S d v):Tr K H S d .fz v (λ_=>False):=by
 cases d<;>(unfold Tr;exact⟨λb z=>z,h⟩)
theorem Tr.fz_inv{F:Pr}(h:Tr K H S d .fz v F):(∀b,¬F b)/\Rp K H S d v:=by
 cases d<;>(unfold Tr at h;exact h)
mutual
theorem Tr.dom:∀{d:D} {k:Ow} {v:V} {F:Pr},Tr K H S d k v F->∀b,F b->∃o,H b=some o/\∀xs,o≠.tup xs
 |.non,_,_,_,h=>by unfold Tr at h;exact λb z=>absurd z (h.1 b)
 |.bl _,_,_,_,h=>by unfold Tr at h;exact λb z=>absurd z (h.1 b)
 |.int _,_,_,_,h=>by unfold Tr at h;exact λb z=>absurd z (h.1 b)
 |.str _,_,_,_,h=>by unfold Tr at h;exact λb z=>absurd z (h.1 b)
 |.scr ns,_,_,_,h=>by unfold Tr at h;exact λb z=>absurd z (h.1 b)
 |.nd hd ds,.fz,_,_,h=>by unfold Tr at h;exact λb z=>absurd z (h.1 b)
 |.nd hd ds,.own es r,v,F,h=>by
  unfold Tr at h;obtain⟨a,o,xs,F',e,g,q,n1,n2,hF,t⟩:=h;intro b z;rcases(hF b).mp z with⟨hm,rfl⟩|z
  ·refine⟨o,g,λys he=>?_⟩;subst he
   cases hd with
   |tup=>exact absurd hm (by simp[Hd.mu])
   |lst=>cases q
   |dic t ks=>rcases q with⟨_,_,e,_⟩|⟨_,_,_,_,e,_⟩<;>cases e
   |obj c ns=>obtain⟨_,_,_,_,e,_⟩:=q;cases e
  ·exact TrL.dom t b z
theorem TrL.dom:∀{ds:List D} {es:List Ow} {r:Ow} {vs:List V} {F:Pr},TrL K H S ds es r vs F->∀b,F b->∃o,H b=some o/\∀xs,o≠.tup xs
 |[],_,_,_,_,h=>by unfold TrL at h;exact λb z=>absurd z (h.2 b)
 |d::ds,es,r,vs,F,h=>by
  unfold TrL at h;obtain⟨y,ys,F1,F2,e,hF,dj,h1,h2⟩:=h;intro b z;rcases(hF b).mp z with z|z
  ·exact Tr.dom h1 b z
  ·exact TrL.dom h2 b z
end
end
end J
namespace J
open PySem PySem.Spec L2
noncomputable abbrev Gh:=Addr->Option (Option Nat)
noncomputable def Sx(g:Gh)(F:Pr):Pr:=λb=>g b≠none\/F b
noncomputable abbrev Sg(g:Gh):Pr:=λb=>g b≠none
inductive Kd where
 |sh|fr (k:Ow)|bo (i:Nat) (k:Ow)
noncomputable def VR1(K:Ka)(H:Hp)(g:Gh)(Ft:Pr):Kd->D->V->Pr->Prop
 |.sh,d,v,F=>(∀b,¬F b)/\Rp K H (Sx g Ft) d v
 |.fr k,d,v,F=>Tr K H (Sx g Ft) d k v F
 |.bo i k,d,v,F=>(∀b,¬F b)/\∃F0,(∀b,F0 b->g b=some (some i))/\Tr K H (Sx g Ft) d k v F0
noncomputable def VRL(K:Ka)(H:Hp)(g:Gh)(Ft:Pr):List (Kd×D)->List V->Pr->Prop
 |[],vs,F=>vs=[]/\∀b,¬F b
 |(kd,d)::r,vs,F=>∃y ys F1 F2,vs=y::ys/\(∀b,F b↔F1 b\/F2 b)/\(∀b,F1 b->¬F2 b)/\VR1 K H g Ft kd d y F1/\VRL K H g Ft r ys F2
noncomputable def VR(K:Ka)(g:Gh)(H0 H:Hp)(kd:Kd)(d:D)(v:V):Prop:=∃F:Pr,(∀b,F b->H0 b=none)/\VR1 K H g F kd d v F
noncomputable def VRs(K:Ka)(g:Gh)(H0 H:Hp)(kds:List (Kd×D))(vs:List V):Prop:=∃F:Pr,(∀b,F b->H0 b=none)/\VRL K H g F kds vs F
section
variable {K:Ka} {H H' H0 H1:Hp} {g:Gh} {Ft Ft' F:Pr}
theorem VR1.go(s:Same H H')(k2:∀b o,H b=some o->Ft' b->Ft b)(h:VR1 K H g Ft kd d v F):VR1 K H' g Ft' kd d v F:=by
 have k3:∀b o,H b=some o->¬Sx g Ft b->¬Sx g Ft' b:=λb o e n z=>n (z.imp id (k2 b o e))
 cases kd with
 |sh=>exact⟨h.1,h.2.go λb o n e=>⟨s b o e,k3 b o e n⟩⟩
 |fr k=>exact Tr.go (λb o _ e=>s b o e) k3 h
 |bo i k=>obtain⟨h1,F0,h2,h3⟩:=h;exact⟨h1,F0,h2,Tr.go (λb o _ e=>s b o e) k3 h3⟩
theorem VR1.dom(h:VR1 K H g Ft kd d v F):∀b,F b->∃o,H b=some o/\∀xs,o≠.tup xs:=by
 cases kd with
 |sh=>exact λb z=>absurd z (h.1 b)
 |fr k=>exact Tr.dom h
 |bo i k=>exact λb z=>absurd z (h.1 b)
theorem VRL.dom:∀{kds:List (Kd×D)} {vs:List V} {F:Pr},VRL K H g Ft kds vs F->∀b,F b->∃o,H b=some o/\∀xs,o≠.tup xs
 |[],_,_,h=>λb z=>absurd z (h.2 b)
 |(kd,d)::r,_,_,h=>by
  obtain⟨y,ys,F1,F2,e,hF,dj,h1,h2⟩:=h;intro b z;rcases(hF b).mp z with z|z
  ·exact h1.dom b z
  ·exact VRL.dom h2 b z
theorem VR.same(s:Same H H')(h:VR K g H0 H kd d v):VR K g H0 H' kd d v:=
 let ⟨F,h1,h2⟩:=h;⟨F,h1,h2.go s λ_ _ _ z=>z⟩
theorem VR.older(s:Same H0 H1)(h:VR K g H1 H kd d v):VR K g H0 H kd d v:=
 let ⟨F,h1,h2⟩:=h;⟨F,λb z=>s.free (h1 b z),h2⟩
theorem VR1.rd(h:VR1 K H g Ft kd d v F):Rp K H (λ_=>False) d v:=by
 cases kd with
 |sh=>exact h.2.weak λb z=>z.elim
 |fr k=>exact Tr.rd h
 |bo i k=>obtain⟨_,F0,_,h3⟩:=h;exact h3.rd
theorem VR.rd(h:VR K g H0 H kd d v):Rp K H (λ_=>False) d v:=let ⟨F,h1,h2⟩:=h;h2.rd
theorem VRL.rd:∀{kds:List (Kd×D)} {vs:List V} {F:Pr},VRL K H g Ft kds vs F->RpL K H (λ_=>False) (kds.map (·.2)) vs
 |[],_,_,h=>by rw[h.1];exact .nil
 |(kd,d)::r,_,_,h=>by
  obtain⟨y,ys,F1,F2,rfl,hF,dj,h1,h2⟩:=h;exact .cons h1.rd (VRL.rd h2)
noncomputable def mz:Kd->D->Bool
 |.bo _ _,d=>oB d
 |_,_=>true
theorem MuOk.same(m:MuOk H S)(s:Same H H'):MuOk H' S:=λa z=>let ⟨o,e,n⟩:=m a z;⟨o,s a o e,n⟩
theorem VR1.sh{S:Pr}(ok:mz kd d=true)(m:MuOk H S)(hS:∀b,S b->(g b≠none\/Ft b)/\¬F b)(h:VR1 K H g Ft kd d v F):Rp K H S d v:=by
 cases kd with
 |sh=>exact h.2.weak λb z=>(hS b z).1
 |fr k=>exact Tr.rp (λb z=>⟨(hS b z).1,(hS b z).2⟩) h
 |bo i k=>obtain⟨_,F0,h2,h3⟩:=h;exact h3.rd.im m ok
theorem VR.sh(ok:mz kd d=true)(m:MuOk H0 (Sg g))(s:Same H0 H)(h:VR K g H0 H kd d v):Rp K H (Sg g) d v:=by
 obtain⟨F,h1,h2⟩:=h;refine h2.sh ok (m.same s) λb z=>⟨.inl z,λz2=>?_⟩;obtain⟨o,e,_⟩:=m b z;rw[h1 b z2] at e;cases e
theorem VRL.sh{S:Pr}(m:MuOk H S):∀{kds:List (Kd×D)} {vs:List V} {F:Pr},(kds.all λp=>mz p.1 p.2)=true->(∀b,S b->(g b≠none\/Ft b)/\¬F b)->VRL K H g Ft kds vs F->RpL K H S (kds.map (·.2)) vs
 |[],_,_,_,_,h=>by rw[h.1];exact .nil
 |(kd,d)::r,_,F,ok,hS,h=>by
  obtain⟨y,ys,F1,F2,rfl,hF,dj,h1,h2⟩:=h;rw[Lq,Ke] at ok;exact .cons (h1.sh ok.1 m λb z=>⟨(hS b z).1,λz2=>(hS b z).2 ((hF b).mpr (.inl z2))⟩) (VRL.sh m ok.2 (λb z=>⟨(hS b z).1,λz2=>(hS b z).2 ((hF b).mpr (.inr z2))⟩) h2)
theorem VRs.sh{kds:List (Kd×D)}(ok:(kds.all λp=>mz p.1 p.2)=true)(m:MuOk H0 (Sg g))(s:Same H0 H)(h:VRs K g H0 H kds vs):RpL K H (Sg g) (kds.map (·.2)) vs:=by
 obtain⟨F,h1,h2⟩:=h;refine h2.sh (m.same s) ok λb z=>⟨.inl z,λz2=>?_⟩;obtain⟨o,e,_⟩:=m b z;rw[h1 b z2] at e;cases e
theorem VRs.rd{kds:List (Kd×D)}(h:VRs K g H0 H kds vs):RpL K H (λ_=>False) (kds.map (·.2)) vs:=let ⟨F,h1,h2⟩:=h;h2.rd
theorem VRs.nil:VRs K g H0 H [] []:=⟨λ_=>False,λb z=>z.elim,rfl,λb z=>z⟩
open Classical in
noncomputable def Gh.plus(g:Gh)(F:Pr):Gh:=λb=>if F b then some none else g b
theorem ar(b:Addr):Sg (g.plus F) b↔Sg g b\/F b:=by
 unfold Gh.plus Sg;by_cases h:F b
 ·simp[h]
 ·simp[h]
theorem bM{i:Nat}(h:g.plus F b=some (some i)):g b=some (some i):=by
 unfold Gh.plus at h;split at h
 ·cases h
 ·exact h
theorem ca{i:Nat}(h:g b=some (some i))(n:¬F b):g.plus F b=some (some i):=by
 unfold Gh.plus;rw[if_neg n];exact h
theorem VR1.unplus{F1:Pr}(h:VR1 K H (g.plus F1) Ft kd d v F):VR1 K H g (λb=>F1 b\/Ft b) kd d v F:=by
 have k3:∀b o,H b=some o->¬Sx (g.plus F1) Ft b->¬Sx g (λb=>F1 b\/Ft b) b:=λb o e n z=>n (z.elim (λz=>.inl ((ar b).mpr (.inl z))) λz=>z.elim (λz=>.inl ((ar b).mpr (.inr z))) .inr)
 cases kd with
 |sh=>exact⟨h.1,h.2.go λb o n e=>⟨e,k3 b o e n⟩⟩
 |fr k=>exact Tr.go (λb o _ e=>e) k3 h
 |bo i k=>obtain⟨h1,F0,h2,h3⟩:=h;exact⟨h1,F0,λb z=>bM (h2 b z),Tr.go (λb o _ e=>e) k3 h3⟩
theorem VRL.unplus{F1:Pr}:∀{kds:List (Kd×D)} {vs:List V} {F:Pr},VRL K H (g.plus F1) Ft kds vs F->VRL K H g (λb=>F1 b\/Ft b) kds vs F
 |[],_,_,h=>h
 |(kd,d)::r,_,_,h=>by
  obtain⟨y,ys,F1,F2,e,hF,dj,h1,h2⟩:=h;exact⟨y,ys,F1,F2,e,hF,dj,h1.unplus,VRL.unplus h2⟩
theorem VRs.cons{kd:Kd}{d:D}{v:V}{kds:List (Kd×D)}{vs:List V}{F1:Pr}(s:Same H0 H)(s1:Same H H')(a1:∀b,F1 b->H0 b=none)(a2:VR1 K H g F1 kd d v F1)(h2:VRs K (g.plus F1) H H' kds vs):VRs K g H0 H' ((kd,d)::kds) (v::vs):=by
 obtain⟨F2,b1,b2⟩:=h2;have dd:=a2.dom;refine⟨λb=>F1 b\/F2 b,λb z=>z.elim (a1 b) λz=>s.free (b1 b z),v,vs,F1,F2,rfl,λb=>Iff.rfl,λb z1 z2=>?_,a2.go s1 λb o e z=>z.elim id λz=>?_,b2.unplus⟩
 ·obtain⟨o,e,_⟩:=dd b z1;rw[b1 b z2] at e;cases e
 ·rw[b1 b z] at e;cases e
theorem VRs.one(h:VRs K g H0 H [(kd,d)] vs):∃v,vs=[v]/\VR K g H0 H kd d v:=by
 obtain⟨F,h1,y,ys,F1,F2,rfl,hF,dj,h3,h4,h5⟩:=h;subst h4;have e:∀b,F b->F1 b:=λb z=>((hF b).mp z).elim id λz=>absurd z (h5 b);exact⟨y,rfl,F1,λb z=>h1 b ((hF b).mpr (.inl z)),h3.go (λ_ _ h=>h) λb _ _ z=>(hF b).mpr (.inl z)⟩
end
structure Sl where
 lk:Bool
 k:Ow
 d:D
noncomputable abbrev Ro:=List (Option Sl)
noncomputable def oC:Ow->Bool
 |.fz=>true
 |_=>false
noncomputable def rG(i:Nat)(s:Sl):Kd×D:=(if oC s.k then .sh else .bo i s.k,s.d)
structure SE(K:Ka)(g:Gh)(ρ:Ro)(σ:St)(H:Hp):Prop where
 slot:∀(i:Nat) (s:Sl),ρ[i]?=some (some s)->∃v F,σ[i]?=some (some v)/\(∀b,F b->g b=some (some i))/\Tr K H (Sg g) s.d s.k v F
 mu:MuOk H (Sg g)
 len:ρ.length=σ.length
section
variable {K:Ka} {H H' H0 H1:Hp} {g g':Gh} {ρ:Ro} {σ:St}
theorem SE.same(h:SE K g ρ σ H)(s:Same H H'):SE K g ρ σ H':=
 ⟨λi sl e=>let ⟨v,F,e1,e2,e3⟩:=h.slot i sl e;⟨v,F,e1,e2,e3.go (λb o _ e=>s b o e) λb o _ n=>n⟩,h.mu.same s,h.len⟩
theorem i7(h:oC k=true):k=.fz:=by cases k with|fz=>rfl|own es r=>cases h
theorem SE.get(h:SE K g ρ σ H){i:Nat}{s:Sl}(e:ρ[i]?=some (some s)):∃v,σ[i]?=some (some v)/\VR K g H H (rG i s).1 (rG i s).2 v:=by
 obtain⟨v,F,e1,e2,e3⟩:=h.slot i s e;refine⟨v,e1,λ_=>False,λb z=>z.elim,?_⟩;have t:Tr K H (Sx g λ_=>False) s.d s.k v F:=e3.go (λ_ _ _ h=>h) λb o _ n z=>n (z.elim id λz=>z.elim);unfold rG
 cases hk:oC s.k with
 |true=>
  rw[i7 hk] at t;exact⟨λb z=>z,t.fz_inv.2⟩
 |false=>exact⟨λb z=>z,F,e2,t⟩
theorem SE.plus{F:Pr}(h:SE K g ρ σ H)(s:Same H H')(hF:∀b,F b->H b=none)(dd:∀b,F b->∃o,H' b=some o/\∀xs,o≠.tup xs):SE K (g.plus F) ρ σ H':=by
 refine⟨λi sl e=>?_,λb z=>?_,h.len⟩
 ·obtain⟨v,F0,e1,e2,e3⟩:=h.slot i sl e;refine⟨v,F0,e1,λb z=>ca (e2 b z) λz2=>?_,e3.go (λb o _ e=>s b o e) λb o e n z=>?_⟩
  ·obtain⟨o,q,_⟩:=e3.dom b z;rw[hF b z2] at q;cases q
  ·rcases(ar b).mp z with z|z
   ·exact n z
   ·rw[hF b z] at e;cases e
 ·rcases(ar b).mp z with z|z
  ·exact h.mu.same s b z
  ·exact dd b z
end
section
variable (X:Cx)
noncomputable def wE(e:Expr):TE:=λσ H Q=>∀pins s,Inv X pins σ H s->wpAny (model X.prog X.w) X.A (eval e X.env) (EP X pins σ Q) X.xe s
noncomputable def wT(e:Expr):TT:=λσ H Q=>∀pins s,Inv X pins σ H s->wpAny (model X.prog X.w) X.A (isTrue e X.env (eval e X.env)) (TP X pins σ Q) X.xe s
noncomputable def wW(e:Expr):TT:=λσ H Q=>∀whole pins s,Inv X pins σ H s->wpAny (model X.prog X.w) X.A (isTrue e X.env whole) (TP X pins σ Q) X.xe s
noncomputable def wA(es:List Expr):TA:=λσ H Q=>∀pos pins s,Inv X pins σ H s->wpAny (model X.prog X.w) X.A (spliced (backTo pos (starEach es X.env))) (AP X pins σ Q) X.xe s
noncomputable def wG(tg:Expr):TG:=λv σ H Q=>∀pins s u,Inv X pins σ H s->RelV v u->wpAny (model X.prog X.w) X.A (assign tg X.env u) (λ_ s'=>∃σ' H',Inv X pins σ' H' s'/\Q σ' H') X.xe s
noncomputable def wI(tg iter:Expr):TI:=λσ H R=>∀pins s,Inv X pins σ H s->wpAny (model X.prog X.w) X.A (eval iter X.env) (λv s1=>wpAny (model X.prog X.w) X.A (pyIter v) (Gy X pins σ tg R) X.xe s1) X.xe s
end
section
variable {X:Cx}
theorem aA:PE X e (wE X e):=λpins s σ H Q I h=>h pins s I
theorem gx:PT X e (wT X e):=λpins s σ H Q I h=>h pins s I
theorem wS:PW X e (wW X e):=λwh pins s σ H Q I h=>h wh pins s I
theorem dc:PA X es (wA X es):=λpos pins s σ H Q I h=>h pos pins s I
theorem wU:PI X tg iter (wI X tg iter):=λpins s σ H R I h=>h pins s I
theorem wV:PG X tg (wG X tg):=λpins s σ H v u Q I r h=>h pins s u I r
theorem aC{t:TE}(p:PE X e t){σ:St}{H:Hp}{Q:VK}(h:t σ H Q):wE X e σ H Q:=λpins s I=>p pins s σ H Q I h
theorem mZ{t:TT}(p:PT X e t){σ:St}{H:Hp}{Q:Bool->Hp->Prop}(h:t σ H Q):wT X e σ H Q:=λpins s I=>p pins s σ H Q I h
theorem k8{t:TT}(p:PW X e t){σ:St}{H:Hp}{Q:Bool->Hp->Prop}(h:t σ H Q):wW X e σ H Q:=λwh pins s I=>p wh pins s σ H Q I h
theorem jC{t:TA}(p:PA X es t){σ:St}{H:Hp}{Q:List V->Hp->Prop}(h:t σ H Q):wA X es σ H Q:=λpos pins s I=>p pos pins s σ H Q I h
theorem gy{t:TI}(p:PI X tg iter t){σ:St}{H:Hp}{R:It->Hp->Prop}(h:t σ H R):wI X tg iter σ H R:=λpins s I=>p pins s σ H R I h
theorem tV{t:TG}(p:PG X tg t){v:V}{σ:St}{H:Hp}{Q:St->Hp->Prop}(h:t v σ H Q):wG X tg v σ H Q:=λpins s u I r=>p pins s σ H v u Q I r h
end
noncomputable def SndE(X:Cx)(f:Ro->Option (Kd×D))(e:Expr):Prop:=∀ρ kd d,f ρ=some (kd,d)->∀g σ H Q,SE X.K g ρ σ H->(∀v H',Same H H'->VR X.K g H H' kd d v->Q v H')->wE X e σ H Q
noncomputable def SndT(X:Cx)(f:Ro->Option Bool)(e:Expr):Prop:=∀ρ b,f ρ=some b->∀g σ H Q,SE X.K g ρ σ H->(∀H',Same H H'->Q b H')->wT X e σ H Q
noncomputable def iY(X:Cx)(f:Ro->Option (List (Kd×D)))(es:List Expr):Prop:=∀ρ kds,f ρ=some kds->∀g σ H Q,SE X.K g ρ σ H->(∀vs H',Same H H'->VRs X.K g H H' kds vs->Q vs H')->wA X es σ H Q
end J
namespace G
open PySem PySem.Spec L2 PyProof.Rows
noncomputable def iM(n:Nat)(lo st:Option Int):List Nat:=sliceRange (sliceBounds lo none st n).1 (sliceBounds lo none st n).2.1 (sliceBounds lo none st n).2.2
noncomputable def cm{α:Type}(xs:List α)(lo st:Option Int):List α:=(iM xs.length lo st).filterMap λi=>xs[i]?
theorem k9{xs:List V}{us:List Value}(r:Vals xs us):∀is:List Nat,Vals (is.filterMap λi=>xs[i]?) (is.filterMap λi=>us[i]?)
 |[]=>.nil
 |i::is=>by
  have ih:=k9 r is;by_cases h:i<xs.length
  ·have h':i<us.length:=by rw[<- r.length];exact h
   obtain⟨u,e1,e2⟩:=r.get (Kg h);rw[KL,KL,Kg h,e1];exact .cons e2 ih
  ·rw[KL,KL,KY (by lia),KY (by rw[<- r.length];lia)];exact ih
section
variable {X:Cx}
noncomputable def GV(te:TE)(tl:TO)(tst:TE):TE:=λσ H Q=>te σ H λx H1=>tl σ H1 λl H2=>tst σ H2 λy H3=>∃a xs k,x=.ref a/\y=.int k/\k≠0/\SqL X.K H3 a xs/\∀p,H3 p=none->Q (.ref p) (upd H3 p (.lst (cm xs l (some k))))
theorem Ay{e st:Expr}{lo:Option Expr}{te tst:TE}{tl:TO}{p2 pos:Pos}(he:PE X e te)(hl:PO X lo tl)(hst:PE X st tst):PE X (.Subscript e (.Slice lo none (some st) p2) pos) (GV (X:=X) te tl tst):=by
 intro pins s σ H Q I h;refine Subscript_ (bx (he pins s σ H _ I h) λv s1 ⟨x,H1,I1,r1,q1⟩=>?_);refine wpAny_Slice (bx (hl pins s1 σ H1 _ I1 q1) λvl s2 ⟨l,H2,I2,pl,q2⟩=>?_);rw[evalPart_none];refine wpAny_pure ?_;refine bx (hst pins s2 σ H2 _ I2 q2) λvst s3 ⟨y,H3,I3,r3,q3⟩=>?_;obtain⟨a,xs,k,rfl,rfl,hk,hx,q⟩:=q3;obtain⟨t,rfl⟩:=r3;cases r1;have I4:Inv X pins σ H3 { s3 with heap:=s3.heap.push { cls:=.type "slice",data:=.fields #[vl,.none,.int k t] } }:=I3.kept (t':=s3.toks) λb ob q=>Kj _ q;obtain⟨its,r,ht,hz⟩:=I4.list hx;show wpAny (model X.prog X.w) X.A (subscriptTail e (.Slice lo none (some st) p2) (.ref a) (.ref s3.heap.objs.size)) (EP X pins σ Q) X.xe { s3 with heap:=s3.heap.push { cls:=.type "slice",data:=.fields #[vl,.none,.int k t] } };refine tail_any (ops:=[.ref a,.ref s3.heap.objs.size]) ht.isList.typeIs slot_list_getitem.lookup ?_ (by with_unfolding_all rfl);refine wpAny_getItem_list_slice ht.isList (Heap.IsSliceOf.new ..) pl .none (.int _ _) (by simpa using hk) ?_ (by rw[Ko,<- r.length];exact hz)
 have e1:slicePick its.toArray l none (some k)=(cm its l (some k)).toArray:=by
  unfold slicePick cm iM;simp
 rw[e1];have hsz:=slicePick_size_le its.toArray l none (some k);rw[e1,Ko,Ko] at hsz
 have rv:Vals (cm xs l (some k)) (cm its l (some k)):=by
  unfold cm;rw[r.length];exact k9 r _
 refine⟨.ref _,_,I4.laid (t':=s3.toks) (o:=.lst (cm xs l (some k))) (λb ob q=>Kj _ q) (Ki _) ?_,rfl,q _ (I4.hok.fresh (Ki _))⟩;exact⟨by rw[rv.length];exact KF hsz (by rw[<- r.length];exact hz),_,0,rv,Ku _ rfl⟩
end
end G
namespace G
open PySem PySem.Spec PyProof.Rows L2
section
variable {X:Cx} {tg:Expr}
end
noncomputable abbrev Kk:=L2.aI
instance:LawfulBEq Kk where
 eq_of_beq:=λ{a b} h=>by
  cases a<;>cases b
  ·have h:_==_:=h;exact congrArg Sum.inl (eq_of_beq h)
  ·cases h
  ·cases h
  ·exact congrArg Sum.inr (eq_of_beq (show _==_ from h))
 rfl:=λ{a}=>by
  cases a
  ·exact beq_self_eq_true (α:=Int) _
  ·exact beq_self_eq_true (α:=Str) _
section
variable {prog:Program} {w:World} {A:Around} {R:Result->Shared->Prop} {J:Addr} {fp wr:List Addr} {GG:Array GenState->Array GenState->Prop} {n:Nat} {P:Nat->Value->Prop} {St:Nat->Shared->Prop}
end
section
variable {prog:Program} {w:World} {A:Around} {E:Value->Shared->Prop} {s:Shared}
end
section
variable {X:Cx}
end
end G
set_option exponentiation.threshold 5000
namespace J
open PySem PySem.Spec L2
mutual
noncomputable def py:D->PyData
 |.non=>.none
 |.bl b=>.bool b
 |.int i=>.int i
 |.str x=>.str x
 |.scr ns=>.list (ns.map .int)
 |.nd .lst ds=>.list (m3 ds)
 |.nd .tup ds=>.tuple (m3 ds)
 |.nd (.dic _ _) _=>.dict []
 |.nd (.obj _ _) _=>.none
noncomputable def m3:List D->List PyData
 |[]=>[]
 |d::ds=>py d::m3 ds
end
mutual
noncomputable def fv:Nat->D->Bool
 |_,.non=>true
 |_,.bl _=>true
 |_,.int _=>true
 |_,.str x=>PyData.strOk x
 |n,.scr _=>decide (1<=n)
 |n,.nd .lst ds=>decide (1<=n)&&lV (n-1) ds
 |n,.nd .tup ds=>decide (1<=n)&&lV (n-1) ds
 |_,.nd (.dic _ _) _=>false
 |_,.nd (.obj _ _) _=>false
noncomputable def lV:Nat->List D->Bool
 |_,[]=>true
 |n,d::ds=>fv n d&&lV n ds
end
section
variable {X:Cx} {pins:List (Addr×Obj)} {σ:L2.St} {H:Hp} {s:Shared} {S:Pr}
theorem fI:∀{ns:List Int} {us:List Value},Vals (ns.map V.int) us->∃as,ReadsAll h us (ns.map .int) as
 |[],_,.nil=>⟨_,.nil⟩
 |n::ns,_,.cons r t=>by
  obtain⟨t',e⟩:=(show ∃t,_=Value.int n t from r);subst e;obtain⟨as,q⟩:=fI t;exact⟨_,.cons (.int n t') q⟩
theorem i8:∀ns:List Int,PyData.canLayAll0 (ns.map .int)=true/\PyData.depthAll (ns.map .int)=0
 |[]=>by simp[PyData.canLayAll0,PyData.depthAll]
 |n::ns=>by
  have:=i8 ns;simp[PyData.canLayAll0,PyData.depthAll,PyData.canLay0,PyData.depth,this]
mutual
theorem eQ(I:Inv X pins σ H s):∀{d:D} {n:Nat} {v:V} {u:Value},fv n d=true->Rp X.K H S d v->RelV v u->(∃as,Reads s.heap u (py d) as)/\(py d).canLay0=true/\(py d).depth<=n
 |.non,n,v,u,_,r,e=>by unfold Rp at r;subst r;cases e;simp only[py];exact⟨⟨_,.none⟩,by simp[PyData.canLay0],by simp[PyData.depth]⟩
 |.bl b,n,v,u,_,r,e=>by unfold Rp at r;subst r;cases e;simp only[py];exact⟨⟨_,.bool b⟩,by simp[PyData.canLay0],by simp[PyData.depth]⟩
 |.int i,n,v,u,_,r,e=>by unfold Rp at r;subst r;obtain⟨t,rfl⟩:=e;simp only[py];exact⟨⟨_,.int i t⟩,by simp[PyData.canLay0],by simp[PyData.depth]⟩
 |.str x,n,v,u,h,r,e=>by unfold Rp at r;subst r;obtain⟨t,rfl⟩:=e;simp only[py];exact⟨⟨_,.str x t⟩,by simpa[PyData.canLay0,fv] using h,by simp[PyData.depth]⟩
 |.scr ns,n,v,u,h,r,e=>by
  unfold Rp at r;obtain⟨a,rfl,r⟩:=r;cases e;have q:SqL X.K H a (ns.map V.int):=r.elim (λr=>.inl r.2) .inr;obtain⟨its,vs,⟨o,m,g1,g2,g3,g4⟩,z⟩:=I.list q;obtain⟨as,ra⟩:=fI (h:=s.heap) vs;simp only[py];have hn:1<=n:=by simpa[fv] using h
  exact⟨⟨_,.list g1 g2 g4 (by simpa using ra)⟩,by simpa[PyData.canLay0] using(i8 ns).1,by simp[PyData.depth,(i8 ns).2,hn]⟩
 |.nd .lst ds,n,v,u,h,r,e=>by
  unfold Rp at r;obtain⟨a,o,xs,rfl,na,g,q,rl⟩:=r;cases e;have q:o=.lst xs:=q;subst q;obtain⟨its,vs,⟨o,m,g1,g2,g3,g4⟩,z⟩:=I.list (SqL.of g);simp only[fv,Ke,decide_eq_true_eq] at h;obtain⟨⟨as,ra⟩,l1,l2⟩:=ig I h.2 rl vs;simp only[py];exact⟨⟨_,.list g1 g2 g4 (by simpa using ra)⟩,by simpa[PyData.canLay0] using l1,by simp only[PyData.depth];lia⟩
 |.nd .tup ds,n,v,u,h,r,e=>by
  unfold Rp at r;obtain⟨a,o,xs,rfl,na,g,q,rl⟩:=r;cases e;have q:o=.tup xs:=q;subst q;obtain⟨its,vs,⟨o,g1,g2,m,g4⟩,z⟩:=I.tuple (SqT.of g);simp only[fv,Ke,decide_eq_true_eq] at h;obtain⟨⟨as,ra⟩,l1,l2⟩:=ig I h.2 rl vs;simp only[py];exact⟨⟨_,.tuple g1 g2 g4 (by simpa using ra)⟩,by simpa[PyData.canLay0] using l1,by simp only[PyData.depth];lia⟩
 |.nd (.dic _ _) _,n,v,u,h,r,e=>by simp[fv] at h
 |.nd (.obj _ _) _,n,v,u,h,r,e=>by simp[fv] at h
theorem ig(I:Inv X pins σ H s):∀{ds:List D} {n:Nat} {xs:List V} {us:List Value},lV n ds=true->RpL X.K H S ds xs->Vals xs us->(∃as,ReadsAll s.heap us (m3 ds) as)/\PyData.canLayAll0 (m3 ds)=true/\PyData.depthAll (m3 ds)<=n
 |[],n,xs,us,_,r,e=>by rw[r.nil_inv] at e;cases e;simp only[m3];exact⟨⟨_,.nil⟩,by simp[PyData.canLayAll0],by simp[PyData.depthAll]⟩
 |d::ds,n,xs,us,h,r,e=>by
  obtain⟨y,ys,rfl,r1,r2⟩:=r.cons_inv;simp only[lV,Ke] at h
  cases e with
  |cons e1 e2=>
   obtain⟨⟨as,ra⟩,l1,l2⟩:=eQ I h.1 r1 e1;obtain⟨⟨bs,rb⟩,m1,m2⟩:=ig I h.2 r2 e2;simp only[m3];exact⟨⟨_,.cons ra rb⟩,by simp[PyData.canLayAll0,l1,m1],by simp only[PyData.depthAll];lia⟩
end
end
noncomputable def sI(x y:D):Bool:=PyData.eqv (py x) (py y)
noncomputable def lim:Nat:=2^4000
noncomputable abbrev bq:Ow:=.own [] .fz
noncomputable def lc:Ow->Bool
 |.fz=>true
 |.own es r=>es.all oC&&oC r
noncomputable def fw:Kd->List D->Bool
 |.bo _ k,ds=>lc k||wR ds
 |_,_=>true
noncomputable abbrev KD:=Kd×D
noncomputable def m4:Operator->Int->Int->Option Int
 |.Add,i,j=>some (i+j)
 |.Sub,i,j=>some (i-j)
 |.Mult,i,j=>if i.natAbs<lim/\j.natAbs<lim then some (i*j) else none
 |.FloorDiv,i,j=>if 0<j/\j.natAbs<lim then some (i / j) else none
 |.Mod,i,j=>if 0<j then some (i%j) else none
 |.LShift,i,j=>if 0<=j/\j<=1000000/\i.natAbs<lim then some (i*2^j.toNat) else none
 |.Pow,i,j=>if 0<=j/\j<=1000000/\i.natAbs<2^64 then some (i^j.toNat) else none
 |.RShift,i,j=>if 0<=j then some (i / 2^j.toNat) else none
 |.BitAnd,i,j=>some (Builtin.bitAnd i j)
 |.BitOr,i,j=>some (Builtin.bitOr i j)
 |.BitXor,i,j=>some (Builtin.bitXor i j)
 |_,_,_=>none
noncomputable def Dq(op:Operator)(k:Kd)(xs:List D)(y:KD):Option KD:=match op with
 |.Add=>(match y.2 with
  |.nd hd ys=>(match hd with
   |.lst=>if fw k xs=true/\fw y.1 ys=true/\xs.length+ys.length<=100000 then some (.fr bq,.lst (xs++ys)) else none
   |_=>none)
  |_=>none)
 |_=>none
noncomputable def Dr(op:Operator)(k:Kd)(xs:List D)(y:KD):Option KD:=none
noncomputable def Ds(op:Operator)(i:Str)(y:D):Option KD:=none
noncomputable def dZ(op:Operator)(x y:KD):Option KD:=match x.2 with
 |.int i=>(match y.2 with|.int j=>(match m4 op i j with|some z=>some (.sh,.int z)|none=>none)|_=>none)
 |.nd hd xs=>(match hd with|.lst=>Dq op x.1 xs y|.tup=>Dr op x.1 xs y|_=>none)
 |.str i=>Ds op i y.2
 |_=>none
theorem fx{i j z:Int}(h:m4 op i j=some z):dZ op (k,.int i) (k',.int j)=some (.sh,.int z):=by
 show(match m4 op i j with|some z=>some (Kd.sh,D.int z)|none=>none)=_
 rw[h]
theorem n9{p:Prop}[Decidable p]{α:Type}{a b:α}(h:(if p then some a else none)=some b):p/\b=a:=by
 by_cases hp:p
 ·rw[if_pos hp] at h;cases h;exact⟨hp,rfl⟩
 ·rw[if_neg hp] at h;cases h
theorem a7{n:Nat}(h:n<=100000):n<=sizeLine:=KF h (by decide)
section
variable {K:Ka} {H H' H0:Hp} {S:Pr} {g:Gh}
theorem Rp.int{i:Int}(h:Rp K H S (.int i) v):v=.int i:=by unfold Rp at h;exact h
theorem Rp.bl{i:Bool}(h:Rp K H S (.bl i) v):v=.bl i:=by unfold Rp at h;exact h
theorem Rp.str{i:Str}(h:Rp K H S (.str i) v):v=.str i:=by unfold Rp at h;exact h
theorem Rp.non(h:Rp K H S .non v):v=.non:=by unfold Rp at h;exact h
theorem Rp.nd(h:Rp K H S (.nd hd ds) v):∃a o xs,v=.ref a/\¬S a/\H a=some o/\eL K o hd xs/\RpL K H S ds xs:=by unfold Rp at h;exact h
theorem Rp.scr{ns:List Int}(h:Rp K H S (.scr ns) v):∃a,v=.ref a/\SqL K H a (ns.map V.int):=by
 unfold Rp at h;obtain⟨a,e,h⟩:=h;exact⟨a,e,h.elim (λh=>.inl h.2) .inr⟩
theorem ii{i:Int}:VR K g H0 H .sh (.int i) (.int i):=⟨λ_=>False,λ_ z=>z.elim,λ_ z=>z,by unfold Rp;rfl⟩
theorem Cy{i:Bool}:VR K g H0 H .sh (.bl i) (.bl i):=⟨λ_=>False,λ_ z=>z.elim,λ_ z=>z,by unfold Rp;rfl⟩
theorem GW{i:Str}:VR K g H0 H .sh (.str i) (.str i):=⟨λ_=>False,λ_ z=>z.elim,λ_ z=>z,by unfold Rp;rfl⟩
theorem Dt:VR K g H0 H .sh .non .non:=⟨λ_=>False,λ_ z=>z.elim,λ_ z=>z,by unfold Rp;rfl⟩
theorem Du(h:Rp K H (Sg g) d v):VR K g H0 H .sh d v:=⟨λ_=>False,λ_ z=>z.elim,λ_ z=>z,h.weak λb z=>z.elim id λz=>z.elim⟩
theorem al(hp:H p=none):Same H (upd H p o):=λb u q=>by rw[am (av q hp)];exact q
theorem TrL.ofFz:∀{ds:List D} {xs:List V},RpL K H S ds xs->TrL K H S ds [] .fz xs λ_=>False
 |[],_,h=>by unfold TrL;exact⟨h.nil_inv,λ_ z=>z⟩
 |d::ds,_,h=>by
  obtain⟨y,ys,rfl,r,t⟩:=h.cons_inv;unfold TrL;exact⟨y,ys,_,_,rfl,λb=>⟨.inl,λz=>z.elim id id⟩,λ_ z=>z.elim,Tr.fz r,TrL.ofFz t⟩
theorem kF(hp:H p=none)(r:RpL K H (Sg g) ds xs):VR K g H (upd H p (.lst xs)) (.fr bq) (.lst ds) (.ref p):=by
 refine⟨λb=>b=p,λb z=>z▸hp,?_⟩;show Tr K _ _ _ _ _ _;unfold Tr
 refine⟨p,_,xs,λ_=>False,rfl,aG,rfl,λ_ z=>z,(λh=>nomatch h),λb=>⟨λz=>.inl ⟨rfl,z⟩,λz=>z.elim (λz=>z.2) λz=>z.elim⟩,.ofFz (r.go λb o n e=>⟨al hp b o e,λz=>z.elim n λz=>?_⟩)⟩
 subst z;rw[hp] at e;cases e
theorem Az(m:MuOk H (Sg g))(hp:H p=none)(r:RpL K H (Sg g) ds xs):VR K g H (upd H p (.tup xs)) .sh (.tup ds) (.ref p):=by
 refine Du ?_;unfold Rp;refine⟨p,_,xs,rfl,λz=>?_,aG,rfl,r.same (al hp)⟩;obtain⟨o,e,_⟩:=m p z;rw[hp] at e;cases e
theorem p7{es:List Ow}(h:lc (.own es r)=true):(∀e∈es,e=.fz)/\r=.fz:=by
 simp only[lc,Ke,KO] at h;exact⟨λe he=>i7 (h.1 e he),i7 h.2⟩
theorem TrL.flat:∀{ds:List D} {es:List Ow} {xs:List V} {F:Pr},(∀e∈es,e=.fz)->TrL K H S ds es .fz xs F->(∀b,¬F b)/\RpL K H S ds xs
 |[],_,_,_,_,h=>by unfold TrL at h;exact⟨h.2,by rw[h.1];exact .nil⟩
 |d::ds,es,_,_,he,h=>by
  unfold TrL at h;obtain⟨y,ys,F1,F2,rfl,hF,dj,h1,h2⟩:=h
  have e:es.headD .fz=.fz:=by
   cases es with
   |nil=>rfl
   |cons a r=>exact he a (.head _)
  rw[e] at h1;obtain⟨n1,r1⟩:=h1.fz_inv
  obtain⟨n2,r2⟩:=TrL.flat (λe q=>he e (by cases es with|nil=>cases q|cons a r=>exact .tail _ q)) h2
  exact⟨λb z=>((hF b).mp z).elim (n1 b) (n2 b),.cons r1 r2⟩
theorem VR.items(ok:fw kd ds=true)(m:MuOk H0 (Sg g))(s:Same H0 H)(h:VR K g H0 H kd (.nd hd ds) v):∃a o xs,v=.ref a/\H a=some o/\eL K o hd xs/\RpL K H (Sg g) ds xs:=by
 have ns:∀{kd':Kd},mz kd' (.nd hd ds)=true->VR K g H0 H kd' (.nd hd ds) v->∃a o xs,v=.ref a/\H a=some o/\eL K o hd xs/\RpL K H (Sg g) ds xs:=λok h=>by
  obtain⟨a,o,xs,e,_,q1,q2,q3⟩:=(h.sh ok m s).nd;exact⟨a,o,xs,e,q1,q2,q3⟩
 cases kd with
 |sh=>exact ns rfl h
 |fr k=>exact ns rfl h
 |bo i k=>
  simp only[fw,Lr] at ok;rcases ok with ok|ok
  ·obtain⟨F,h1,h2,F0,h3,h4⟩:=h
   cases k with
   |fz=>
    obtain⟨_,r⟩:=h4.fz_inv;obtain⟨a,o,xs,e,_,q1,q2,q3⟩:=r.nd;exact⟨a,o,xs,e,q1,q2,q3.weak λb z=>.inl z⟩
   |own es r=>
    obtain⟨he,rfl⟩:=p7 ok;unfold Tr at h4;obtain⟨a,o,xs,F',e,q1,q2,n1,n2,hF,t⟩:=h4;exact⟨a,o,xs,e,q1,q2,(t.flat he).2.weak λb z=>.inl z⟩
  ·obtain⟨a,o,xs,e,_,q1,q2,q3⟩:=h.rd.nd;exact⟨a,o,xs,e,q1,q2,q3.im (m.same s) ok⟩
end
noncomputable def GX(K:Ka)(op:Operator):R2:=λx y H Q=>∃g H0 kx ky kd d,MuOk H0 (Sg g)/\Same H0 H/\VR K g H0 H kx.1 kx.2 x/\VR K g H0 H ky.1 ky.2 y/\dZ op kx ky=some (kd,d)/\∀v H',Same H H'->VR K g H H' kd d v->Q v H'
theorem Dv{i j:Int}(h:i.natAbs<lim/\j.natAbs<lim):IntMulOk i j:=
 IntMulOk.of_bits (KF (PyProof.Rows.intBits_le (k:=4000) h.1) (by decide)) (KF (PyProof.Rows.intBits_le (k:=4000) h.2) (by decide))
theorem wX{j:Int}(h:j.natAbs<lim):j.natAbs.log2<9000:=by
 by_cases z:j.natAbs=0
 ·rw[z];decide
 ·exact Km ((Nat.log2_lt z).mpr h) (by decide)
theorem wY:fu X (binaryOp .Mult) (rI (λi j=>i.natAbs<lim/\j.natAbs<lim) λi j=>.int (i*j)):=yS λ_ _ _ _ _ _ _ hc q=>PyProof.Rows.mul_int q (Dv hc)
theorem tW:fu X (binaryOp .FloorDiv) (rI (λi j=>0<j/\j.natAbs<lim) λi j=>.int (i / j)):=yS λi j _ _ _ _ _ hc q=>by
 have h1:(0:Int)<j:=hc.1;exact PyProof.Rows.floordiv_int (by lia) (by rw[Lz i (by lia)];exact q) (.inl (PyProof.noPylong_of_log2 (wX hc.2)))
theorem wZ:fu X (binaryOp .LShift) (rI (λi j=>0<=j/\j<=1000000/\i.natAbs<lim) λi j=>.int (i*2^j.toNat)):=yS λi j _ _ _ _ _ hc q=>by
 have hb:=PyProof.Rows.intBits_le (k:=4000) hc.2.2;exact PyProof.Rows.lshift_int hc.1 (by have:=hc.2.1;lia) q
theorem tX{X:Cx}(op:Operator):fu X (binaryOp op) (GX X.K op):=by
 intro pins s σ H x y v u Q I rx ry h;obtain⟨g,H0,⟨kx,dx⟩,⟨ky,dy⟩,kd,d,m,sm,tx,ty,hb,q⟩:=h;dsimp only at tx ty
 cases dx with
 |int i=>cases dy with
  |int j=>
   obtain⟨rfl,rfl⟩:x=.int i/\y=.int j:=⟨tx.rd.int,ty.rd.int⟩
   have hb:(match m4 op i j with|some z=>some (Kd.sh,D.int z)|none=>none)=some (kd,d):=hb
   cases hz:m4 op i j with
   |none=>rw[hz] at hb;cases hb
   |some z=>
    rw[hz] at hb;cases hb;have q:Q (.int z) H:=q _ H (Same.refl H) ii
    cases op with
    |Add=>cases hz;exact z6 pins s σ H _ _ v u Q I rx ry ⟨_,_,rfl,rfl,q⟩
    |Sub=>cases hz;exact z7 pins s σ H _ _ v u Q I rx ry ⟨_,_,rfl,rfl,q⟩
    |Mult=>obtain⟨hm,rfl⟩:=n9 (show(if _ then some (i*j) else none)=some z from hz);exact wY pins s σ H _ _ v u Q I rx ry ⟨_,_,rfl,rfl,hm,q⟩
    |FloorDiv=>obtain⟨hm,rfl⟩:=n9 (show(if _ then some (i / j) else none)=some z from hz);exact tW pins s σ H _ _ v u Q I rx ry ⟨_,_,rfl,rfl,hm,q⟩
    |Mod=>obtain⟨hm,rfl⟩:=n9 (show(if _ then some (i%j) else none)=some z from hz);exact z8 pins s σ H _ _ v u Q I rx ry ⟨_,_,rfl,rfl,hm,q⟩
    |LShift=>obtain⟨hm,rfl⟩:=n9 (show(if _ then some (i*2^j.toNat) else none)=some z from hz);exact wZ pins s σ H _ _ v u Q I rx ry ⟨_,_,rfl,rfl,hm,q⟩
    |Pow=>obtain⟨hm,rfl⟩:=n9 (show(if _ then some (i^j.toNat) else none)=some z from hz);exact z9 pins s σ H _ _ v u Q I rx ry ⟨_,_,rfl,rfl,hm,q⟩
    |RShift=>obtain⟨hm,rfl⟩:=n9 (show(if _ then some (i / 2^j.toNat) else none)=some z from hz);exact Aa pins s σ H _ _ v u Q I rx ry ⟨_,_,rfl,rfl,hm,q⟩
    |BitAnd=>cases hz;exact Ab pins s σ H _ _ v u Q I rx ry ⟨_,_,rfl,rfl,q⟩
    |BitOr=>cases hz;exact C0 pins s σ H _ _ v u Q I rx ry ⟨_,_,rfl,rfl,q⟩
    |BitXor=>cases hz;exact Ac pins s σ H _ _ v u Q I rx ry ⟨_,_,rfl,rfl,q⟩
    |_=>cases hz
  |_=>cases hb
 |nd hd xs=>cases hd with
  |lst=>cases op with
   |Add=>cases dy with
    |nd hd' ys=>cases hd' with
     |lst=>
      obtain⟨hz,e⟩:=n9 (show(if _ then some (Kd.fr bq,D.lst (xs++ys)) else none)=some (kd,d) from hb)
      cases e;obtain⟨a,o,us,rfl,ga,qa,ra⟩:=tx.items hz.1 m sm;obtain⟨b,o',vs,rfl,gb,qb,rb⟩:=ty.items hz.2.1 m sm;cases(show o=_ from qa);cases(show o'=_ from qb);refine Ak pins s σ H _ _ v u Q I rx ry ⟨a,b,us,vs,rfl,rfl,ga,gb,by rw[ra.len,rb.len];exact a7 hz.2.2,λp hp=>q _ _ (al hp) (kF hp (ra.append rb))⟩
     |_=>cases hb
    |_=>cases hb
   |_=>cases hb
  |tup=>cases hb
  |_=>cases hb
 |str i=>cases hb
 |_=>cases hb
end J
namespace J
open PySem PySem.Spec L2
noncomputable def eR:D->Option aI
 |.int i=>some (.inl i)
 |.str x=>some (.inr x)
 |_=>none
noncomputable def eS:List D->Option (List aI)
 |[]=>some []
 |d::ds=>match eR d,eS ds with
  |some k,some ks=>some (k::ks)
  |_,_=>none
noncomputable def w4:D->Option (aI ⊕ List aI)
 |.nd .tup ds=>(eS ds).map .inr
 |d=>(eR d).map .inl
noncomputable def jD:List D->Option (List (aI ⊕ List aI))
 |[]=>some []
 |d::ds=>match w4 d,jD ds with
  |some k,some ks=>some (k::ks)
  |_,_=>none
noncomputable def y3:Nat->List (aI ⊕ List aI)->Bool
 |_,[]=>true
 |m,.inl _::r=>m%2==0&&y3 (m / 2) r
 |m,.inr _::r=>m%2==1&&y3 (m / 2) r
noncomputable def kG:D->Option DK
 |.nd .tup ds=>(jD ds).map .inr
 |d=>(eR d).map .inl
noncomputable def bN(ks:List DK)(k:DK):Option Nat:=ks.findIdx? λx=>decide (x=k)
section
variable {K:Ka} {H:Hp} {S:Pr}
theorem lW(h:eR d=some k)(r:Rp K H S d v):v=kV k:=by
 cases d<;>simp only[eR] at h<;>first|(cases h;done)|(cases h;first|exact r.int|exact r.str)
theorem m5:∀{ds:List D} {ks:List aI} {vs:List V},eS ds=some ks->RpL K H S ds vs->vs=ks.map kV
 |[],ks,vs,h,r=>by cases h;exact r.nil_inv
 |d::ds,ks,vs,h,r=>by
  obtain⟨y,ys,rfl,r1,r2⟩:=r.cons_inv;unfold eS at h;split at h
  ·rename_i k ks' e1 e2;cases h;rw[lW e1 r1,m5 e2 r2];rfl
  ·cases h
theorem lX:∀{ds:List D} {ks:List (aI ⊕ List aI)} {vs:List V} {m:Nat},jD ds=some ks->RpL K H S ds vs->y3 m ks=true->TkIts H m ks vs
 |[],ks,vs,m,h,r,hm=>by cases h;exact r.nil_inv
 |d::ds,ks,vs,m,h,r,hm=>by
  obtain⟨y,ys,rfl,r1,r2⟩:=r.cons_inv;unfold jD at h;split at h
  ·rename_i k ks' e1 e2;cases h
   cases k with
   |inl k=>
    simp only[y3,Ke,beq_iff_eq] at hm;refine⟨ys,?_,hm.1,lX e2 r2 hm.2⟩
    have:eR d=some k:=by
     unfold w4 at e1;split at e1
     ·cases e:eS _<;>rw[e] at e1<;>cases e1
     ·cases e:eR d with
      |none=>rw[e] at e1;cases e1
      |some z=>rw[e] at e1;cases e1;rfl
    rw[lW this r1]
   |inr k=>
    simp only[y3,Ke,beq_iff_eq] at hm;unfold w4 at e1;split at e1
    ·rename_i zs
     cases e:eS zs with
     |none=>rw[e] at e1;cases e1
     |some z=>
      rw[e] at e1;cases e1;obtain⟨a,o,xs,rfl,_,g,q,rl⟩:=r1.nd;cases(show o=_ from q);rw[m5 e rl] at g;exact⟨a,ys,rfl,hm.1,g,lX e2 r2 hm.2⟩
    ·cases e:eR d<;>rw[e] at e1<;>cases e1
  ·cases h
theorem jE(h:kG d=some k)(r:Rp K H S d v):(∃x,k=.inl x/\v=kV x)\/∃xs b,k=.inr xs/\v=.ref b/\∀m,y3 m xs=true->TkAt H m xs b:=by
 have sc:∀{d:D},(eR d).map Sum.inl=some k->Rp K H S d v->(∃x,k=.inl x/\v=kV x):=λ{d} h r=>by
  cases e:eR d with
  |none=>rw[e] at h;cases h
  |some x=>rw[e] at h;cases h;exact⟨x,rfl,lW e r⟩
 unfold kG at h;split at h
 ·rename_i ds
  cases e:jD ds with
  |none=>rw[e] at h;cases h
  |some ks=>
   rw[e] at h;cases h;obtain⟨a,o,xs,rfl,_,g,q,rl⟩:=r.nd;cases(show o=_ from q);exact .inr ⟨ks,a,rfl,rfl,λm hm=>⟨xs,g,lX e rl hm⟩⟩
 ·exact .inl (sc h r)
end
theorem ij{κ:Type}[DecidableEq κ]:∀(kvs:List (κ×V)) (k:κ),gr kvs k=(kvs.findIdx? λkv=>decide (kv.1=k)).bind λi=>(kvs.map (·.2))[i]?
 |[],k=>rfl
 |(a,b)::r,k=>by
  have ih:=ij r k;unfold gr at ih⊢;rw[Lj,KU];by_cases h:a=k
  ·simp[h]
  ·simp only[h,decide_false];rw[ih]
   cases e:r.findIdx? λkv=>decide (kv.1=k) with
   |none=>simp
   |some i=>simp
noncomputable def rH(t:Nat):DK->Bool
 |.inl _=>t==0
 |.inr xs=>(match t with|0=>false|m+1=>y3 m xs)
theorem p8{K:Ka}{H:Hp}{S:Pr}{a:Addr}{o:HO}{t:Nat}{ks:List DK}{xs:List V}{d:D}{k:DK}{v:V}(g:H a=some o)(q:eL K o (.dic t ks) xs)(h:kG d=some k)(r:Rp K H S d v)(hk:rH t k=true) :
  DGet H a v ((bN ks k).bind λi=>xs[i]?):=by
 rcases q with⟨rfl,kvs,rfl,e1,e2⟩|⟨m,rfl,kvs,ep,rfl,e1,e2⟩
 ·rcases jE h r with⟨x,rfl,rfl⟩|⟨ys,b,rfl,rfl,gb⟩
  ·have:=DGet.k (k:=x) g;rw[ij] at this
   have e3:bN ks (.inl x)=kvs.findIdx? λkv=>decide (kv.1=x):=by
    unfold bN;rw[e1,Ls];congr 1;funext p;simp[Sum.inl.injEq]
   rw[e3,e2];exact this
  ·cases hk
 ·rcases jE h r with⟨x,rfl,rfl⟩|⟨ys,b,rfl,rfl,gb⟩
  ·cases hk
  ·have:=DGet.t (k:=ys) g (gb m hk);rw[ij] at this
   have e3:bN ks (.inr ys)=kvs.findIdx? λkv=>decide (kv.1=ys):=by
    unfold bN;rw[e1,Ls];congr 1;funext p;simp[Sum.inr.injEq]
   rw[e3,e2];exact this
theorem w5{ks:List DK}{i:Nat}(h:bN ks k=some i):i<ks.length:=by
 unfold bN at h;exact(List.findIdx?_eq_some_iff_findIdx_eq.mp h).1
theorem w6{t:Nat}{ks:List DK}{xs:List V}(q:eL K o (.dic t ks) xs):ks.length=xs.length:=by
 rcases q with⟨rfl,kvs,rfl,e1,e2⟩|⟨m,rfl,kvs,ep,rfl,e1,e2⟩<;>rw[e1,e2,Kc,Kc]
theorem m6{ks:List DK}{xs:List V}(hl:ks.length=xs.length):((bN ks k).bind λi=>xs[i]?).isSome=(bN ks k).isSome:=by
 cases e:bN ks k with
 |none=>rfl
 |some i=>
  have:=w5 e;rw[K2,Kg (by lia)];rfl
noncomputable def tY:D->Bool
 |.non=>true
 |_=>false
noncomputable def AA(b:Bool):D->Bool
 |.bl c=>c==b
 |_=>false
noncomputable def bI(op:CmpOp)(x y:D):Option Bool:=
 match op with
 |.Lt=>(match x,y with|.int i,.int j=>some (decide (i<j))|_,_=>none)
 |.LtE=>(match x,y with|.int i,.int j=>some (decide (i<=j))|_,_=>none)
 |.Gt=>(match x,y with|.int i,.int j=>some (decide (j<i))|_,_=>none)
 |.GtE=>(match x,y with|.int i,.int j=>some (decide (j<=i))|_,_=>none)
 |.Eq=>if fv 90 x=true/\fv 90 y=true then some (sI x y) else none
 |.NotEq=>if fv 90 x=true/\fv 90 y=true then some (!sI x y) else none
 |.In=>none
 |.NotIn=>(match y with
  |.nd (.dic t ks) _=>(match kG x with|some k=>if rH t k=true then some (!(bN ks k).isSome) else none|none=>none)
  |_=>none)
 |.Is=>(match y with
  |.non=>some (tY x)
  |.bl b=>some (AA b x)
  |_=>none)
 |.IsNot=>(match y with
  |.non=>some (!tY x)
  |.bl b=>some (!AA b x)
  |_=>none)
noncomputable abbrev Nv:Pr:=λ_=>False
noncomputable def tZ(K:Ka)(op:CmpOp):R2:=λx y H Q=>∃dx dy b,Rp K H Nv dx x/\Rp K H Nv dy y/\bI op dx dy=some b/\Q (.bl b) H
theorem jF{X:Cx}(hu:X.A.units+100<cLine)(op:CmpOp):fu X (compareOp op) (tZ X.K op):=by
 intro pins s σ H x y v u Q I rx ry h;obtain⟨dx,dy,b,tx,ty,hb,q⟩:=h;have hu1:X.A.units+1<cLine:=by lia
 have fin:∀{b':Bool},b'=b->EP X pins σ Q (.bool b') s:=λe=>⟨.bl b,H,I,by rw[e];rfl,q⟩
 have isV:∀(b':Bool),dy=.bl b'->plainIs v u=true/\(v==u)=AA b' dx:=λb' e=>by
  subst e;have ey:=ty.bl;subst ey;cases ry
  cases dx with
  |non=>have e:=tx.non;subst e;cases rx;exact⟨rfl,rfl⟩
  |bl c=>have e:=tx.bl;subst e;cases rx;exact⟨rfl,by cases c<;>cases b'<;>rfl⟩
  |int i=>have e:=tx.int;subst e;obtain⟨t,rfl⟩:=rx;exact⟨rfl,rfl⟩
  |str i=>have e:=tx.str;subst e;obtain⟨t,rfl⟩:=rx;exact⟨rfl,rfl⟩
  |scr ns=>obtain⟨a,rfl,_⟩:=tx.scr;cases rx;exact⟨rfl,rfl⟩
  |nd hd ds=>obtain⟨a,o,xs,rfl,_⟩:=tx.nd;cases rx;exact⟨rfl,rfl⟩
 have isN:dy=.non->plainIs v u=true/\(v==u)=tY dx:=λe=>by
  subst e;have ey:=ty.non;subst ey;cases ry
  cases dx with
  |non=>have e:=tx.non;subst e;cases rx;exact⟨rfl,rfl⟩
  |bl c=>have e:=tx.bl;subst e;cases rx;exact⟨rfl,by cases c<;>rfl⟩
  |int i=>have e:=tx.int;subst e;obtain⟨t,rfl⟩:=rx;exact⟨rfl,rfl⟩
  |str i=>have e:=tx.str;subst e;obtain⟨t,rfl⟩:=rx;exact⟨rfl,rfl⟩
  |scr ns=>obtain⟨a,rfl,_⟩:=tx.scr;cases rx;exact⟨rfl,rfl⟩
  |nd hd ds=>obtain⟨a,o,xs,rfl,_⟩:=tx.nd;cases rx;exact⟨rfl,rfl⟩
 cases op with
 |Lt=>
  simp only[bI] at hb;split at hb
  ·cases hb;obtain rfl:=tx.int;obtain rfl:=ty.int;exact C3 pins s σ H _ _ v u Q I rx ry ⟨_,_,rfl,rfl,q⟩
  ·cases hb
 |LtE=>
  simp only[bI] at hb;split at hb
  ·cases hb;obtain rfl:=tx.int;obtain rfl:=ty.int;exact C4 pins s σ H _ _ v u Q I rx ry ⟨_,_,rfl,rfl,q⟩
  ·cases hb
 |Gt=>
  simp only[bI] at hb;split at hb
  ·cases hb;obtain rfl:=tx.int;obtain rfl:=ty.int;exact C5 pins s σ H _ _ v u Q I rx ry ⟨_,_,rfl,rfl,q⟩
  ·cases hb
 |GtE=>
  simp only[bI] at hb;split at hb
  ·cases hb;obtain rfl:=tx.int;obtain rfl:=ty.int;exact C6 pins s σ H _ _ v u Q I rx ry ⟨_,_,rfl,rfl,q⟩
  ·cases hb
 |Eq=>
  simp only[bI] at hb;split at hb
  ·rename_i hp;cases hb;obtain⟨⟨as,ra⟩,a1,a2⟩:=eQ I hp.1 tx rx;obtain⟨⟨bs,rb⟩,b1,b2⟩:=eQ I hp.2 ty ry;exact SeqAt.compareEq_reads ra rb a1 b1 (by lia) (fin rfl)
  ·cases hb
 |NotEq=>
  simp only[bI] at hb;split at hb
  ·rename_i hp;cases hb;obtain⟨⟨as,ra⟩,a1,a2⟩:=eQ I hp.1 tx rx;obtain⟨⟨bs,rb⟩,b1,b2⟩:=eQ I hp.2 ty ry;exact SeqAt.compareNe_reads ra rb a1 b1 (by lia) (fin rfl)
  ·cases hb
 |In=>cases hb
 |NotIn=>
  simp only[bI] at hb;split at hb
  ·rename_i t ks vs;split at hb
   ·rename_i k ek;split at hb
    ·rename_i hf;cases hb;obtain⟨a,o,xs,rfl,_,g,qd,rl⟩:=ty.nd;cases ry;refine wF (by lia) I (p8 g qd ek tx hf) rx λs3 I3=>⟨.bl _,H,I3,rfl,?_⟩;rw[m6 (w6 qd)];exact q
    ·cases hb
   ·cases hb
  ·cases hb
 |Is=>
  simp only[bI] at hb;split at hb
  ·cases hb;obtain⟨p,e⟩:=isN rfl;exact wpAny_is_plain p (fin e)
  ·cases hb;obtain⟨p,e⟩:=isV _ rfl;exact wpAny_is_plain p (fin e)
  ·cases hb
 |IsNot=>
  simp only[bI] at hb;split at hb
  ·cases hb;obtain⟨p,e⟩:=isN rfl;exact wpAny_isNot_plain p (fin (by rw[e]))
  ·cases hb;obtain⟨p,e⟩:=isV _ rfl;exact wpAny_isNot_plain p (fin (by rw[e]))
  ·cases hb
noncomputable def t0:D->Option Bool
 |.non=>some false
 |.bl b=>some b
 |.int i=>some (i != 0)
 |.scr ns=>some (!ns.isEmpty)
 |.nd .lst xs=>some (!xs.isEmpty)
 |.nd .tup xs=>some (!xs.isEmpty)
 |_=>none
theorem RpL.empty{ds:List D}{vs:List V}(h:RpL K H S ds vs):vs.isEmpty=ds.isEmpty:=by
 have:=h.len
 cases vs<;>cases ds<;>simp_all
theorem AB{b:Bool}(t:Rp K H S d v)(h:t0 d=some b):Af K v H b:=by
 cases d with
 |non=>obtain rfl:=t.non;cases h;rfl
 |bl k=>obtain rfl:=t.bl;cases h;rfl
 |int i=>obtain rfl:=t.int;cases h;rfl
 |str x=>cases h
 |scr ns=>
  obtain⟨a,rfl,g⟩:=t.scr;cases h
  exact .inl ⟨_,g,by cases ns<;>rfl⟩
 |nd hd xs=>
  obtain⟨a,o,us,rfl,_,g,q,r⟩:=t.nd
  cases hd with
  |lst=>cases h;cases(show o=_ from q);exact .inl ⟨us,.of g,by rw[r.empty]⟩
  |tup=>cases h;cases(show o=_ from q);exact .inr (.inl ⟨us,.of g,by rw[r.empty]⟩)
  |dic t ks=>cases h
  |obj c ns=>cases h
end J
namespace J
open PySem PySem.Spec L2
noncomputable def Ow.ch:Ow->Nat->Ow
 |.fz,_=>.fz
 |.own es r,i=>es.getD i r
noncomputable def v8:Kd->Nat->Kd
 |.sh,_=>.sh
 |.fr k,i=>(match k.ch i with|.fz=>.sh|c=>.fr c)
 |.bo j k,i=>(match k.ch i with|.fz=>.sh|c=>.bo j c)
section
variable {K:Ka} {H H' H0:Hp} {S:Pr} {g:Gh}
theorem TrL.len:∀{ds:List D} {es:List Ow} {r:Ow} {xs:List V} {F:Pr},TrL K H S ds es r xs F->xs.length=ds.length
 |[],_,_,_,_,h=>by unfold TrL at h;rw[h.1];rfl
 |d::ds,es,r,xs,F,h=>by
  unfold TrL at h;obtain⟨y,ys,F1,F2,rfl,_,_,_,h2⟩:=h;rw[KS,KS,TrL.len h2]
theorem TrL.get:∀{ds:List D} {es:List Ow} {r:Ow} {xs:List V} {F:Pr} {i:Nat} {d:D},TrL K H S ds es r xs F->ds[i]?=some d->∃x Fi,xs[i]?=some x/\(∀b,Fi b->F b)/\Tr K H S d (es.getD i r) x Fi
 |[],_,_,_,_,_,_,h,e=>by simp at e
 |d::ds,es,r,xs,F,0,d',h,e=>by
  unfold TrL at h;obtain⟨y,ys,F1,F2,rfl,hF,_,h1,h2⟩:=h;simp at e;subst e
  exact⟨y,F1,rfl,λb z=>(hF b).mpr (.inl z),by cases es<;>simpa using h1⟩
 |d::ds,es,r,xs,F,i+1,d',h,e=>by
  unfold TrL at h;obtain⟨y,ys,F1,F2,rfl,hF,_,h1,h2⟩:=h;obtain⟨x,Fi,e1,e2,e3⟩:=TrL.get h2 (by simpa using e)
  exact⟨x,Fi,by simpa using e1,λb z=>(hF b).mpr (.inr (e2 b z)),by cases es<;>simpa using e3⟩
theorem VR.ch{ds:List D}(h:VR K g H0 H kd (.nd hd ds) v):∃a o xs,v=.ref a/\H a=some o/\eL K o hd xs/\xs.length=ds.length/\∀(i:Nat) d,ds[i]?=some d->∃x,xs[i]?=some x/\VR K g H0 H (v8 kd i) d x:=by
 obtain⟨F,h1,h2⟩:=h
 have shc:∀{S':Pr},(∀b,g b≠none->S' b)->Rp K H S' (.nd hd ds) v->∃a o xs,v=.ref a/\H a=some o/\eL K o hd xs/\xs.length=ds.length/\∀(i:Nat) d,ds[i]?=some d->∃x,xs[i]?=some x/\VR K g H0 H .sh d x:=λhs r=>by
  obtain⟨a,o,xs,e,n,q1,q2,q3⟩:=r.nd;refine⟨a,o,xs,e,q1,q2,q3.len,λi d e=>?_⟩;obtain⟨x,e1,e2⟩:=q3.getD e;exact⟨x,e1,Du (e2.weak λb z=>hs b z)⟩
 cases kd with
 |sh=>exact shc (λb z=>.inl z) h2.2
 |fr k=>
  have h2:Tr K H (Sx g F) _ k v F:=h2
  cases k with
  |fz=>
   obtain⟨a,o,xs,e,q1,q2,q3,q4⟩:=shc (λb z=>.inl z) h2.fz_inv.2;exact⟨a,o,xs,e,q1,q2,q3,q4⟩
  |own es r=>
   unfold Tr at h2;obtain⟨a,o,xs,F',e,q1,q2,n1,n2,hF,t⟩:=h2;refine⟨a,o,xs,e,q1,q2,t.len,λi d e=>?_⟩;obtain⟨x,Fi,e1,e2,e3⟩:=t.get e;refine⟨x,e1,?_⟩;have hs:∀b o,H b=some o->¬Sx g F b->¬Sx g Fi b:=λb o _ n z=>n (z.imp id λz=>(hF b).mpr (.inr (e2 b z)))
   show VR K g H0 H (match es.getD i r with|.fz=>.sh|c=>.fr c) d x
   cases hc:es.getD i r with
   |fz=>
    rw[hc] at e3;exact Du (e3.fz_inv.2.weak λb z=>.inl z)
   |own es' r'=>
    rw[hc] at e3;exact⟨Fi,λb z=>h1 b ((hF b).mpr (.inr (e2 b z))),e3.go (λ_ _ _ h=>h) hs⟩
 |bo j k=>
  obtain⟨hn,F0,h3,h4⟩:=h2
  cases k with
  |fz=>
   obtain⟨a,o,xs,e,q1,q2,q3,q4⟩:=shc (λb z=>.inl z) h4.fz_inv.2;exact⟨a,o,xs,e,q1,q2,q3,q4⟩
  |own es r=>
   unfold Tr at h4;obtain⟨a,o,xs,F',e,q1,q2,n1,n2,hF,t⟩:=h4;refine⟨a,o,xs,e,q1,q2,t.len,λi d e=>?_⟩;obtain⟨x,Fi,e1,e2,e3⟩:=t.get e;refine⟨x,e1,?_⟩
   show VR K g H0 H (match es.getD i r with|.fz=>.sh|c=>.bo j c) d x
   cases hc:es.getD i r with
   |fz=>
    rw[hc] at e3;exact Du (e3.fz_inv.2.weak λb z=>.inl z)
   |own es' r'=>
    rw[hc] at e3;exact⟨F,h1,hn,Fi,λb z=>h3 b ((hF b).mpr (.inr (e2 b z))),e3⟩
end
structure Cz where
 sc:Scope
 N:List Str
 fn:Str->Bool
noncomputable abbrev Fn:=List D->Option KD
structure gz where
 fn:Str->Option Fn
 fm:Str->Option (Ka->Sp)
 cst:Str->Option D
 cf:Str->Option (List Str)
noncomputable def bF(x:Str):List Str->Option Nat
 |[]=>none
 |y::r=>if x=y then some 0 else(bF x r).map (·+1)
theorem bd{x:Str}:∀{N:List Str} {i:Nat},bF x N=some i->N[i]?=some x
 |[],_,h=>by cases h
 |y::r,i,h=>by
  unfold bF at h;split at h
  ·rename_i e;cases h;simp[e]
  ·cases q:bF x r with
   |none=>rw[q] at h;cases h
   |some j=>
    rw[q] at h;cases h;simpa using bd q
noncomputable def AC(sc:Scope)(x:Str):Bool:=sc.names.lookup x==some .local||sc.names.lookup x==some .cell||sc.names.lookup x==some .free
noncomputable def lY(c:Cz)(x:Str):Bool:=c.sc.names.lookup x==some .local||(c.fn x&&c.sc.names.lookup x==some .cell)
noncomputable def gA(scope:Scope)(x:Str):Bool:=scope.names.lookup x==some .cell
noncomputable def eM(sc:Scope)(x:Str):Bool:=sc.names.lookup x==some .globalImplicit
theorem lZ{x:Str}(h:AC sc x=true):CM sc x:=by
 simp only[AC,Lr,beq_iff_eq] at h;rcases h with(h|h)|h
 ·exact .inl h
 ·exact .inr (.inl h)
 ·exact .inr (.inr h)
noncomputable def l4(x:Str):Bool:=!(x==("__debug__":Str))&&!(x==("__classdict__":Str))
noncomputable def v9(K:Ka)(φ:Fn):Sp:=λvs H Q _=>∃ds g kd d,RpL K H (Sg g) ds vs/\MuOk H (Sg g)/\φ ds=some (kd,d)/\∀v H',Same H H'->VR K g H H' kd d v->Q v H'
noncomputable def aJ:List Str:=["len","isinstance","int","bool","list","all","range","enumerate","str","sum","min","max","abs","tuple","zip","dict","sorted","reversed","any","set","repr"]
noncomputable def GY(C:Addr)(sp sp':Sp):Prop:=∀vs H Q,sp vs H Q E0->∀a dx,H a=none->H dx=none->dx≠a->sp' (.ref a::vs) (upd (upd H dx (.own a)) a (.ins C dx [])) (λv H2=>v=.non/\Q (.ref a) H2) E0
noncomputable def l5(X:Cx)(x:Str)(sp:Sp):Prop:=
 (∃k f fd ps,FnOk X.prog X.w X.K X.mg X.base p4 k f fd ps sp/\Room k X.A/\X.mg x=some (.ref f)/\K3 X.K (.ref f)=true/\Binds X.K fd ps []/\(x==("__debug__":Str))=false)\/
 False
noncomputable def Jm(sp:Sp)(t:TA):TE:=λσ H Q=>t σ H λvs H1=>sp vs H1 Q E0
theorem y4{X:Cx}{x:Str}{t:TA}(tm:∀(σ:L2.St) (H:Hp) (Q R:List V->Hp->Prop),t σ H Q->(∀vs H1,Q vs H1->R vs H1)->t σ H R)(h:l5 X x sp)(hg:Gl X x)(ha:PA X (e::es) t)(he:starEach (e::es) X.env=(false,eval e X.env)::starEach es X.env)(hpl:(backTo pos (starEach es X.env)).any (·.1)=false) :
  PE X (.Call (.Name x p) (e::es) [] pos) (Jm sp t):=by
 intro pins s σ H Q I q;rcases h with⟨k,f,fd,ps,F,hr,hm,hk,hb,hdb⟩|h
 ·exact pU (E:=E0) F hr hg hm hk hb .nil tG ha hdb he hpl pins s σ H Q I (tm _ _ _ _ q λvs H1 z=>by rw[LK];exact z)
 ·exact h.elim
theorem AD{x:Str}(h:l5 X x sp)(hg:Gl X x):PE X (.Call (.Name x p) [] [] pos) (Jm sp Ag):=by
 intro pins s σ H Q I q;rcases h with⟨k,f,fd,ps,F,hr,hm,hk,hb,hdb⟩|h
 ·exact tu (E:=E0) F hr hg hm hk hb .nil tG hdb pins s σ H Q I q
 ·exact h.elim
structure Dw(X:Cx)(Γ:gz):Prop where
 fn:∀x φ,Γ.fn x=some φ->l5 X x (v9 X.K φ)
 cf:∀c fs C,Γ.cf c=some fs->LL X.K mainGlobals c=some (some (.ref C))->Cls X.K C/\∀a∈fs,lK X.K C a
 fm:∀x sp,Γ.fm x=some sp->∃k f fd ps,FnOk X.prog X.w X.K X.mg X.base p4 k f fd ps (sp X.K)/\Room k X.A/\X.mg x=some (.ref f)/\K3 X.K (.ref f)=true/\Binds X.K fd ps []/\(x==("__debug__":Str))=false
 bl:∀x∈aJ,X.mg x=none
 units:X.A.units+100<cLine
 gd:X.A.guards=some []
 cst:∀x d,Γ.cst x=some d->∃u v,X.mg x=some u/\RelV v u/\(∀H S,Rp X.K H S d v)/\(x==("__debug__":Str))=false
structure aB(X:Cx)(Γ:gz)(c:Cz):Prop where
 sc:X.env.scope=c.sc
 N:X.N=c.N
 fn:∀x,c.fn x=true->X.fn x=true
 calm:X.calm=true
 nd:c.N.Nodup
 tab:Dw X Γ
section
variable {X:Cx} {Γ:gz} {c:Cz}
theorem ce(O:aB X Γ c){x:Str}(h:eM c.sc x=true):Gl X x:=by
 show X.env.scope.names.lookup x=_;rw[O.sc];simpa[eM] using h
theorem jG(O:aB X Γ c){x:Str}(h:lY c x=true):zK X.env.scope x/\(X.fn x=true\/X.env.scope.names.lookup x=some .local):=by
 simp only[lY,Lr,Ke,beq_iff_eq] at h;rw[O.sc];rcases h with h|h
 ·exact⟨.inl h,.inr h⟩
 ·exact⟨.inr h.2,.inl (O.fn x h.1)⟩
noncomputable def oD(i:Nat)(o:Option (Option Sl)):Option KD:=match o with|some (some s)=>some (rG i s)|_=>none
noncomputable def d3(c:Cz)(x:Str):Option Nat:=match bF x c.N with|some i=>if AC c.sc x&&l4 x then some i else none|none=>none
theorem y6(O:aB X Γ c){x:Str}{i:Nat}(hc:d3 c x=some i)(pos:Pos):SndE X (λρ=>oD i ρ[i]?) (.Name x pos):=by
 intro ρ kd d h g σ H Q se q;unfold d3 at hc;split at hc
 ·rename_i j hj;split at hc
  ·rename_i hv;cases hc;simp only[Ke,l4,L0] at hv;dsimp only[oD] at h;split at h
   ·rename_i sl e;cases h;obtain⟨v,e1,e2⟩:=se.get e;exact aC (oh (i:=i) (by rw[O.N];exact bd hj) (by rw[O.sc];exact lZ hv.1) hv.2.1 hv.2.2) ⟨v,e1,q v H (Same.refl H) e2⟩
   ·cases h
  ·cases hc
 ·cases hc
theorem Dx(i:Int)(j:Nat)(pos:Pos):SndE X (λ_=>some (.sh,.int i)) (.Constant (.int i) j pos):=by
 intro ρ kd d h g σ H Q se q;cases h;exact aC zL (q _ H (Same.refl H) ii)
theorem GZ(i:Bool)(j:Nat)(pos:Pos):SndE X (λ_=>some (.sh,.bl i)) (.Constant (.bool i) j pos):=by
 intro ρ kd d h g σ H Q se q;cases h;exact aC CN (q _ H (Same.refl H) Cy)
theorem Dy(j:Nat)(pos:Pos):SndE X (λ_=>some (.sh,.non)) (.Constant .none j pos):=by
 intro ρ kd d h g σ H Q se q;cases h;exact aC zM (q _ H (Same.refl H) Dt)
theorem Dz(x:Str)(j:Nat)(pos:Pos):SndE X (λ_=>some (.sh,.str x)) (.Constant (.str x) j pos):=by
 intro ρ kd d h g σ H Q se q;cases h;exact aC zN (q _ H (Same.refl H) GW)
theorem DA(O:aB X Γ c){x:Str}{d:D}(hg:eM c.sc x=true)(e:Γ.cst x=some d)(pos:Pos):SndE X (λ_=>some (.sh,d)) (.Name x pos):=by
 intro ρ kd d' h g σ H Q se q;cases h;obtain⟨u,v,h1,h2,h3,h4⟩:=O.tab.cst x d e;exact aC (we (ce O hg) h1 h2 h4) (q v H (Same.refl H) (Du (h3 H _)))
theorem two{fa fb:Ro->Option KD}(ha:SndE X fa a)(hb:SndE X fb b){ρ:Ro}{ka kb:Kd}{da db:D}(ea:fa ρ=some (ka,da))(eb:fb ρ=some (kb,db)){g:Gh}{σ:L2.St}{H:Hp}{R:V->V->Hp->Prop}(se:SE X.K g ρ σ H)(q:∀x y H',Same H H'->VR X.K g H H' ka da x->VR X.K g H H' kb db y->R x y H'):wE X a σ H λx H1=>wE X b σ H1 λy H2=>R x y H2:=
 ha ρ ka da ea g σ H _ se λx H1 s1 v1=>hb ρ kb db eb g σ H1 _ (se.same s1) λy H2 s2 v2=>q x y H2 (s1.trans s2) (v1.same s2) (v2.older s1)
noncomputable def t5(op:Operator)(a b:Option KD):Option KD:=match a,b with
 |some x,some y=>dZ op x y
 |_,_=>none
theorem DB{fa fb:Ro->Option KD}(ha:SndE X fa a)(hb:SndE X fb b):SndE X (λρ=>t5 op (fa ρ) (fb ρ)) (.BinOp a op b pos):=by
 intro ρ kd d h g σ H Q se q;dsimp only[t5] at h;split at h
 ·rename_i x y ea eb;exact aC (yR (tX op) aA aA) (two ha hb ea eb se λvx vy H' s r1 r2=>⟨g,H,x,y,kd,d,se.mu,s,r1,r2,h,λv H2 s2 r=>q v H2 (s.trans s2) (r.older s)⟩)
 ·cases h
noncomputable def jH(op:CmpOp)(a b:Option KD):Option Bool:=match a,b with
 |some (_,x),some (_,y)=>bI op x y
 |_,_=>none
noncomputable def bV(o:Option Bool):Option KD:=o.map λb=>(.sh,.bl b)
theorem DC{fa fb:Ro->Option KD}{a b:Expr}{op:CmpOp}(O:aB X Γ c)(hm:behindInMarks op b=false)(ha:SndE X fa a)(hb:SndE X fb b):SndE X (λρ=>bV (jH op (fa ρ) (fb ρ))) (.Compare a [op] [b] pos):=by
 intro ρ kd d h g σ H Q se q
 cases hc:jH op (fa ρ) (fb ρ) with
 |none=>simp only[hc,bV] at h;cases h
 |some r=>
  simp only[hc,bV] at h;cases h;unfold jH at hc;split at hc
  ·rename_i ka x kb y ea eb;exact aC (wx (jF O.tab.units op) aA aA hm) (two ha hb ea eb se λvx vy H' s vx' vy'=>⟨x,y,r,vx'.rd,vy'.rd,hc,q _ H' s Cy⟩)
  ·cases hc
theorem DD{fa fb:Ro->Option KD}{a b:Expr}{op:CmpOp}(O:aB X Γ c)(hm:behindInMarks op b=false)(ha:SndE X fa a)(hb:SndE X fb b):SndT X (λρ=>jH op (fa ρ) (fb ρ)) (.Compare a [op] [b] pos):=by
 intro ρ r hc g σ H Q se q;dsimp only[jH] at hc;split at hc
 ·rename_i ka x kb y ea eb;exact mZ (pT (jF O.tab.units op) aA aA hm) (two ha hb ea eb se λvx vy H' s vx' vy'=>⟨x,y,r,vx'.rd,vy'.rd,hc,r,rfl,q H' s⟩)
 ·cases hc
noncomputable def ed(op op':CmpOp)(a b z:Option KD):Option Bool:=match a,b with
 |some (_,x),some (_,y)=>(match bI op x y with
  |some true=>(match z with|some (_,z)=>bI op' y z|none=>none)
  |some false=>some false
  |none=>none)
 |_,_=>none
theorem oE{fa fb fc:Ro->Option KD}(ha:SndE X fa a)(hb:SndE X fb b)(he:SndE X fc e){ρ:Ro}{r:Bool}(h:ed op op' (fa ρ) (fb ρ) (fc ρ)=some r){g:Gh}{σ:L2.St}{H:Hp}{Q:VK}(se:SE X.K g ρ σ H)(q:∀H',Same H H'->Q (.bl r) H') :
  sY (tZ X.K op) (tZ X.K op') (wE X a) (wE X b) (wE X e) σ H Q:=by
 unfold ed at h;split at h
 ·rename_i ka x kb y ea eb;split at h
  ·rename_i h1;split at h
   ·rename_i kz z ez;refine two ha hb ea eb se λvx vy H' s vx' vy'=>⟨x,y,true,vx'.rd,vy'.rd,h1,true,rfl,?_⟩;exact tI (he ρ kz z ez g σ H' _ (se.same s) λvz H2 s2 vz'=>⟨y,z,r,(vy'.same s2).rd,vz'.rd,h,q H2 (s.trans s2)⟩)
   ·cases h
  ·rename_i h1;cases h;exact two ha hb ea eb se λvx vy H' s vx' vy'=>⟨x,y,false,vx'.rd,vy'.rd,h1,false,rfl,tH (q H' s)⟩
  ·cases h
 ·cases h
theorem w8{fa fb fc:Ro->Option KD}(O:aB X Γ c)(hm:behindInMarks op' e=false)(ha:SndE X fa a)(hb:SndE X fb b)(he:SndE X fc e):SndT X (λρ=>ed op op' (fa ρ) (fb ρ) (fc ρ)) (.Compare a [op,op'] [b,e] pos):=by
 intro ρ r hc g σ H Q se q;exact mZ (sZ (jF O.tab.units op) (jF O.tab.units op') aA aA aA hm) (oE ha hb he hc se (Q:=λx H'=>∃k,x=.bl k/\Q k H') λH' s=>⟨r,rfl,q H' s⟩)
noncomputable def t6(a:Option KD):Option KD:=match a with|some (_,.int i)=>some (.sh,.int (-i))|_=>none
theorem DE{fa:Ro->Option KD}(ha:SndE X fa a):SndE X (λρ=>t6 (fa ρ)) (.UnaryOp .USub a pos):=by
 intro ρ kd d h g σ H Q se q;dsimp only[t6] at h;split at h
 ·rename_i ka i ea;cases h;exact aC (CZ Ae aA) (ha ρ _ _ ea g σ H _ se λv H' s r=>⟨i,r.rd.int,q _ H' s ii⟩)
 ·cases h
noncomputable def kH(a:Option KD):Option Bool:=match a with|some (_,d)=>t0 d|none=>none
theorem DF{fa:Ro->Option Bool}(ha:SndT X fa a):SndT X (λρ=>(fa ρ).map (!·)) (.UnaryOp .Not a pos):=by
 intro ρ r h g σ H Q se q
 cases e:fa ρ with
 |none=>simp only[e] at h;cases h
 |some b=>
  simp only[e] at h;cases h;exact mZ (zP gx) (ha ρ b e g σ H _ se λH' s=>q H' s)
theorem t7{fa:Ro->Option KD}{a:Expr}(ha:SndE X fa a)(hp:∀whole,isTrue a X.env whole=(do let v <- whole;standAt a.pos;holding [v] (truthy v))):SndT X (λρ=>kH (fa ρ)) a:=by
 intro ρ r h g σ H Q se q;dsimp only[kH] at h;split at h
 ·rename_i k d e;exact mZ (tf aA hp) (ha ρ _ _ e g σ H _ se λv H' s vr=>⟨r,AB vr.rd h,q H' s⟩)
 ·cases h
noncomputable def DG(t:Option Bool)(a b:Option KD):Option KD:=match t with|some true=>a|some false=>b|none=>none
theorem G0{ft:Ro->Option Bool}{fa fb:Ro->Option KD}(ht:SndT X ft t)(ha:SndE X fa a)(hb:SndE X fb b):SndE X (λρ=>DG (ft ρ) (fa ρ) (fb ρ)) (.IfExp t a b pos):=by
 intro ρ k d h g σ H Q se q;dsimp only[DG] at h;split at h
 ·rename_i e;exact aC (mG gx aA aA) (ht ρ _ e g σ H _ se λH1 s1=>tI (ha ρ k d h g σ H1 Q (se.same s1) λv H2 s2 r=>q v H2 (s1.trans s2) (r.older s1)))
 ·rename_i e;exact aC (mG gx aA aA) (ht ρ _ e g σ H _ se λH1 s1=>tH (hb ρ k d h g σ H1 Q (se.same s1) λv H2 s2 r=>q v H2 (s1.trans s2) (r.older s1)))
 ·cases h
noncomputable def ai:Expr->Bool
 |.Starred ..=>false
 |_=>true
theorem ak(h:ai e=true):starEach (e::es) env=(false,eval e env)::starEach es env:=by
 cases e<;>first|rfl|cases h
theorem bA{es:List Expr}(h:es.all ai=true):(backTo pos (starEach es env)).any (·.1)=false:=by
  have key:∀es:List Expr,es.all ai=true->∀p∈starEach es env,p.1=false:=by
    intro es
    induction es with
    |nil=>intro _ p hp;cases hp
    |cons e es ih=>
      intro h p hp;simp only[Lq,Ke] at h;rw[ak h.1] at hp;rcases Kn.mp hp with rfl|hp
      · rfl
      · exact ih h.2 p hp
  have k2:=key es h
  cases e:starEach es env with
  |nil=>rfl
  |cons p r=>
    rw[e] at k2
    have h0:∀q∈backTo pos (p::r),q.1=false:=by
      intro q hq;unfold backTo at hq
      first
        |exact k2 q hq
        | (simp only[KW,Kn] at hq
           first
             |(obtain⟨z,hz,rfl⟩:=hq;exact k2 z (by simpa using hz))
             | (rcases hq with rfl|hq
                · exact k2 p (by simp)
                · first
                    |exact k2 q (by simp[hq])
                    |(obtain⟨z,hz,rfl⟩:=hq;exact k2 z (by simp[hz]))))
    rw[Mz];intro q hq;rw[h0 q hq];decide
noncomputable def eJ(a:Option KD)(r:Option (List KD)):Option (List KD):=match a,r with|some x,some xs=>some (x::xs)|_,_=>none
theorem p9:iY X (λ_=>some []) []:=by
 intro ρ kds h g σ H Q se q;cases h;exact jC cV (q [] H (Same.refl H) .nil)
theorem l6{fa:Ro->Option KD}{fr:Ro->Option (List KD)}(hn:ai e=true)(ha:SndE X fa e)(hr:iY X fr es):iY X (λρ=>eJ (fa ρ) (fr ρ)) (e::es):=by
 intro ρ kds h g σ H Q se q;dsimp only[eJ] at h;split at h
 ·rename_i x xs e1 e2;cases h;obtain⟨k,d⟩:=x;refine jC (bp aA dc (ak hn)) (ha ρ k d e1 g σ H _ se λv H1 s1 r1=>?_);obtain⟨F1,a1,a2⟩:=r1;exact hr ρ xs e2 (g.plus F1) σ H1 _ (se.plus s1 a1 a2.dom) λvs H2 s2 r2=>q (v::vs) H2 (s1.trans s2) (.cons s1 s2 a1 a2 r2)
 ·cases h
theorem VRs.two(h:VRs K g H0 H [(k,d),(k',d')] vs):∃v v',vs=[v,v']/\VR K g H0 H k d v/\VR K g H0 H k' d' v':=by
 obtain⟨F,h1,y,ys,F1,F2,rfl,hF,dj,h3,z,zs,F3,F4,rfl,hF2,dj2,h5,rfl,h7⟩:=h;have e:∀b,F b↔F1 b\/F3 b:=λb=>(hF b).trans ⟨λz=>z.imp id λz=>((hF2 b).mp z).elim id λz=>absurd z (h7 b),λz=>z.imp id λz=>(hF2 b).mpr (.inl z)⟩;refine⟨y,z,rfl,⟨F1,λb z=>h1 b ((e b).mpr (.inl z)),h3.go (λ_ _ h=>h) λb _ _ z=>(e b).mpr (.inl z)⟩,⟨F3,λb z=>h1 b ((e b).mpr (.inr z)),h5.go (λ_ _ h=>h) λb _ _ z=>(e b).mpr (.inr z)⟩⟩
end
end J
namespace J
open PySem PySem.Spec L2
mutual
noncomputable def Ow.le:Ow->Ow->Bool
 |.fz,_=>true
 |.own es r,.own es' r'=>Ow.les es es'&&Ow.le r r'
 |.own _ _,.fz=>false
noncomputable def Ow.les:List Ow->List Ow->Bool
 |[],[]=>true
 |a::as,b::bs=>Ow.le a b&&Ow.les as bs
 |_,_=>false
end
theorem Ow.les_hd:∀{es es':List Ow} {r r':Ow},Ow.les es es'=true->Ow.le r r'=true->(es.headD r).le (es'.headD r')=true/\Ow.les es.tail es'.tail=true
 |[],[],_,_,_,h=>⟨h,rfl⟩
 |a::as,b::bs,_,_,h,_=>by rw[Ow.les,Ke] at h;exact h
 |[],_::_,_,_,h,_=>by simp[Ow.les] at h
 |_::_,[],_,_,h,_=>by simp[Ow.les] at h
section
variable {K:Ka} {H:Hp} {S:Pr}
mutual
theorem Tr.ofIm:∀{d:D} {k:Ow} {v:V},oB d=true->Rp K H S d v->Tr K H S d k v (λ_=>False)
 |.non,_,_,_,h=>by unfold Tr;exact⟨λ_ z=>z,h⟩
 |.bl _,_,_,_,h=>by unfold Tr;exact⟨λ_ z=>z,h⟩
 |.int _,_,_,_,h=>by unfold Tr;exact⟨λ_ z=>z,h⟩
 |.str _,_,_,_,h=>by unfold Tr;exact⟨λ_ z=>z,h⟩
 |.scr _,_,_,i,_=>by simp[oB] at i
 |.nd hd ds,.fz,_,_,h=>by unfold Tr;exact⟨λ_ z=>z,h⟩
 |.nd hd ds,.own es r,v,i,h=>by
  rw[oB,Ke] at i;have i1:hd.mu=false:=by simpa using i.1
  unfold Rp at h;unfold Tr;obtain⟨a,o,xs,e,n,g,q,t⟩:=h;exact⟨a,o,xs,λ_=>False,e,g,q,λ_ z=>z,λ_=>n,λb=>⟨λz=>z.elim,λz=>z.elim (λz=>by rw[i1] at z;cases z.1) id⟩,TrL.ofIm i.2 t⟩
theorem TrL.ofIm:∀{ds:List D} {es:List Ow} {r:Ow} {vs:List V},wR ds=true->RpL K H S ds vs->TrL K H S ds es r vs (λ_=>False)
 |[],_,_,_,_,h=>by unfold TrL;exact⟨h.nil_inv,λ_ z=>z⟩
 |d::ds,es,r,vs,i,h=>by
  rw[wR,Ke] at i;obtain⟨y,ys,rfl,h1,h2⟩:=h.cons_inv;unfold TrL;exact⟨y,ys,_,_,rfl,λb=>⟨λz=>z.elim,λz=>z.elim id id⟩,λ_ z=>z.elim,Tr.ofIm i.1 h1,TrL.ofIm i.2 h2⟩
end
theorem Tr.leaf{S':Pr}(hd:∀h ds,d≠.nd h ds)(h:Tr K H S d c v F)(hS:∀b,S' b->H b=none\/S b):Tr K H S' d k v (λ_=>False):=by
 cases d with
 |nd hh ds=>exact absurd rfl (hd hh ds)
 |_=>
  unfold Tr at h⊢;exact⟨λ_ z=>z,h.2.go λb o n e=>⟨e,λz=>(hS b z).elim (λq=>by rw[e] at q;cases q) n⟩⟩
mutual
theorem Tr.part:∀{d:D} {k c:Ow} {v:V} {F:Pr},k.le c=true->Tr K H S d c v F->∃F2:Pr,(∀b,F2 b->F b)/\∀S':Pr,(∀b,S' b->H b=none\/(S b/\(F b->F2 b)))->Tr K H S' d k v F2
 |.non,_,_,_,_,_,t=>⟨_,λ_ z=>z.elim,λS' hS=>t.leaf (λ_ _ e=>nomatch e) λb z=>(hS b z).imp id And.left⟩
 |.bl _,_,_,_,_,_,t=>⟨_,λ_ z=>z.elim,λS' hS=>t.leaf (λ_ _ e=>nomatch e) λb z=>(hS b z).imp id And.left⟩
 |.int _,_,_,_,_,_,t=>⟨_,λ_ z=>z.elim,λS' hS=>t.leaf (λ_ _ e=>nomatch e) λb z=>(hS b z).imp id And.left⟩
 |.str _,_,_,_,_,_,t=>⟨_,λ_ z=>z.elim,λS' hS=>t.leaf (λ_ _ e=>nomatch e) λb z=>(hS b z).imp id And.left⟩
 |.scr _,_,_,_,_,_,t=>⟨_,λ_ z=>z.elim,λS' hS=>t.leaf (λ_ _ e=>nomatch e) λb z=>(hS b z).imp id And.left⟩
 |.nd hd ds,.fz,c,v,F,_,t=>by
  refine⟨λ_=>False,λ_ z=>z.elim,λS' hS=>.fz ?_⟩;have r:Rp K H (λb=>S' b/\H b≠none) (.nd hd ds) v:=t.rp λb z=>(hS b z.1).elim (λq=>absurd q z.2) λq=>⟨q.1,q.2⟩;exact r.go λb o n e=>⟨e,λz=>n ⟨z,by rw[e];exact λh=>by cases h⟩⟩
 |.nd hd ds,.own es r,.fz,_,_,l,_=>by simp[Ow.le] at l
 |.nd hd ds,.own es r,.own es' r',v,F,l,t=>by
  rw[Ow.le,Ke] at l;unfold Tr at t;obtain⟨a,o,xs,F',e,g,q,n1,n2,hF,tl⟩:=t;obtain⟨G,g1,g2⟩:=TrL.part l.1 l.2 tl;refine⟨λb=>(hd.mu=true/\b=a)\/G b,λb z=>(hF b).mpr (z.imp id (g1 b)),λS' hS=>?_⟩;unfold Tr;refine⟨a,o,xs,G,e,g,q,λhm z=>n1 hm (g1 a z),λhm z=>(hS a z).elim (λq=>by rw[g] at q;cases q) λq=>n2 hm q.1,λb=>Iff.rfl,g2 S' λb z=>(hS b z).imp id λq=>⟨q.1,λf=>?_⟩⟩;exact(q.2 ((hF b).mpr (.inr f))).elim (λw=>absurd f (by rw[w.2];exact n1 w.1)) id
theorem TrL.part:∀{ds:List D} {es es':List Ow} {r r':Ow} {vs:List V} {F:Pr},Ow.les es es'=true->r.le r'=true->TrL K H S ds es' r' vs F->∃F2:Pr,(∀b,F2 b->F b)/\∀S':Pr,(∀b,S' b->H b=none\/(S b/\(F b->F2 b)))->TrL K H S' ds es r vs F2
 |[],_,_,_,_,_,_,_,_,t=>⟨λ_=>False,λ_ z=>z.elim,λS' _=>by unfold TrL at t⊢;exact⟨t.1,λ_ z=>z⟩⟩
 |d::ds,es,es',r,r',vs,F,l1,l2,t=>by
  unfold TrL at t;obtain⟨y,ys,F1,F2,e,hF,dj,t1,t2⟩:=t;have lh:=Ow.les_hd (r:=r) (r':=r') l1 l2;obtain⟨G1,a1,a2⟩:=Tr.part lh.1 t1;obtain⟨G2,b1,b2⟩:=TrL.part lh.2 l2 t2;refine⟨λb=>G1 b\/G2 b,λb z=>(hF b).mpr (z.imp (a1 b) (b1 b)),λS' hS=>?_⟩;unfold TrL;refine⟨y,ys,G1,G2,e,λb=>Iff.rfl,λb z1 z2=>dj b (a1 b z1) (b1 b z2),a2 S' λb z=>(hS b z).imp id λq=>⟨q.1,λf=>?_⟩,b2 S' λb z=>(hS b z).imp id λq=>⟨q.1,λf=>?_⟩⟩
  ·exact(q.2 ((hF b).mpr (.inl f))).elim id λw=>absurd (b1 b w) (dj b f)
  ·exact(q.2 ((hF b).mpr (.inr f))).elim (λw=>absurd f (dj b (a1 b w))) id
end
end
noncomputable def cw(k:Ow)(p:KD):Bool:=match k with
 |.fz=>mz p.1 p.2
 |k=>(match p.1 with|.fr c=>k.le c|_=>false)||oB p.2
noncomputable def oF:List Ow->Ow->List KD->Bool
 |_,_,[]=>true
 |es,r,p::ps=>cw (es.headD r) p&&oF es.tail r ps
section
variable {K:Ka} {H H' H0:Hp} {g:Gh} {Ft F:Pr}
theorem VR1.fit{p:KD}(h:cw k p=true)(m:MuOk H (Sx g Ft))(hd:∀b,F b->g b=none)(hs:∀b,F b->Ft b)(r:VR1 K H g Ft p.1 p.2 v F):∃F2:Pr,(∀b,F2 b->F b)/\∀S':Pr,(∀b,S' b->H b=none\/g b≠none\/F2 b\/(Ft b/\¬F b))->Tr K H S' p.2 k v F2:=by
 obtain⟨kd,d⟩:=p
 cases k with
 |fz=>
  refine⟨λ_=>False,λb z=>z.elim,λS' hS=>.fz ?_⟩
  have r1:Rp K H (λb=>S' b/\H b≠none) d v:=by
   cases kd with
   |sh=>
    refine r.2.weak λb z=>?_;rcases hS b z.1 with q|q|q|q
    ·exact absurd q z.2
    ·exact .inl q
    ·exact q.elim
    ·exact .inr q.1
   |fr c=>
    refine Tr.rp (λb z=>?_) r;rcases hS b z.1 with q|q|q|q
    ·exact absurd q z.2
    ·exact⟨.inl q,λz2=>q (hd b z2)⟩
    ·exact q.elim
    ·exact⟨.inr q.1,q.2⟩
   |bo i c=>
    refine r.rd.im (λb z=>?_) h;rcases hS b z.1 with q|q|q|q
    ·exact absurd q z.2
    ·exact m b (.inl q)
    ·exact q.elim
    ·exact m b (.inr q.1)
  exact r1.go λb o n e=>⟨e,λz=>n ⟨z,by rw[e];exact λh=>by cases h⟩⟩
 |own es r'=>
  rcases Lr _ _▸(show(_||_)=true from h) with h|h
  ·cases kd with
   |sh=>cases h
   |bo i c=>cases h
   |fr c=>
    obtain⟨F2,a1,a2⟩:=Tr.part h r;refine⟨F2,a1,λS' hS=>a2 S' λb z=>?_⟩;rcases hS b z with q|q|q|q
    ·exact .inl q
    ·exact .inr ⟨.inl q,λf=>absurd (hd b f) q⟩
    ·exact .inr ⟨.inr (hs b (a1 b q)),λ_=>q⟩
    ·exact .inr ⟨.inr q.1,λf=>absurd f q.2⟩
  ·refine⟨λ_=>False,λb z=>z.elim,λS' hS=>.ofIm h ?_⟩
   have r1:Rp K H (λb=>S' b/\H b≠none) d v:=by
    refine r.rd.im (λb z=>?_) h;rcases hS b z.1 with q|q|q|q
    ·exact absurd q z.2
    ·exact m b (.inl q)
    ·exact q.elim
    ·exact m b (.inr q.1)
   exact r1.go λb o n e=>⟨e,λz=>n ⟨z,by rw[e];exact λh=>by cases h⟩⟩
theorem VRL.fit:∀{kds:List KD} {es:List Ow} {r:Ow} {vs:List V} {F:Pr},oF es r kds=true->MuOk H (Sx g Ft)->(∀b,F b->g b=none)->(∀b,F b->Ft b)->VRL K H g Ft kds vs F->
  ∃F2:Pr,(∀b,F2 b->F b)/\∀S':Pr,(∀b,S' b->H b=none\/g b≠none\/F2 b\/(Ft b/\¬F b))->TrL K H S' (kds.map (·.2)) es r vs F2
 |[],es,r,vs,F,_,_,_,_,h=>⟨λ_=>False,λb z=>z.elim,λS' hS=>by unfold K6 TrL;exact⟨h.1,λb z=>z⟩⟩
 |p::ps,es,r,vs,F,hf,m,hd,hs,h=>by
  obtain⟨y,ys,F1,F2,rfl,hF,dj,h1,h2⟩:=h;unfold oF at hf;rw[Ke] at hf;obtain⟨G1,a1,a2⟩:=VR1.fit hf.1 m (λb z=>hd b ((hF b).mpr (.inl z))) (λb z=>hs b ((hF b).mpr (.inl z))) h1;obtain⟨G2,b1,b2⟩:=VRL.fit hf.2 m (λb z=>hd b ((hF b).mpr (.inr z))) (λb z=>hs b ((hF b).mpr (.inr z))) h2;refine⟨λb=>G1 b\/G2 b,λb z=>(hF b).mpr (z.imp (a1 b) (b1 b)),λS' hS=>?_⟩;show TrL K H S' (p.2::ps.map (·.2)) es r (y::ys) _;unfold TrL;refine⟨y,ys,G1,G2,rfl,λb=>Iff.rfl,λb z1 z2=>dj b (a1 b z1) (b1 b z2),a2 S' λb z=>?_,b2 S' λb z=>?_⟩
  ·rcases hS b z with q|q|(q|q)|q
   ·exact .inl q
   ·exact .inr (.inl q)
   ·exact .inr (.inr (.inl q))
   ·exact .inr (.inr (.inr ⟨hs b ((hF b).mpr (.inr (b1 b q))),λz=>dj b z (b1 b q)⟩))
   ·exact .inr (.inr (.inr ⟨q.1,λz=>q.2 ((hF b).mpr (.inl z))⟩))
  ·rcases hS b z with q|q|(q|q)|q
   ·exact .inl q
   ·exact .inr (.inl q)
   ·exact .inr (.inr (.inr ⟨hs b ((hF b).mpr (.inl (a1 b q))),λz=>dj b (a1 b q) z⟩))
   ·exact .inr (.inr (.inl q))
   ·exact .inr (.inr (.inr ⟨q.1,λz=>q.2 ((hF b).mpr (.inr z))⟩))
theorem VRs.node{kds:List KD}{hd:Hd}(hf:oF es r kds=true)(m:MuOk H0 (Sg g))(s:Same H0 H)(h:VRs K g H0 H kds vs)(hp:H p=none)(ho:eL K o hd vs)(hm:hd.mu=true) :
  VR K g H0 (upd H p o) (.fr (.own es r)) (.nd hd (kds.map (·.2))) (.ref p):=by
 obtain⟨F,h1,h2⟩:=h
 have hgF:∀b,F b->g b=none:=λb z=>by
  cases e:g b with
  |none=>rfl
  |some i=>
   obtain⟨o,q,_⟩:=m b (by rw[Sg,e];exact λh=>by cases h);rw[h1 b z] at q;cases q
 have mm:MuOk H (Sx g F):=λb z=>z.elim (λz=>m.same s b z) (λz=>h2.dom b z);obtain⟨F2,a1,a2⟩:=h2.fit hf mm hgF λb z=>z
 have np:¬F2 p:=λz=>by
  obtain⟨o,q,_⟩:=h2.dom p (a1 p z);rw[hp] at q;cases q
 refine⟨λb=>b=p\/F2 b,λb z=>z.elim (λz=>z▸s.free hp) λz=>h1 b (a1 b z),?_⟩;show Tr _ _ _ _ _ _ _;unfold Tr;refine⟨p,o,vs,F2,rfl,aG,ho,λ_=>np,λh=>by (rw[hm] at h;cases h),λb=>⟨λz=>z.imp (λz=>⟨hm,z⟩) id,λz=>z.imp (λz=>z.2) id⟩,?_⟩;refine(a2 (λb=>g b≠none\/F2 b) λb z=>.inr (z.imp id λz=>.inl z)).go (λb o' _ e=>al hp b o' e) λb o' e n z=>?_;rcases z with z|z|z
 ·exact n (.inl z)
 ·subst z;rw[hp] at e;cases e
 ·exact n (.inr z)
theorem VRs.tupO{kds:List KD}(hf:oF es r kds=true)(m:MuOk H0 (Sg g))(s:Same H0 H)(h:VRs K g H0 H kds vs)(hp:H p=none) :
  VR K g H0 (upd H p (.tup vs)) (.fr (.own es r)) (.tup (kds.map (·.2))) (.ref p):=by
 obtain⟨F,h1,h2⟩:=h
 have hgF:∀b,F b->g b=none:=λb z=>by
  cases e:g b with
  |none=>rfl
  |some i=>
   obtain⟨o,q,_⟩:=m b (by rw[Sg,e];exact λh=>by cases h);rw[h1 b z] at q;cases q
 have mm:MuOk H (Sx g F):=λb z=>z.elim (λz=>m.same s b z) (λz=>h2.dom b z);obtain⟨F2,a1,a2⟩:=h2.fit hf mm hgF λb z=>z
 have np:¬F2 p:=λz=>by
  obtain⟨o,q,_⟩:=h2.dom p (a1 p z);rw[hp] at q;cases q
 refine⟨F2,λb z=>h1 b (a1 b z),?_⟩;show Tr _ _ _ _ _ _ _;unfold Tr
 refine⟨p,_,vs,F2,rfl,aG,rfl,(λh=>nomatch h),λ_ z=>?_,λb=>⟨λz=>.inr z,λz=>z.elim (λz=>nomatch z.1) id⟩,?_⟩
 ·rcases z with z|z
  ·obtain⟨o,q,_⟩:=m.same s p z;rw[hp] at q;cases q
  ·exact np z
 ·exact(a2 (λb=>g b≠none\/F2 b) λb z=>.inr (z.imp id λz=>.inl z)).go (λb o' _ e=>al hp b o' e) λb o' e n z=>n z
end
noncomputable def l7(k:Ow)(a:Option (List KD)):Option KD:=match a with
 |some kds=>(match k with|.own es r=>if oF es r kds=true/\kds.length<=100000 then some (.fr (.own es r),.lst (kds.map (·.2))) else none|.fz=>none)
 |none=>none
noncomputable def gB(k:Ow)(a:Option (List KD)):Option KD:=match a with
 |some kds=>(match k with
  |.own es r=>if oF es r kds=true/\kds.length<=100000 then some (.fr (.own es r),.tup (kds.map (·.2))) else none
  |.fz=>if(kds.all λp=>mz p.1 p.2)=true/\kds.length<=100000 then some (.sh,.tup (kds.map (·.2))) else none)
 |none=>none
section
variable {X:Cx} {Γ:gz} {c:Cz}
theorem VRs.len{kds:List KD}{vs:List V}(h:VRs K g H0 H kds vs):vs.length=kds.length:=by
 have:=h.rd.len;rw[Kc] at this;exact this
theorem DH{f:Ro->Option (List KD)}(hf:iY X f es):SndE X (λρ=>l7 k (f ρ)) (.List es pos):=by
 intro ρ kd d h g σ H Q se q;dsimp only[l7] at h;split at h
 ·rename_i kds e;split at h
  ·split at h
   ·rename_i hz;cases h;refine aC (Ah dc) (hf ρ kds e g σ H _ se λvs H1 s1 r1=>⟨by rw[r1.len];exact a7 hz.2,λp hp=>?_⟩);exact q _ _ (s1.trans (al hp)) (r1.node hz.1 se.mu s1 hp rfl rfl)
   ·cases h
  ·cases h
 ·cases h
theorem DI{f:Ro->Option (List KD)}{n:Nat}(hf:iY X f es):SndE X (λρ=>gB k (f ρ)) (.Tuple es n pos):=by
 intro ρ kd d h g σ H Q se q;dsimp only[gB] at h;split at h
 ·rename_i kds e;split at h
  ·split at h
   ·rename_i hz;cases h;refine aC (lL dc) (hf ρ kds e g σ H _ se λvs H1 s1 r1=>⟨by rw[r1.len];exact a7 hz.2,λp hp=>?_⟩);exact q _ _ (s1.trans (al hp)) (r1.tupO hz.1 se.mu s1 hp)
   ·cases h
  ·split at h
   ·rename_i hz;cases h;refine aC (lL dc) (hf ρ kds e g σ H _ se λvs H1 s1 r1=>⟨by rw[r1.len];exact a7 hz.2,λp hp=>?_⟩);exact q _ _ (s1.trans (al hp)) ((Az (se.mu.same s1) hp (r1.sh hz.1 se.mu s1)).older s1)
   ·cases h
 ·cases h
noncomputable def cz:Expr->Bool
 |.Slice ..=>false
 |_=>true
theorem dw(h:cz b=true):pY b:=by
 intro o i
 cases b<;>first|rfl|cases h
noncomputable def FG(k:Kd)(xs:List D)(i:Int):Option KD:=match iK xs.length i with|some j=>(xs[j]?).map λd=>(v8 k j,d)|none=>none
noncomputable def G3(k:Kd)(x:D)(i:Int):Option KD:=match x with
 |.nd hd xs=>(match hd with|.lst=>FG k xs i|.tup=>FG k xs i|_=>none)
 |.scr ns=>(L2.pX ns i).map λd=>(.sh,.int d)
 |_=>none
noncomputable def AE(x:D):Option (Nat×List DK×List D):=match x with
 |.nd hd xs=>(match hd with|.dic t ks=>some (t,ks,xs)|_=>none)
 |_=>none
noncomputable def DJ(k:Kd)(p:Nat×List DK×List D)(y:D):Option KD:=none
noncomputable def AF(x y:KD):Option KD:=match AE x.2 with
 |some p=>DJ x.1 p y.2
 |none=>(match y.2 with|.int i=>G3 x.1 x.2 i|_=>none)
noncomputable def rJ(a b:Option KD):Option KD:=match a with
 |some x=>(match b with|some y=>AF x y|none=>none)
 |none=>none
noncomputable def G4(f:Str)(a:Option KD):Option KD:=match a with
 |some (ka,.nd (.obj _ ns) xs)=>(match bF f ns with|some j=>(xs[j]?).map λd=>(v8 ka j,d)|none=>none)
 |_=>none
theorem w9{α β:Type}(f:α->β)(xs:List α)(i:Int):L2.pX (xs.map f) i=(L2.pX xs i).map f:=by
 unfold L2.pX;rw[Kc]
 cases iK xs.length i with
 |none=>rfl
 |some j=>simp
theorem y7{α β:Type}{o:Option α}{g:α->β}{b:β}(h:o.map g=some b):∃a,o=some a/\b=g a:=by
 cases o with
 |none=>cases h
 |some a=>cases h;exact⟨a,rfl,rfl⟩
theorem t8{xs:List D}{i:Int}{r:KD}(h:FG k xs i=some r):∃j,iK xs.length i=some j/\xs[j]?=some r.2/\r.1=v8 k j:=by
 unfold FG at h
 cases e:iK xs.length i with
 |none=>rw[e] at h;cases h
 |some j=>
  rw[e] at h;obtain⟨d,e1,e2⟩:=y7 h;exact⟨j,rfl,by rw[e1,e2],by rw[e2]⟩
theorem xa{p:Nat×List DK×List D}(h:AE x=some p):x=.nd (.dic p.1 p.2.1) p.2.2:=by
 cases x with
 |nd hd xs=>cases hd with
  |dic t ks=>cases h;rfl
  |_=>cases h
 |_=>cases h
theorem qc{x y r:KD}(h:AF x y=some r):(∃i,y.2=.int i/\G3 x.1 x.2 i=some r)\/∃p,x.2=.nd (.dic p.1 p.2.1) p.2.2/\DJ x.1 p y.2=some r:=by
 unfold AF at h
 cases e:AE x.2 with
 |some p=>rw[e] at h;exact .inr ⟨p,xa e,h⟩
 |none=>
  rw[e] at h;obtain⟨ky,dy⟩:=y
  cases dy with
  |int i=>exact .inl ⟨i,rfl,h⟩
  |_=>cases h
theorem qe{i:Int}{Q:VK}(h:G3 k dx i=some (kd,d))(rx:VR K g H0 H2 k dx vx)(q:∀v,VR K g H0 H2 kd d v->Q v H2):Jk K vx (.int i) H2 Q:=by
 cases dx with
 |nd hd xs=>cases hd with
  |lst=>
   obtain⟨j,hj,e,rfl⟩:=t8 h;obtain⟨p,o,us,rfl,g1,q1,l1,c1⟩:=rx.ch;cases(show o=_ from q1);obtain⟨v,e1,e2⟩:=c1 j _ e;exact .inl ⟨p,us,i,v,rfl,rfl,.of g1,by unfold L2.pX;rw[l1,hj];exact e1,q v e2⟩
  |tup=>
   obtain⟨j,hj,e,rfl⟩:=t8 h;obtain⟨p,o,us,rfl,g1,q1,l1,c1⟩:=rx.ch;cases(show o=_ from q1);obtain⟨v,e1,e2⟩:=c1 j _ e;exact .inr (.inl ⟨p,us,i,v,rfl,rfl,.of g1,by unfold L2.pX;rw[l1,hj];exact e1,q v e2⟩)
  |_=>cases h
 |scr ns=>
  obtain⟨d',e,e'⟩:=y7 (show(L2.pX ns i).map _=some (kd,d) from h);cases e';obtain⟨p,rfl,g1⟩:=rx.rd.scr;exact .inl ⟨p,_,i,.int d',rfl,rfl,g1,by rw[w9,e];rfl,q _ ii⟩
 |_=>cases h
theorem G5(O:aB X Γ c){fa fb:Ro->Option KD}{a b:Expr}{pos:Pos}(ha:SndE X fa a)(hb:SndE X fb b)(hp:cz b=true):SndE X (λρ=>rJ (fa ρ) (fb ρ)) (.Subscript a b pos):=by
 intro ρ kd d h g σ H Q se q;dsimp only[rJ] at h
 cases ea:fa ρ with
 |none=>rw[ea] at h;cases h
 |some x=>cases eb:fb ρ with
  |none=>rw[ea,eb] at h;cases h
  |some y=>
   rw[ea,eb] at h;obtain⟨kx,dx⟩:=x;obtain⟨ky,dy⟩:=y;rcases qc h with⟨i,e,hh⟩|⟨p,e,hh⟩
   ·cases(show dy=_ from e);refine aC (pZ lP aA aA (dw hp)) (two ha hb ea eb se λvx vy H' s rx ry=>?_);obtain rfl:=ry.rd.int;exact qe hh rx λv r=>q v H' s r
   ·cases hh
noncomputable def kI(xs:List D)(lo hi:Option Int):List D:=(xs.drop (HT.ju xs.length 0 lo)).take (HT.ju xs.length xs.length hi-HT.ju xs.length 0 lo)
theorem RpL.cut(h:RpL K H S ds vs)(lo hi:Option Int):RpL K H S (kI ds lo hi) (rq vs lo hi):=by
 unfold kI rq;rw[h.len];exact(h.drop _).take _
noncomputable def wO(X:Cx)(e:Option Expr):TO:=λσ H Q=>∃t,PO X e t/\t σ H Q
theorem t9:PO X e (wO X e):=λpins s σ H Q I h=>let ⟨t,p,q⟩:=h;p pins s σ H Q I q
noncomputable def rK(X:Cx)(f:Ro->Option (Option Int))(e:Option Expr):Prop:=∀ρ o,f ρ=some o->∀g σ H Q,SE X.K g ρ σ H->(∀H',Same H H'->Q o H')->wO X e σ H Q
noncomputable def xb(a:Option KD):Option (Option Int):=match a with|some (_,.int i)=>some (some i)|_=>none
theorem AG:rK X (λ_=>some none) none:=λρ o h g σ H Q se q=>by cases h;exact⟨_,pV,q H (Same.refl H)⟩
theorem AH{f:Ro->Option KD}(hf:SndE X f e):rK X (λρ=>xb (f ρ)) (some e):=λρ o h g σ H Q se q=>by
 dsimp only[xb] at h;split at h
 ·rename_i k i ea;cases h;exact⟨_,pW aA,hf ρ _ _ ea g σ H _ se λv H' s r=>⟨i,r.rd.int,q H' s⟩⟩
 ·cases h
noncomputable def CA(a:Option KD)(lo hi:Option (Option Int)):Option KD:=match a,lo,hi with
 |some (ka,.nd .lst xs),some l,some u=>if fw ka xs=true then some (.fr bq,.lst (kI xs l u)) else none
 |some (_,.scr ns),some l,some u=>some (.fr bq,.lst (kI (ns.map .int) l u))
 |_,_,_=>none
theorem G6{fa:Ro->Option KD}{fl fh:Ro->Option (Option Int)}(ha:SndE X fa a)(hl:rK X fl lo)(hh:rK X fh hi):SndE X (λρ=>CA (fa ρ) (fl ρ) (fh ρ)) (.Subscript a (.Slice lo hi none p2) pos):=by
 intro ρ kd d h g σ H Q se q;dsimp only[CA] at h;split at h
 ·rename_i ka xs l u ea el eu;split at h
  ·rename_i hk;cases h;refine aC (jv lR aA t9 t9) (ha ρ _ _ ea g σ H _ se λx H1 s1 rx=>hl ρ _ el g σ H1 _ (se.same s1) λH2 s2=>hh ρ _ eu g σ H2 _ ((se.same s1).same s2) λH3 s3=>?_);obtain⟨p,o,us,rfl,g1,q1,r⟩:=((rx.same s2).same s3).items hk se.mu ((s1.trans s2).trans s3);cases(show o=_ from q1);exact⟨p,us,rfl,.of g1,λp' hp'=>q _ _ (((s1.trans s2).trans s3).trans (al hp')) ((kF hp' (r.cut l u)).older ((s1.trans s2).trans s3))⟩
  ·cases h
 ·rename_i ka ns l u ea el eu;cases h;refine aC (jv lR aA t9 t9) (ha ρ _ _ ea g σ H _ se λx H1 s1 rx=>hl ρ _ el g σ H1 _ (se.same s1) λH2 s2=>hh ρ _ eu g σ H2 _ ((se.same s1).same s2) λH3 s3=>?_);obtain⟨p,rfl,g1⟩:=((rx.same s2).same s3).rd.scr;exact⟨p,_,rfl,g1,λp' hp'=>q _ _ (((s1.trans s2).trans s3).trans (al hp')) ((kF hp' ((RpL.ints ns).cut l u)).older ((s1.trans s2).trans s3))⟩
 ·cases h
theorem RpL.pick{ds:List D}{us:List V}(r:RpL K H S ds us):∀is:List Nat,RpL K H S (is.filterMap λi=>ds[i]?) (is.filterMap λi=>us[i]?)
 |[]=>.nil
 |i::is=>by
  have ih:=RpL.pick r is;by_cases h:i<ds.length
  ·obtain⟨u,e1,e2⟩:=r.getD (Kg h);rw[KL,KL,Kg h,e1];exact .cons e2 ih
  ·rw[KL,KL,KY (by lia),KY (by rw[r.len];lia)];exact ih
noncomputable def DL(x:KD)(l:Option Int)(d:D):Option KD:=match x.2 with
 |.nd hd xs=>(match hd with
  |.lst=>(match d with|.int k=>if fw x.1 xs=true/\1<=k then some (.fr bq,.lst (G.cm xs l (some k))) else none|_=>none)
  |_=>none)
 |_=>none
noncomputable def rL(a:Option KD)(lo:Option (Option Int))(b:Option KD):Option KD:=match a with
 |some x=>(match lo with|some l=>(match b with|some y=>DL x l y.2|none=>none)|none=>none)
 |none=>none
theorem DM{fa fs:Ro->Option KD}{fl:Ro->Option (Option Int)}{a st:Expr}{lo:Option Expr}{p2 pos:Pos}(ha:SndE X fa a)(hl:rK X fl lo)(hs:SndE X fs st):SndE X (λρ=>rL (fa ρ) (fl ρ) (fs ρ)) (.Subscript a (.Slice lo none (some st) p2) pos):=by
 intro ρ kd d h g σ H Q se q;dsimp only at h
 cases ea:fa ρ with
 |none=>rw[ea] at h;cases h
 |some x=>cases el:fl ρ with
  |none=>rw[ea,el] at h;cases h
  |some l=>cases es:fs ρ with
   |none=>rw[ea,el,es] at h;cases h
   |some y=>
    rw[ea,el,es] at h;have h:DL x l y.2=some (kd,d):=h;obtain⟨kx,dx⟩:=x;obtain⟨ky,dy⟩:=y
    cases dx with
    |nd hd xs=>cases hd with
     |lst=>cases dy with
      |int k=>
       obtain⟨hk,e⟩:=n9 (show(if fw kx xs=true/\1<=k then some (Kd.fr bq,D.lst (G.cm xs l (some k))) else none)=some (kd,d) from h)
       cases e;refine aC (G.Ay aA t9 aA) (ha ρ _ _ ea g σ H _ se λv H1 s1 rx=>hl ρ _ el g σ H1 _ (se.same s1) λH2 s2=>hs ρ _ _ es g σ H2 _ ((se.same s1).same s2) λw H3 s3 ry=>?_);have s13:=(s1.trans s2).trans s3;obtain⟨p,o,us,rfl,g1,q1,rr⟩:=((rx.same s2).same s3).items hk.1 se.mu s13;cases(show o=_ from q1);obtain rfl:=ry.rd.int
       have rp:RpL X.K H3 (Sg g) (G.cm xs l (some k)) (G.cm us l (some k)):=by
        unfold G.cm;rw[rr.len];exact rr.pick _
       exact⟨p,us,k,rfl,rfl,by lia,.of g1,λp' hp'=>q _ _ (s13.trans (al hp')) ((kF hp' rp).older s13)⟩
      |_=>cases h
     |_=>cases h
    |_=>cases h
noncomputable def oG(a b:Option KD):Option KD:=match a,b with
 |some (ka,.nd .lst xs),some (_,.int i)=>if i=-1/\fw ka xs=true then some (.fr bq,.lst xs.reverse) else none
 |_,_=>none
theorem DN{fa fs:Ro->Option KD}{a st:Expr}{p2 pos:Pos}(ha:SndE X fa a)(hs:SndE X fs st):SndE X (λρ=>oG (fa ρ) (fs ρ)) (.Subscript a (.Slice none none (some st) p2) pos):=by
 intro ρ kd d h g σ H Q se q;dsimp only[oG] at h;split at h
 ·rename_i ka xs kb i ea eb;split at h
  ·rename_i hi;obtain⟨rfl,hk⟩:=hi;cases h;refine aC (At aA aA) (two ha hs ea eb se λx y H' s rx ry=>?_);obtain⟨p,o,us,rfl,g1,q1,r⟩:=rx.items hk se.mu s;cases(show o=_ from q1);obtain rfl:=ry.rd.int;exact⟨p,us,rfl,rfl,.of g1,λp' hp'=>q _ _ (s.trans (al hp')) ((kF hp' r.reverse).older s)⟩
  ·cases h
 ·cases h
end
end J
namespace J
open PySem PySem.Spec L2
mutual
noncomputable def Jn:Nat->D->Bool
 |_,.non=>true
 |_,.bl _=>true
 |_,.int i=>decide (i.natAbs<10^70)
 |_,.str x=>PyData.strOk (reprText x)&&x.cps.toList.all λc=>decide (c<16^8)
 |_,.scr _=>false
 |n,.nd .lst ds=>decide (1<=n)&&AI (n-1) ds
 |n,.nd .tup ds=>decide (1<=n)&&AI (n-1) ds
 |n,.nd (.dic t ks) _=>decide (1<=n)&&(decide (t=0)&&ks.isEmpty)
 |_,.nd (.obj _ _) _=>false
noncomputable def AI:Nat->List D->Bool
 |_,[]=>true
 |n,d::ds=>Jn n d&&AI n ds
end
mutual
noncomputable def Jo:D->Nat
 |.str x=>x.cps.size
 |.nd .lst ds=>G7 ds
 |.nd .tup ds=>G7 ds
 |_=>0
noncomputable def G7:List D->Nat
 |[]=>0
 |d::ds=>Jo d+1+G7 ds
end
section
variable {X:Cx} {pins:List (Addr×Obj)} {σ:L2.St} {H:Hp} {s:Shared} {S:Pr}
end
end J
namespace J
open PySem PySem.Spec L2
section
variable {X:Cx}
theorem kJ(hc:X.calm=true):CallR X (.builtin "all") (λxs H Q=>∃(p:Addr) (bs:List Bool),xs=[.ref p]/\SqL X.K H p (bs.map V.bl)/\Q (.bl (bs.all id)) H):=by
 intro pins s σ H xs us Q I r h;obtain⟨p,bs,rfl,hq,q⟩:=h;obtain⟨u,rfl,rx⟩:=eO r;cases rx;obtain⟨its,rv,pl,hz⟩:=I.list hq;have hlen:=rv.length;have hh:X.A.in1.handled=none:=I.ok.hd hc
 have hnz:p≠s.heap.objs.size:=by
  obtain⟨o,n,e,_⟩:=pl;exact KB (Kl e)
 refine call_all_walk (wpAny_pyIter_list pl.isList ?_)
 have hp:(s.heap.push { cls:=.type "list_iterator",data:=.fields #[.ref p,.int 0 0] }).IsList p its.toArray:=by
  obtain⟨o,e,r⟩:=pl.isList;exact⟨o,Kj _ e,r⟩
 refine⟨s.heap.objs.size,_,_,_,_,_,λi=>(bs[i]?).getD false,rfl,Walks.list hh s.heap.objs.size p hnz its.toArray,⟨⟨_,Ku _ rfl,rfl,rfl⟩,hp⟩,λi v s' Q' E' hP hQ=>?_,λh' tk hk=>?_⟩
 ·have hP':its[i]?=some v:=by simpa using hP
  cases hb:bs[i]? with
  |none=>
   have h1:(bs.map V.bl)[i]?=none:=by rw[Kf,hb];rfl
   rw[rv.none_of h1] at hP';cases hP'
  |some b=>
   have h1:(bs.map V.bl)[i]?=some (.bl b):=by rw[Kf,hb];rfl
   obtain⟨u,e1,e2⟩:=rv.get h1;rw[hP'] at e1;cases e1;cases e2;simp only[hb,ML] at hQ;exact wpAny_truthy_bool hQ
 ·have e:((Kh its.toArray.size).all λi=>(bs[i]?).getD false)=bs.all id:=by
   have hl:its.toArray.size=bs.length:=by rw[Ko,<- hlen,Kc]
   rw[hl,MU];simp only[KO,Lu,id];constructor
   ·intro h x hx;obtain⟨i,hi,rfl⟩:=List.mem_iff_getElem.mp hx;have:=h i hi;rw[Kg hi] at this;exact this
   ·intro h i hi;rw[Kg hi];exact h _ (Lo hi)
  rw[e];refine⟨.bl (bs.all id),H,I.kept λb o q'=>hk b o (λz=>?_) (Kj _ q'),rfl,q⟩;have:b=s.heap.objs.size:=by simpa using z
  exact absurd (this▸Kl q') (Ld _)
theorem m7:CallR X (.builtin "isinstance") (λxs H Q=>∃x T t b,xs=[x,.ty T]/\gq X.K H x t/\La X.K t (.type T)=some b/\Q (.bl b) H):=by
 intro pins s σ H xs us Q I r h;obtain⟨x,T,t,b,rfl,ty,e,q⟩:=h;obtain⟨u,w',rfl,r1,r2⟩:=yU r;cases r2;exact rk I r1 ty e λtk=>⟨.bl b,H,I.tok _,rfl,q⟩
theorem call_lenK:CallR X (.builtin "len") (λxs H Q=>∃a kvs,xs=[V.ref a]/\H a=some (.dK kvs)/\Q (.int kvs.length) H):=by
 intro pins s σ H xs us Q I r h;obtain⟨a,kvs,rfl,ha,q⟩:=h;obtain⟨u,rfl,ru⟩:=eO r;cases ru;exact Df I (.inl ha) λt s' I'=>⟨.int kvs.length,H,I',⟨t,rfl⟩,q⟩
theorem rM:CallR X (.builtin "len") (λxs H Q=>∃a m ep kvs,xs=[V.ref a]/\H a=some (.dT m ep kvs)/\Q (.int kvs.length) H):=by
 intro pins s σ H xs us Q I r h;obtain⟨a,m,ep,kvs,rfl,ha,q⟩:=h;obtain⟨u,rfl,ru⟩:=eO r;cases ru;exact As I (.inl ha) λt s' I'=>⟨.int kvs.length,H,I',⟨t,rfl⟩,q⟩
theorem rN:CallR X (.type "int") (λxs H Q=>∃b:Bool,xs=[.bl b]/\Q (.int (if b then 1 else 0)) H):=by
 intro pins s σ H xs us Q I r h;obtain⟨b,rfl,q⟩:=h;obtain⟨u,rfl,rx⟩:=eO r;cases rx;exact call_int_bool ⟨.int _,H,I.tok _,⟨_,rfl⟩,q⟩
end
noncomputable def ua:D->Option Nat
 |.nd .lst ds=>some ds.length
 |.nd .tup ds=>some ds.length
 |.nd (.dic _ _) ds=>some ds.length
 |.scr ns=>some ns.length
 |.str x=>if x.length<=100000 then some x.length else none
 |_=>none
noncomputable def cA:List D->Option (List Bool)
 |[]=>some []
 |.bl b::r=>(cA r).map (b::·)
 |_=>none
noncomputable def oH:List D->Option (List Int)
 |[]=>some []
 |.int b::r=>(oH r).map (b::·)
 |_=>none
theorem jI:∀{ds:List D} {bs:List Bool},cA ds=some bs->ds=bs.map D.bl
 |[],bs,h=>by cases h;rfl
 |d::r,bs,h=>by
  cases d<;>simp only[cA] at h<;>try cases h
  rename_i b
  cases e:cA r with
  |none=>rw[e] at h;cases h
  |some cs=>rw[e] at h;cases h;rw[jI e];rfl
theorem iN:∀ns:List Bool,cA (ns.map D.bl)=some ns
 |[]=>rfl
 |n::ns=>by simp[cA,iN ns]
theorem RpL.bools:∀{bs:List Bool} {vs:List V},RpL K H S (bs.map D.bl) vs->vs=bs.map V.bl
 |[],_,h=>h.nil_inv
 |b::bs,_,h=>by
  obtain⟨y,ys,rfl,r,t⟩:=h.cons_inv;rw[r.bl,RpL.bools t];rfl
noncomputable def ub(kds:List KD):Option KD:=match kds with|[(_,d)]=>(ua d).map λn=>(.sh,.int n)|_=>none
noncomputable def AJ(kds:List KD):Option KD:=match kds with|[(_,.nd .lst ds)]=>(cA ds).map λbs=>(.sh,.bl (bs.all id))|_=>none
noncomputable def JI(kds:List KD):Option KD:=match kds with|[(_,.nd .lst ds)]=>(cA ds).map λbs=>(.sh,.bl (bs.any id))|_=>none
noncomputable def uc(kds:List KD):Option KD:=match kds with
 |[(k,.nd .lst ds)]=>if fw k ds=true then some (.fr bq,.lst ds) else none
 |[(k,.nd .tup ds)]=>if fw k ds=true then some (.fr bq,.lst ds) else none
 |[(_,.scr ns)]=>some (.fr bq,.lst (ns.map D.int))
 |_=>none
noncomputable def AK:Kd->Kd
 |.fr (.own es (.own es' r))=>.fr (.own es (.own es' r))
 |_=>.sh
noncomputable def oI(kds:List KD):Option KD:=match kds with
 |[(k,.nd .lst ds)]=>if fw k ds=true then some (AK k,.tup ds) else none
 |_=>none
noncomputable def JJ(kds:List KD):Option KD:=match kds with|[(_,.int i)]=>if i.natAbs.log2<1920 then some (.sh,.str (toString i)) else none|_=>none
noncomputable def JK(kds:List KD):Option KD:=match kds with|[(_,.nd .lst ds)]=>(oH ds).map λns=>(.sh,.int ns.sum)|[(_,.scr ns)]=>some (.sh,.int ns.sum)|_=>none
noncomputable def AL(kds:List KD):Option KD:=match kds with|[(_,.int i),(_,.int j)]=>some (.sh,.int (if j<i then j else i))|_=>none
noncomputable def G8(n:Int)(ns:List Int):Int:=ns.foldl (λa b=>if a<b then b else a) n
noncomputable def JL(kds:List KD):Option KD:=match kds with
 |[(_,.int i),(_,.int j)]=>some (.sh,.int (if j > i then j else i))
 |[(_,.nd .lst ds)]=>(match J.oH ds with|some (n::ns)=>some (.sh,.int (G8 n ns))|_=>none)
 |_=>none
noncomputable def ld(a:Option KD):Option KD:=match a with
 |some (_,.int j)=>if 0<=j/\j<=100000 then some (.fr bq,.lst (((Kh j.toNat).map λ(i:Nat)=>(i:Int)).map D.int)) else none
 |_=>none
noncomputable def AM(kds:List KD):Option KD:=match kds with|[(_,.int i)]=>some (.sh,.int (if i<0 then -i else i))|_=>none
noncomputable def AN(kds:List KD):Option KD:=match kds with|[(_,.bl b)]=>some (.sh,.int (if b then 1 else 0))|_=>none
noncomputable def qf:List D->Option (List (Int×D))
 |[]=>some []
 |d::r=>match d with
  |.nd .tup ds=>(match ds with
   |[a,x]=>(match a with|.int z=>(qf r).map ((z,x)::·)|_=>none)
   |_=>none)
  |_=>none
noncomputable def aM(ps:List (Int×D)):D:=.nd (.dic 0 (ps.map λp=>Sum.inl (Sum.inl p.1))) (ps.map (·.2))
noncomputable def Jp(kds:List KD):Option KD:=match kds with
 |[(k,.nd .lst ds)]=>if fw k ds=true then(match qf ds with|some ps=>if(ps.map (·.1)).Nodup/\ps.length<=100000 then some (.fr bq,aM ps) else none|none=>none) else none
 |_=>none
noncomputable def AO(d:D):Option KD:=if Jn 98 d=true/\Jo d<=200000 then some (.sh,.str (py d).shown) else none
noncomputable def Jq(kds:List KD):Option KD:=match kds with
 |[(_,d)]=>AO d
 |_=>none
noncomputable def dR(x:Str):List KD->Option KD:=
 if x="len" then ub else if x="all" then AJ else if x="any" then(λ_=>none) else if x="list" then uc else if x="tuple" then oI else if x="str" then(λ_=>none) else if x="sum" then(λ_=>none)
 else if x="min" then AL else if x="max" then(λ_=>none) else if x="abs" then AM else if x="int" then AN else if x="dict" then(λ_=>none) else if x="repr" then(λ_=>none) else λ_=>none
noncomputable def oJ(x:Str)(a:Option (List KD)):Option KD:=match a with|some kds=>dR x kds|none=>none
noncomputable def Jr(X:Cx)(kds:List KD)(kd:Kd)(d:D)(Q:VK)(vs:List V)(H1:Hp):Prop:=∃g H0,MuOk H0 (Sg g)/\Same H0 H1/\VRs X.K g H0 H1 kds vs/\∀v H',Same H1 H'->VR X.K g H0 H' kd d v->Q v H'
noncomputable def StrictOk(X:Cx)(f:List KD->Option KD)(es:List Expr)(node:Expr):Prop:=∀kds kd d,f kds=some (kd,d)->∀σ H Q,wA X es σ H (Jr X kds kd d Q)->wE X node σ H Q
theorem bO{H:Hp}{Q Q':List V->Hp->Prop}(h:wA X es σ H Q)(k:∀vs H,Q vs H->Q' vs H):wA X es σ H Q':=λpos pins s I=>bx (h pos pins s I) λus s' ⟨vs,H',I',r,q⟩=>⟨vs,H',I',r,k vs H' q⟩
theorem cC{H:Hp}{Q Q':VK}(h:wE X e σ H Q)(k:∀v H,Q v H->Q' v H):wE X e σ H Q':=λpins s I=>bx (h pins s I) λu s' ⟨v,H',I',r,q⟩=>⟨v,H',I',r,k v H' q⟩
theorem StrictOk.snd{fa:Ro->Option (List KD)}(h:StrictOk X f es node)(ha:iY X fa es):SndE X (λρ=>(fa ρ).bind f) node:=by
 intro ρ kd d hd g σ H Q se q;dsimp only at hd
 cases e:fa ρ with
 |none=>rw[e] at hd;cases hd
 |some kds=>
  rw[e] at hd;exact h kds kd d hd σ H Q (ha ρ kds e g σ H _ se λvs H1 s1 r1=>⟨g,H,se.mu,s1,r1,λv H' s r=>q v H' (s1.trans s) r⟩)
noncomputable def eK(X:Cx)(x:Str)(f:List KD->Option KD):Prop:=∀(e:Expr) (es:List Expr) (p pos:Pos),Gl X x->ai e=true->es.all ai=true->StrictOk X f (e::es) (.Call (.Name x p) (e::es) [] pos)
section
variable {X:Cx} {Γ:gz} {c:Cz}
theorem DO(O:aB X Γ c):eK X "len" ub:=by
 intro e es p pos hg n1 n2 kds kd d h σ H Q hA;unfold ub at h;split at h
 ·rename_i ka da
  cases hl:ua da with
  |none=>rw[hl] at h;cases h
  |some n=>
   rw[hl] at h;cases h;refine aC (eP (call_len_seq.or (call_len_str.or (call_lenK.or rM))) hg (O.tab.bl _ (by simp[aJ])) PySem.boot_len dc (by decide) (by decide) (ak n1) (bA n2)) (bO hA λvs H1 ⟨g,H0,m,s1,r1,q⟩=>?_);obtain⟨v,rfl,r⟩:=r1.one;have t:=r.rd
   cases da with
   |scr ns=>
    obtain⟨a,rfl,g1⟩:=t.scr;cases hl;exact .inl ⟨a,_,rfl,.inl g1,q _ H1 (Same.refl H1) (by rw[Kc];exact ii)⟩
   |str x=>
    obtain rfl:=t.str;simp only[ua] at hl;split at hl
    ·rename_i hz;cases hl;exact .inr (.inl ⟨x,rfl,a7 hz,q _ H1 (Same.refl H1) ii⟩)
    ·cases hl
   |nd hd ds=>
    obtain⟨a,o,us,rfl,_,g1,q1,rr⟩:=t.nd
    cases hd with
    |lst=>cases hl;cases(show o=_ from q1);exact .inl ⟨a,us,rfl,.inl (.of g1),q _ H1 (Same.refl H1) (by rw[rr.len];exact ii)⟩
    |tup=>cases hl;cases(show o=_ from q1);exact .inl ⟨a,us,rfl,.inr (.of g1),q _ H1 (Same.refl H1) (by rw[rr.len];exact ii)⟩
    |dic tt ks=>
     cases hl;rcases q1 with⟨_,kvs,rfl,e1,e2⟩|⟨m,_,kvs,ep,rfl,e1,e2⟩
     ·exact .inr (.inr (.inl ⟨a,kvs,rfl,g1,q _ H1 (Same.refl H1) (by rw[<- rr.len,e2,Kc];exact ii)⟩))
     ·exact .inr (.inr (.inr ⟨a,m,ep,kvs,rfl,g1,q _ H1 (Same.refl H1) (by rw[<- rr.len,e2,Kc];exact ii)⟩))
    |obj c ns=>cases hl
   |_=>cases hl
 ·cases h
theorem DP(O:aB X Γ c):eK X "all" AJ:=by
 intro e es p pos hg n1 n2 kds kd d h σ H Q hA;unfold AJ at h;split at h
 ·rename_i ka ds
  cases hl:cA ds with
  |none=>rw[hl] at h;cases h
  |some bs=>
   rw[hl] at h;cases h;refine aC (eP (kJ O.calm) hg (O.tab.bl _ (by simp[aJ])) PyProof.Rows.boot_all dc (by decide) (by decide) (ak n1) (bA n2)) (bO hA λvs H1 ⟨g,H0,m,s1,r1,q⟩=>?_);obtain⟨v,rfl,r⟩:=r1.one;obtain⟨a,o,us,rfl,_,g1,q1,rr⟩:=r.rd.nd;cases(show o=_ from q1);rw[jI hl] at rr;exact⟨a,bs,rfl,.of (by rw[g1,rr.bools]),q _ H1 (Same.refl H1) Cy⟩
 ·cases h
theorem AQ(O:aB X Γ c):eK X "list" uc:=by
 intro e es p pos hg n1 n2 kds kd d h σ H Q hA;unfold uc at h;split at h
 ·rename_i ka ds;split at h
  ·rename_i hk;cases h;refine aC (dX d8 hg (O.tab.bl _ (by simp[aJ])) PyProof.Rows.boot_list dc (by decide) (by decide) (ak n1) (bA n2)) (bO hA λvs H1 ⟨g,H0,m,s1,r1,q⟩=>?_);obtain⟨v,rfl,r⟩:=r1.one;obtain⟨a,o,us,rfl,g1,q1,rr⟩:=r.items hk m s1;cases(show o=_ from q1);exact⟨a,us,rfl,.inl (.of g1),λl hl=>q _ _ (al hl) ((kF hl rr).older s1)⟩
  ·cases h
 ·rename_i ka ds;split at h
  ·rename_i hk;cases h;refine aC (dX d8 hg (O.tab.bl _ (by simp[aJ])) PyProof.Rows.boot_list dc (by decide) (by decide) (ak n1) (bA n2)) (bO hA λvs H1 ⟨g,H0,m,s1,r1,q⟩=>?_);obtain⟨v,rfl,r⟩:=r1.one;obtain⟨a,o,us,rfl,g1,q1,rr⟩:=r.items hk m s1;cases(show o=_ from q1);exact⟨a,us,rfl,.inr (.of g1),λl hl=>q _ _ (al hl) ((kF hl rr).older s1)⟩
  ·cases h
 ·rename_i ka ns;cases h;refine aC (dX d8 hg (O.tab.bl _ (by simp[aJ])) PyProof.Rows.boot_list dc (by decide) (by decide) (ak n1) (bA n2)) (bO hA λvs H1 ⟨g,H0,m,s1,r1,q⟩=>?_);obtain⟨v,rfl,r⟩:=r1.one;obtain⟨a,rfl,g1⟩:=r.rd.scr;exact⟨a,_,rfl,.inl g1,λl hl=>q _ _ (al hl) ((kF hl (RpL.ints ns)).older s1)⟩
 ·cases h
theorem ud{H0 H1:Hp}(m:MuOk H0 (Sg g))(s1:Same H0 H1)(h:VR K g H0 H1 (.fr (.own es r)) (.nd .lst ds) v) :
  ∃a us,v=.ref a/\H1 a=some (.lst us)/\∀l,H1 l=none->VR K g H0 (upd H1 l (.tup us)) (.fr (.own es r)) (.tup ds) (.ref l):=by
 obtain⟨F,h1,h2⟩:=h;have h2:Tr K H1 (Sx g F) (.nd .lst ds) (.own es r) v F:=h2;unfold Tr at h2;obtain⟨a,o,xs,F',rfl,g1,q1,n1,n2,hF,t⟩:=h2;cases(show o=_ from q1);refine⟨a,xs,rfl,g1,λl hl=>⟨F',λb z=>h1 b ((hF b).mpr (.inr z)),?_⟩⟩;show Tr K _ _ (.nd .tup ds) (.own es r) _ _;unfold Tr
 refine⟨l,.tup xs,xs,F',rfl,aG,rfl,(λh=>nomatch h),λ_ z=>?_,λb=>⟨.inr,λz=>z.elim (λz=>nomatch z.1) id⟩,t.go (λb o _ e=>al hl b o e) λb o _ n z=>n (z.imp id λz=>(hF b).mpr (.inr z))⟩
 rcases z with z|z
 ·obtain⟨o,e,_⟩:=m.same s1 l z;rw[hl] at e;cases e
 ·obtain⟨o,e,_⟩:=t.dom l z;rw[hl] at e;cases e
theorem xc(O:aB X Γ c):eK X "tuple" oI:=by
 intro e es p pos hg n1 n2 kds kd d h σ H Q hA;unfold oI at h;split at h
 ·rename_i ka ds;split at h
  ·rename_i hk;cases h;refine aC (dX kB hg (O.tab.bl _ (by simp[aJ])) PyProof.Rows.boot_tuple dc (by decide) (by decide) (ak n1) (bA n2)) (bO hA λvs H1 ⟨g,H0,m,s1,r1,q⟩=>?_);obtain⟨v,rfl,r⟩:=r1.one;unfold AK at q;split at q
   ·obtain⟨a,us,rfl,g1,z⟩:=ud m s1 r;exact⟨a,us,rfl,.inl ⟨.of g1,λl hl=>q _ _ (al hl) (z l hl)⟩⟩
   obtain⟨a,o,us,rfl,g1,q1,rr⟩:=r.items hk m s1;cases(show o=_ from q1);exact⟨a,us,rfl,.inl ⟨.of g1,λl hl=>q _ _ (al hl) ((Az (m.same s1) hl rr).older s1)⟩⟩
  ·cases h
 ·cases h
theorem DQ(O:aB X Γ c):eK X "min" AL:=by
 intro e es p pos hg n1 n2 kds kd d h σ H Q hA;unfold AL at h;split at h
 ·rename_i ka i kb j;cases h;refine aC (eP (rh O.calm) hg (O.tab.bl _ (by simp[aJ])) PyProof.Rows.boot_min dc (by decide) (by decide) (ak n1) (bA n2)) (bO hA λvs H1 ⟨g,H0,m,s1,r1,q⟩=>?_);obtain⟨v,v',rfl,r,r'⟩:=r1.two;obtain rfl:=r.rd.int;obtain rfl:=r'.rd.int;exact⟨i,j,rfl,q _ H1 (Same.refl H1) ii⟩
 ·cases h
theorem ue{e:Expr}(h:ai e=true):((backTo cp (starEach [e] env)).all (λx=>!x.1)&&(backToKw cp (keywordEach [] env)).all (λx=>x.1.isSome)
      && decide ([e].length+([]:List Keyword).length+(if([]:List Keyword).isEmpty then 0 else 1)<30))=true:=by
  rw[ak h];rfl
noncomputable def fJ:Expr->Bool
 |.Name x _=>!(x==("super":Str))
 |.Subscript ..=>true
 |.Attribute ..=>true
 |_=>false
theorem gC{m:Str}(h:fJ b=true):attributeBase b m env w=w:=by
 cases b with
 |Name x p=>
  unfold attributeBase;have h:(x==("super":Str))=false:=by simpa[fJ] using h
  simp[h]
 |Subscript a b p=>rfl
 |Attribute a b p=>rfl
 |_=>cases h
theorem AR(O:aB X Γ c){fa:Ro->Option KD}{a:Expr}{p p2 pos pos2:Pos}(hg:Gl X "list")(hg2:Gl X "range")(hn:ai a=true)(ha:SndE X fa a):SndE X (λρ=>ld (fa ρ)) (.Call (.Name "list" p) [.Call (.Name "range" p2) [a] [] pos2] [] pos):=by
 intro ρ kd d h g σ H Q se q;dsimp only[ld] at h;split at h
 ·rename_i ka j ea;split at h
  ·rename_i hj;cases h;refine aC (G.wQ O.calm hg (O.tab.bl _ (by simp[aJ])) hg2 (O.tab.bl _ (by simp[aJ])) (bp aA cV (ak hn)) (ak hn)) (ha ρ _ _ ea g σ H _ se λv H1 s1 r1=>?_);obtain rfl:=r1.rd.int;refine⟨j,rfl,hj.1,hj.2,λl hl=>q _ _ (s1.trans (al hl)) ?_⟩;have rr:=RpL.ints (K:=X.K) (H:=H1) (S:=Sg g) ((Kh j.toNat).map λ(i:Nat)=>(i:Int));rw[show((Kh j.toNat).map λ(i:Nat)=>V.int (i:Int))=((Kh j.toNat).map λ(i:Nat)=>(i:Int)).map V.int by rw[KH];rfl];exact(kF hl rr).older s1
  ·cases h
 ·cases h
inductive G9 (X:Cx) (ρ:Ro):List (Option Expr)->List Expr->List aI->List KD->Prop
 |nil:G9 X ρ [] [] [] []
 |cons {k v:Expr} {kD:D} {x:aI} {kv:Kd} {d:D} {f:Ro->Option KD} {ks:List (Option Expr)} {vs:List Expr} {xs:List aI} {kds:List KD}:SndE X (λ_=>some (.sh,kD)) k->eR kD=some x->SndE X f v->f ρ=some (kv,d)->mz kv d=true->G9 X ρ ks vs xs kds->G9 X ρ (some k::ks) (v::vs) (x::xs) ((kv,d)::kds)
noncomputable def jJ(m:Nat)(k a:Option KD):Option KD:=match k,a with
 |some (_,dk),some (kv,d)=>(match kG dk with
  |some (.inr xs)=>if y3 m xs=true/\mz kv d=true then some (.fr bq,.nd (.dic (m+1) [.inr xs]) [d]) else none
  |_=>none)
 |_,_=>none
theorem AS(O:aB X Γ c){fk fa:Ro->Option KD}{m:Nat}{k a:Expr}{pos:Pos}(hk:SndE X fk k)(ha:SndE X fa a):SndE X (λρ=>jJ m (fk ρ) (fa ρ)) (.Dict [some k] [a] pos):=by
 intro ρ kd d h g σ H Q se q;dsimp only[jJ] at h;split at h
 ·rename_i kk dk kv dv ek ea;split at h
  ·rename_i xs hx;obtain⟨hz,e⟩:=n9 h;cases e;refine aC (wL (m:=m) (by have:=O.tab.units;lia) aA aA) λp hp=>?_
   have se1:SE X.K (g.plus λb=>b=p) ρ σ (upd H p (.dT m 0 [])):=se.plus (al hp) (λb z=>z▸hp) λb z=>⟨.dT m 0 [],by rw[z];exact aG,λxs e=>nomatch e⟩
   refine hk ρ _ _ ek _ σ _ _ se1 λx1 H1 s1 rx=>ha ρ _ _ ea _ σ H1 _ (se1.same s1) λy H2 s2 ry=>?_;rcases jE hx rx.rd with⟨x,e,_⟩|⟨ys,b,e,rfl,gb⟩
   ·cases e
   cases e;have rp:Rp X.K H2 (Sg (g.plus λb=>b=p)) dv y:=ry.sh hz.2 (se1.same s1).mu s2;refine⟨s2 _ _ (s1 _ _ aG),xs,b,rfl,(gb m hz.1).keep λc zs ec=>s2 _ _ ec,λep=>q _ _ (λb o e=>?_) ?_⟩
   ·rw[am (av e hp)];exact s2 _ _ (s1 _ _ (al hp b o e))
   ·refine⟨λb=>b=p,λb z=>z▸hp,?_⟩;show Tr X.K _ _ _ _ _ _;unfold Tr
    refine⟨p,_,[y],λ_=>False,rfl,aG,.inr ⟨m,rfl,[(xs,y)],ep,rfl,rfl,rfl⟩,λ_ z=>z,(λh=>nomatch h),λb=>⟨λz=>.inl ⟨rfl,z⟩,λz=>z.elim (λz=>z.2) λz=>z.elim⟩,.ofFz (.cons (rp.go λb o n e=>?_) .nil)⟩
    have nb:¬(Sg g b\/b=p):=λz=>n ((ar b).mpr z);exact⟨by rw[am λz=>nb (.inr z)];exact e,nb⟩
  ·cases h
 ·cases h
theorem DR(O:aB X Γ c):eK X "abs" AM:=by
 intro e es p pos hg n1 n2 kds kd d h σ H Q hA;unfold AM at h;split at h
 ·rename_i ka i;cases h;refine aC (eP tj hg (O.tab.bl _ (by simp[aJ])) PyProof.Rows.boot_abs dc (by decide) (by decide) (ak n1) (bA n2)) (bO hA λvs H1 ⟨g,H0,m,s1,r1,q⟩=>?_);obtain⟨v,rfl,r⟩:=r1.one;obtain rfl:=r.rd.int;exact⟨i,rfl,q _ H1 (Same.refl H1) ii⟩
 ·cases h
theorem DS(O:aB X Γ c):eK X "int" AN:=by
 intro e es p pos hg n1 n2 kds kd d h σ H Q hA;unfold AN at h;split at h
 ·rename_i ka b;cases h;refine aC (dX rN hg (O.tab.bl _ (by simp[aJ])) PyProof.Rows.boot_int dc (by decide) (by decide) (ak n1) (bA n2)) (bO hA λvs H1 ⟨g,H0,m,s1,r1,q⟩=>?_);obtain⟨v,rfl,r⟩:=r1.one;obtain rfl:=r.rd.bl;exact⟨b,rfl,q _ H1 (Same.refl H1) ii⟩
 ·cases h
theorem d4{x:Str}:eK X x (λ_=>none):=λe es p pos hg n1 n2 kds kd d h=>by cases h
theorem ik{x y:Str}(h1:x=y->eK X x f)(h2:eK X x g):eK X x (if x=y then f else g):=by
 by_cases h:x=y
 ·rw[if_pos h];exact h1 h
 ·rw[if_neg h];exact h2
theorem m8(O:aB X Γ c)(x:Str):eK X x (dR x):=by
 unfold dR;refine ik (λh=>?_) ?_
 ·first|exact d4|(subst h;exact DO O)
 refine ik (λh=>?_) ?_
 ·first|exact d4|(subst h;exact DP O)
 refine ik (λh=>?_) ?_
 ·first|exact d4|(subst h;exact b_any O)
 refine ik (λh=>?_) ?_
 ·first|exact d4|(subst h;exact AQ O)
 refine ik (λh=>?_) ?_
 ·first|exact d4|(subst h;exact xc O)
 refine ik (λh=>?_) ?_
 ·first|exact d4|(subst h;exact b_str O)
 refine ik (λh=>?_) ?_
 ·first|exact d4|(subst h;exact b_sum O)
 refine ik (λh=>?_) ?_
 ·first|exact d4|(subst h;exact DQ O)
 refine ik (λh=>?_) ?_
 ·first|exact d4|(subst h;exact b_max O)
 refine ik (λh=>?_) ?_
 ·first|exact d4|(subst h;exact DR O)
 refine ik (λh=>?_) ?_
 ·first|exact d4|(subst h;exact DS O)
 refine ik (λh=>?_) ?_
 ·first|exact d4|(subst h;exact b_dict O)
 refine ik (λh=>?_) ?_
 ·first|exact d4|(subst h;exact b_repr O)
 ·intro e es p pos hg n1 n2 kds kd d h;cases h
theorem DT(O:aB X Γ c){x:Str}{e:Expr}{es:List Expr}{p pos:Pos}{fa:Ro->Option (List KD)}(hf:iY X fa (e::es))(hg:eM c.sc x=true)(n1:ai e=true)(n2:es.all ai=true):SndE X (λρ=>oJ x (fa ρ)) (.Call (.Name x p) (e::es) [] pos):=by
 have:=(m8 O x e es p pos (ce O hg) n1 n2).snd hf
 rw[show(λρ=>oJ x (fa ρ))=λρ=>(fa ρ).bind (dR x) by funext ρ;unfold oJ;cases fa ρ<;>rfl]
 exact this
end
end J
namespace J
open PySem PySem.Spec L2
inductive Src where
 |non|l (a:Addr) (ds:List D)|d (a:Addr) (m ep:Nat) (kvs:List (List (aI ⊕ List aI)×V))|t (a:Addr) (ds:List D)|two (s u:Src)
noncomputable def Src.P(K:Ka):Src->Gh->Hp->Prop
 |.non,_,_=>True
 |.l a ds,g,H=>∃xs,SqL K H a xs/\RpL K H (Sg g) ds xs
 |.d a m ep kvs,_,H=>H a=some (.dT m ep kvs)
 |.t a ds,g,H=>∃xs,SqT K H a xs/\RpL K H (Sg g) ds xs
 |.two s u,g,H=>s.P K g H/\u.P K g H
noncomputable def Src.isL(b:Addr):Src->Prop
 |.non=>False
 |.l a _=>a=b
 |.d a ..=>a=b
 |.t _ _=>False
 |.two s u=>s.isL b\/u.isL b
noncomputable def Src.isT(b:Addr):Src->Prop
 |.non=>False
 |.l _ _=>False
 |.d ..=>False
 |.t a _=>a=b
 |.two s u=>s.isT b\/u.isT b
noncomputable def Src.from(g:Gh)(H:Hp)(bs:List Nat):Src->Prop
 |.non=>True
 |.l a _=>g a=none\/∃i∈bs,g a=some (some i)
 |.d a ..=>g a=none\/∃i∈bs,g a=some (some i)
 |.t a _=>g a=none
 |.two s u=>s.from g H bs/\u.from g H bs
theorem Src.from.from_l{g:Gh}{bs:List Nat}{b:Addr}:∀{s:Src},s.from g H bs->s.isL b->g b=none\/∃i∈bs,g b=some (some i)
 |.l a _,h,e=>by cases(show a=b from e);exact h
 |.d a ..,h,e=>by cases(show a=b from e);exact h
 |.two s u,h,e=>by
  rcases(show s.isL b\/u.isL b from e) with e|e
  ·exact Src.from.from_l (show s.from g H bs/\u.from g H bs from h).1 e
  ·exact Src.from.from_l (show s.from g H bs/\u.from g H bs from h).2 e
 |.non,_,e=>e.elim
 |.t _ _,_,e=>e.elim
theorem Src.from.from_t{g:Gh}{bs:List Nat}{b:Addr}:∀{s:Src},s.from g H bs->s.isT b->g b=none
 |.t a _,h,e=>by cases(show a=b from e);exact h
 |.two s u,h,e=>by
  rcases(show s.isT b\/u.isT b from e) with e|e
  ·exact Src.from.from_t (show s.from g H bs/\u.from g H bs from h).1 e
  ·exact Src.from.from_t (show s.from g H bs/\u.from g H bs from h).2 e
 |.non,_,e=>e.elim
 |.l _ _,_,e=>e.elim
 |.d ..,_,e=>e.elim
theorem Src.from.from_H{bs:List Nat}:∀{s:Src},s.from g H bs->s.from g H' bs
 |.t a _,h=>h
 |.l a _,h=>h
 |.d ..,h=>h
 |.non,_=>trivial
 |.two s u,h=>⟨Src.from.from_H (show s.from g H bs/\u.from g H bs from h).1,Src.from.from_H (show s.from g H bs/\u.from g H bs from h).2⟩
theorem Src.from.from_mono{bs bs':List Nat}(k:∀i∈bs,i∈bs'):∀{s:Src},s.from g H bs->s.from g H bs'
 |.t a _,h=>h
 |.l a _,h=>Or.imp_right (λ⟨i,h1,h2⟩=>⟨i,k i h1,h2⟩) h
 |.d ..,h=>Or.imp_right (λ⟨i,h1,h2⟩=>⟨i,k i h1,h2⟩) h
 |.non,_=>trivial
 |.two s u,h=>⟨Src.from.from_mono k (show s.from g H bs/\u.from g H bs from h).1,Src.from.from_mono k (show s.from g H bs/\u.from g H bs from h).2⟩
section
variable {K:Ka} {H H':Hp} {g g':Gh}
theorem uf(k:∀o,H a=some o->H' a=some o)(h:SqL K H a xs):SqL K H' a xs:=by
 rcases h with(h|⟨o,h⟩)|h
 ·exact .inl (.inl (k _ h))
 ·exact .inl (.inr ⟨o,k _ h⟩)
 ·exact .inr h
theorem ug(k:∀o,H a=some o->H' a=some o)(h:SqT K H a xs):SqT K H' a xs:=by
 rcases h with(h|⟨o,h⟩)|h
 ·exact .inl (.inl (k _ h))
 ·exact .inl (.inr ⟨o,k _ h⟩)
 ·exact .inr h
theorem Src.mono(k2:∀b o,H b=some o->¬Sg g b->¬Sg g' b):∀{s:Src},(∀b o,(¬Sg g b\/s.isL b)->H b=some o->H' b=some o)->(∀a,s.isT a->g a=none)->s.P K g H->s.P K g' H'
 |.non,_,_,_=>trivial
 |.l a ds,k,ht,h=>by
  obtain⟨xs,h1,h2⟩:=h;exact⟨xs,uf (λo e=>k a o (.inr rfl) e) h1,h2.go λb o n e=>⟨k b o (.inl n) e,k2 b o e n⟩⟩
 |.d a m ep kvs,k,ht,h=>k a _ (.inr rfl) h
 |.t a ds,k,ht,h=>by
  obtain⟨xs,h1,h2⟩:=h;exact⟨xs,ug (λo e=>k a o (.inl (by rw[Sg,ht a rfl];simp)) e) h1,h2.go λb o n e=>⟨k b o (.inl n) e,k2 b o e n⟩⟩
 |.two s u,k,ht,h=>⟨Src.mono k2 (λb o z=>k b o (z.imp id .inl)) (λa z=>ht a (.inl z)) (show s.P K g H/\u.P K g H from h).1,Src.mono k2 (λb o z=>k b o (z.imp id .inr)) (λa z=>ht a (.inr z)) (show s.P K g H/\u.P K g H from h).2⟩
end
noncomputable def kK:aI->D
 |.inl i=>.int i
 |.inr x=>.str x
noncomputable def Ha:aI ⊕ List aI->D
 |.inl k=>kK k
 |.inr ks=>.tup (ks.map kK)
noncomputable def FH:DK->D
 |.inl k=>kK k
 |.inr xs=>.tup (xs.map Ha)
noncomputable def gE(K:Ka)(J:It)(s:Src)(ds:List D):Prop:=∀(i:Nat) (g:Gh) (H:Hp),s.P K g H->MuOk H (Sg g)->
 (ds.length<=i->J.stop i H)/\∀d,ds[i]?=some d->J.go i H/\∀x H',J.yld i H x H'->Same H H'/\Rp K H' (Sg g) d x
section
variable {K:Ka}
theorem AT:gE K (Cu K a) (.l a ds) ds:=by
 rintro i g H ⟨us,g1,r⟩ m
 refine⟨λhi=>⟨us,g1,by rw[r.len];exact hi⟩,λd hd=>?_⟩;obtain⟨x,e1,e2⟩:=r.getD hd;refine⟨⟨us,x,g1,e1⟩,λy H' hy=>?_⟩;obtain⟨rfl,hy⟩:=hy;have:=hy us g1;rw[e1] at this;cases this;exact⟨Same.refl _,e2⟩
theorem Hb:gE K (Gz K a) (.t a ds) ds:=by
 rintro i g H ⟨us,g1,r⟩ m
 refine⟨λhi=>⟨us,g1,by rw[r.len];exact hi⟩,λd hd=>?_⟩;obtain⟨x,e1,e2⟩:=r.getD hd;refine⟨⟨us,x,g1,e1⟩,λy H' hy=>?_⟩;obtain⟨rfl,hy⟩:=hy;have:=hy us g1;rw[e1] at this;cases this;exact⟨Same.refl _,e2⟩
theorem uh(k:aI):Rp K H S (kK k) (kV k):=by cases k<;>(unfold kK Rp;rfl)
theorem qg:∀ks:List aI,RpL K H S (ks.map kK) (ks.map kV)
 |[]=>.nil
 |k::ks=>.cons (uh k) (qg ks)
theorem oK(mu:MuOk H S):∀{m:Nat} {ks:List (aI ⊕ List aI)} {vs:List V},TkIts H m ks vs->RpL K H S (ks.map Ha) vs
 |_,[],vs,h=>by cases(show vs=[] from h);exact .nil
 |m,.inl k::ks,vs,h=>by obtain⟨r,rfl,_,t⟩:=h;exact .cons (uh k) (oK mu t)
 |m,.inr js::ks,vs,h=>by
  obtain⟨b,r,rfl,_,g,t⟩:=h;refine .cons ?_ (oK mu t);show Rp K H S (.nd .tup (js.map kK)) _;unfold Rp;exact⟨b,_,_,rfl,λz=>(let ⟨o,e,n⟩:=mu b z;by rw[g] at e;cases e;exact n _ rfl),g,rfl,qg js⟩
theorem Hc{m ep:Nat}{kvs:List (List (aI ⊕ List aI)×V)}:gE K (GO a m ep kvs) (.d a m ep kvs) (kvs.map λp=>FH (.inr p.1)):=by
 rintro i g H g1 mu
 refine⟨λhi=>⟨g1,by simpa using hi⟩,λd hd=>?_⟩;rw[Kf] at hd
 cases q:kvs[i]? with
 |none=>rw[q] at hd;cases hd
 |some p=>
  rw[q] at hd;cases hd;refine⟨⟨g1,(Kb.mp q).1⟩,λy H' hy=>?_⟩;obtain⟨rfl,p',b,e1,rfl,vs,e2,e3⟩:=hy;rw[q] at e1;cases e1;refine⟨Same.refl _,?_⟩;show Rp K H' (Sg g) (.nd .tup (p.1.map Ha)) _;unfold Rp;exact⟨b,_,vs,rfl,λz=>(let ⟨o,e,n⟩:=mu b z;by rw[e2] at e;cases e;exact n _ rfl),e2,rfl,oK mu e3⟩
theorem AU{ds:List D}:gE K (G.FF K a) (.l a ds) (ds.mapIdx λi d=>D.tup [.int i,d]):=by
 rintro i g H ⟨us,g1,r⟩ m
 refine⟨λhi=>⟨us,g1,by rw[r.len];simpa using hi⟩,λd hd=>?_⟩;rw[Lc] at hd
 cases q:ds[i]? with
 |none=>rw[q] at hd;cases hd
 |some d'=>
  rw[q] at hd;cases hd;obtain⟨x,e1,e2⟩:=r.getD q;refine⟨⟨us,x,g1,e1⟩,λy H' hy=>?_⟩;obtain⟨p,v,hp,rfl,rfl,hy⟩:=hy;have:=hy us g1;rw[e1] at this;cases this;refine⟨al hp,?_⟩;unfold Rp;refine⟨p,_,_,rfl,λz=>?_,aG,rfl,.cons (by unfold Rp;rfl) (.cons (e2.same (al hp)) .nil)⟩;obtain⟨o,q,_⟩:=m p z;rw[hp] at q;cases q
theorem DU{ds:List D}:gE K (G.GR K a) (.t a ds) (ds.mapIdx λi d=>D.tup [.int i,d]):=by
 rintro i g H ⟨us,g1,r⟩ m
 refine⟨λhi=>⟨us,g1,by rw[r.len];simpa using hi⟩,λd hd=>?_⟩;rw[Lc] at hd
 cases q:ds[i]? with
 |none=>rw[q] at hd;cases hd
 |some d'=>
  rw[q] at hd;cases hd;obtain⟨x,e1,e2⟩:=r.getD q;refine⟨⟨us,x,g1,e1⟩,λy H' hy=>?_⟩;obtain⟨p,v,hp,rfl,rfl,hy⟩:=hy;have:=hy us g1;rw[e1] at this;cases this;refine⟨al hp,?_⟩;unfold Rp;refine⟨p,_,_,rfl,λz=>?_,aG,rfl,.cons (by unfold Rp;rfl) (.cons (e2.same (al hp)) .nil)⟩;obtain⟨o,q,_⟩:=m p z;rw[hp] at q;cases q
theorem AV(lo:Int)(n:Nat):gE K (CU lo n) .non ((Kh n).map λ(k:Nat)=>D.int (lo+(k:Int))):=by
 rintro i g H _ m
 refine⟨λhi=>(by have hi':n<=i:=(by simpa using hi);exact hi'),λd hd=>?_⟩;rw[Kf] at hd
 cases q:(Kh n)[i]? with
 |none=>rw[q] at hd;cases hd
 |some j=>
  rw[q] at hd;cases hd
  have hlt:i<n:=by
   have:=(Kb.mp q).1;simpa using this
  have hj:j=i:=by
   rw[KN hlt] at q;cases q;rfl
  subst hj;refine⟨hlt,λx H' hy=>?_⟩;obtain⟨rfl,rfl⟩:=hy;exact⟨Same.refl _,by unfold Rp;rfl⟩
end
noncomputable def SndI(X:Cx)(f:Ro->Option (List Nat×List D))(tg iter:Expr):Prop:=∀ρ bs ds,f ρ=some (bs,ds)->∀g σ H R,SE X.K g ρ σ H->
 (∀J s H1,Same H H1->gE X.K J s ds->s.P X.K g H1->s.from g H bs->R J H1)->wI X tg iter σ H R
noncomputable def oM:Kd->List Nat
 |.bo i _=>[i]
 |_=>[]
noncomputable def gG(a:Option KD):Option (List Nat×List D):=match a with
 |some (k,.nd .lst ds)=>if fw k ds=true then some (oM k,ds) else none
 |some (_,.scr ns)=>some ([],ns.map D.int)
 |_=>none
noncomputable def l8(a:Option KD):Option (List Nat×List D):=match a with
 |some (k,.nd .tup ds)=>if fw k ds=true then some ([],ds) else none
 |some (k,.nd (.dic t ks) ds)=>if fw k ds=true/\t≠0 then some (oM k,ks.map FH) else none
 |a=>gG a
noncomputable def ui(a:Option KD):Option (List Nat×List D):=match a with
 |some (k,.nd .tup ds)=>if fw k ds=true then some ([],ds) else none
 |a=>gG a
noncomputable def m9(a:Option KD):Option (List Nat×List D):=(ui a).map λp=>(p.1,p.2.mapIdx λi d=>D.tup [.int i,d])
noncomputable def rO(xs ys:List D):List D:=List.zipWith (λx y=>D.tup [x,y]) xs ys
noncomputable def nc(a b:Option KD):Option (List Nat×List D):=match gG a with
 |some (bs,xs)=>(match gG b with|some (bs',ys)=>some (bs++bs',rO xs ys)|none=>none)
 |none=>none
noncomputable def ee(i j:Int):Bool:=decide (-(2^62)<=i)&&decide (i<2^62)&&decide (-(2^62)<=j)&&decide (j<2^62)&&decide (j-i<=100000)
noncomputable def cI(i j:Int):List D:=(Kh (j-i).toNat).map λ(k:Nat)=>D.int (i+(k:Int))
noncomputable def gH(a b:Option KD):Option (List Nat×List D):=match a,b with
 |some (_,.int i),some (_,.int j)=>if ee i j then some ([],cI i j) else none
 |_,_=>none
noncomputable def iO:Expr->Bool
 |.Tuple ..=>true
 |_=>false
section
variable {X:Cx} {Γ:gz} {c:Cz}
theorem VR.scrK{g:Gh}{ns:List Int}(h:VR K g H H1 k (.scr ns) v):∃a,v=.ref a/\((g a=none/\Rd H1 a (.lst (ns.map V.int)))\/Dm K a (ns.map V.int)):=by
 have key:∀{S:Pr},(∀b,g b≠none->S b)->Rp K H1 S (.scr ns) v->∃a,v=.ref a/\((g a=none/\Rd H1 a (.lst (ns.map V.int)))\/Dm K a (ns.map V.int)):=λhs r=>by
  unfold Rp at r;obtain⟨a,e,r⟩:=r;refine⟨a,e,r.imp (λr=>⟨?_,r.2⟩) id⟩
  cases q:g a with
  |none=>rfl
  |some i=>exact absurd (hs a (by rw[q];simp)) r.1
 obtain⟨F,h1,h2⟩:=h
 cases k with
 |sh=>exact key (λb z=>.inl z) h2.2
 |fr k=>have h2:Tr _ _ _ _ _ _ _:=h2;unfold Tr at h2;exact key (λb z=>.inl z) h2.2
 |bo i k=>obtain⟨_,F0,_,h4⟩:=h2;unfold Tr at h4;exact key (λb z=>.inl z) h4.2
theorem DV{g:Gh}{hd:Hd}(hm:hd.mu=true)(m:MuOk H (Sg g))(s1:Same H H1)(h:VR K g H H1 k (.nd hd ds) (.ref a)):g a=none\/∃i∈oM k,g a=some (some i):=by
 have nn:∀{S:Pr},(∀b,g b≠none->S b)->¬S a->g a=none:=λhs n=>by
  cases q:g a with
  |none=>rfl
  |some i=>exact absurd (hs a (by rw[q];simp)) n
 cases k with
 |sh=>
  left;obtain⟨F,h1,h2,h3⟩:=h;obtain⟨a',o',xs',e1,n1,_⟩:=h3.nd;cases e1;exact nn (λb z=>.inl z) n1
 |fr k=>
  left;obtain⟨a',o',xs',e1,n1,_⟩:=(h.sh rfl m s1).nd;cases e1;exact nn (λb z=>z) n1
 |bo i k=>
  obtain⟨F,h1,h2,F0,h3,h4⟩:=h
  cases k with
  |fz=>
   left;obtain⟨a',o',xs',e1,n1,_⟩:=h4.fz_inv.2.nd;cases e1;exact nn (λb z=>.inl z) n1
  |own es r=>
   right;unfold Tr at h4;obtain⟨a',o',xs',F',e1,_,_,_,_,hF,_⟩:=h4;cases e1;exact⟨i,K0.mpr rfl,h3 a ((hF a).mpr (.inl ⟨hm,rfl⟩))⟩
theorem gI{ds:List D}(m:MuOk H (Sg g))(s1:Same H H1)(h:VR K g H H1 k d v)(e:gG (some (k,d))=some (bs,ds)) :
  ∃a s,v=.ref a/\(∃xs,SqL K H1 a xs)/\gE K (Cu K a) s ds/\gE K (G.FF K a) s (ds.mapIdx λi d=>D.tup [.int i,d])/\s.P K g H1/\s.from g H bs:=by
 unfold gG at e;split at e
 ·rename_i k' ds' e';cases e';split at e
  ·rename_i hk;cases e;obtain⟨a,o,us,rfl,g1,q1,rr⟩:=h.items hk m s1;cases(show o=_ from q1);refine⟨a,.l a ds,rfl,⟨us,.of g1⟩,AT,AU,⟨us,.of g1,rr⟩,DV rfl m s1 h⟩
  ·cases e
 ·rename_i k' ns e';cases e';cases e;obtain⟨a,rfl,q⟩:=h.scrK;rcases q with⟨q1,q2⟩|q
  ·exact⟨a,.l a _,rfl,⟨_,.inl q2⟩,AT,AU,⟨_,.inl q2,RpL.ints ns⟩,.inl q1⟩
  ·refine⟨a,.non,rfl,⟨_,.inr q⟩,λi g' H' _ m'=>AT i g' H' ⟨_,.inr q,RpL.ints ns⟩ m',λi g' H' _ m'=>AU i g' H' ⟨_,.inr q,RpL.ints ns⟩ m',trivial,trivial⟩
 ·cases e
theorem DW{fa:Ro->Option KD}{tg e:Expr}(ha:SndE X fa e):SndI X (λρ=>l8 (fa ρ)) tg e:=by
 intro ρ bs ds h g σ H R se q;dsimp only at h
 cases ea:fa ρ with
 |none=>rw[ea] at h;cases h
 |some kd=>
  obtain⟨k,d⟩:=kd;rw[ea] at h;by_cases hx:∃x,d=.str x
  ·obtain⟨x,rfl⟩:=hx;cases h
  by_cases ht:∃ds',d=.tup ds'
  ·obtain⟨ds',rfl⟩:=ht;simp only[l8] at h;split at h
   ·rename_i hk;cases h;refine gy (z3 aA) (ha ρ k _ ea g σ H _ se λv H1 s1 r1=>?_);obtain⟨a,o,us,rfl,g1,q1,rr⟩:=r1.items hk se.mu s1;cases(show o=_ from q1);refine⟨a,rfl,⟨us,.of g1⟩,q _ (.t a ds) H1 s1 Hb ⟨us,.of g1,rr⟩ ?_⟩
    cases q2:g a with
    |none=>exact q2
    |some i=>
     obtain⟨o,e1,n⟩:=se.mu.same s1 a (by rw[Sg,q2];simp);rw[g1] at e1;cases e1;exact absurd rfl (n us)
   ·cases h
  by_cases hdc:∃t ks ds',d=.dic t ks ds'
  ·obtain⟨t,ks,ds',rfl⟩:=hdc;obtain⟨hk,e0⟩:=n9 h;cases e0;refine gy (wN aA) (ha ρ k _ ea g σ H _ se λv H1 s1 r1=>?_);obtain⟨a,o,us,rfl,g1,q1,rr⟩:=r1.items hk.1 se.mu s1;rcases q1 with⟨z,_⟩|⟨m,_,kvs,ep,rfl,e1,e2⟩
   ·exact absurd z hk.2
   refine⟨a,m,ep,kvs,rfl,g1,q _ (.d a m ep kvs) H1 s1 ?_ g1 (DV rfl se.mu s1 r1)⟩;rw[e1,KH];exact Hc
  ·have h':gG (some (k,d))=some (bs,ds):=by
    cases d with
    |nd hd ds'=>cases hd with
     |tup=>exact absurd ⟨ds',rfl⟩ ht
     |dic t ks=>exact absurd ⟨t,ks,ds',rfl⟩ hdc
     |_=>exact h
    |str x=>exact absurd ⟨x,rfl⟩ hx
    |_=>exact h
   refine gy (wm aA) (ha ρ k d ea g σ H _ se λv H1 s1 r1=>?_);obtain⟨a,s,rfl,h1,h2,_,h3,h4⟩:=gI se.mu s1 r1 h';exact⟨a,rfl,h1,q _ s H1 s1 h2 h3 h4⟩
theorem DX(O:aB X Γ c){fa:Ro->Option KD}{tg e:Expr}{p pos:Pos}(hg:eM c.sc "enumerate" = true)(hn:ai e=true)(ht:iO tg=true)(ha:SndE X fa e):SndI X (λρ=>m9 (fa ρ)) tg (.Call (.Name "enumerate" p) [e] [] pos):=by
 intro ρ bs ds h g σ H R se q;dsimp only at h
 cases ea:fa ρ with
 |none=>rw[ea] at h;cases h
 |some kd=>
  obtain⟨k,d⟩:=kd;rw[ea] at h;unfold m9 at h;by_cases hx:∃ds',d=.tup ds'
  ·obtain⟨ds',rfl⟩:=hx;simp only[ui] at h;split at h
   ·rename_i hk;cases h
    cases tg with
    |Tuple es kk tp=>
     refine gy (G.tS (ce O hg) (O.tab.bl _ (by simp[aJ])) (bp aA cV (ak hn)) (ak hn)) (ha ρ _ _ ea g σ H _ se λv H1 s1 r1=>?_);obtain⟨a,o,us,rfl,g1,q1,rr⟩:=r1.items hk se.mu s1;cases(show o=_ from q1);refine⟨a,rfl,⟨us,.of g1⟩,q _ (.t a ds') H1 s1 DU ⟨us,.of g1,rr⟩ ?_⟩
     cases q2:g a with
     |none=>exact q2
     |some i=>
      obtain⟨o,e1,n⟩:=se.mu.same s1 a (by rw[Sg,q2];simp);rw[g1] at e1;cases e1;exact absurd rfl (n us)
    |_=>exact absurd ht (by simp[iO])
   ·cases h
  have h0:ui (some (k,d))=gG (some (k,d)):=by
   cases d with
   |nd hd ds'=>cases hd with
    |tup=>exact absurd ⟨ds',rfl⟩ hx
    |_=>rfl
   |_=>rfl
  rw[h0] at h
  cases h':gG (some (k,d)) with
  |none=>rw[h'] at h;cases h
  |some r=>
   obtain⟨bs',ds'⟩:=r;rw[h'] at h;cases h
   cases tg with
   |Tuple es kk tp=>
    refine gy (G.wP (ce O hg) (O.tab.bl _ (by simp[aJ])) (bp aA cV (ak hn)) (ak hn)) (ha ρ _ _ ea g σ H _ se λv H1 s1 r1=>?_);obtain⟨a,s,rfl,h1,_,h2,h3,h4⟩:=gI se.mu s1 r1 h';exact⟨a,rfl,h1,q _ s H1 s1 h2 h3 h4⟩
   |_=>exact absurd ht (by simp[iO])
theorem AW(O:aB X Γ c){fa:Ro->Option KD}{tg e:Expr}{p pos:Pos}(hg:eM c.sc "range" = true)(hn:ai e=true)(ha:SndE X fa e):SndI X (λρ=>gH (some (.sh,.int 0)) (fa ρ)) tg (.Call (.Name "range" p) [e] [] pos):=by
 intro ρ bs ds h g σ H R se q;dsimp only[gH] at h;split at h
 ·rename_i k1 i k2 j e1 ea;cases e1;split at h
  ·rename_i hr;simp only[ee,Ke,decide_eq_true_eq] at hr;cases h;refine gy (kQ (ce O hg) (O.tab.bl _ (by simp[aJ])) (bp aA cV (ak hn)) (ak hn)) (ha ρ _ _ ea g σ H _ se λv H1 s1 r1=>?_);obtain rfl:=r1.rd.int;refine⟨j,rfl,hr.1.1.2,hr.1.2,q _ .non H1 s1 ?_ trivial trivial⟩;unfold cI;rw[Mt];exact AV 0 _
  ·cases h
 ·cases h
theorem AX(O:aB X Γ c){fa fb:Ro->Option KD}{tg e e2:Expr}{p pos:Pos}(hg:eM c.sc "range" = true)(hn:ai e=true)(hn2:ai e2=true)(ha:SndE X fa e)(hb:SndE X fb e2):SndI X (λρ=>gH (fa ρ) (fb ρ)) tg (.Call (.Name "range" p) [e,e2] [] pos):=by
 intro ρ bs ds h g σ H R se q;dsimp only[gH] at h;split at h
 ·rename_i k1 i k2 j ea eb;split at h
  ·rename_i hr;simp only[ee,Ke,decide_eq_true_eq] at hr;cases h;refine gy (rf (ce O hg) (O.tab.bl _ (by simp[aJ])) (bp aA (bp aA cV (ak hn2)) (ak hn)) (by rw[ak hn,ak hn2];rfl) (ak hn2)) ?_;refine two ha hb ea eb se λx y H1 s1 rx ry=>?_;obtain rfl:=rx.rd.int;obtain rfl:=ry.rd.int;exact⟨i,j,rfl,⟨hr.1.1.1.1,hr.1.1.1.2,hr.1.1.2,hr.1.2⟩,q _ .non H1 s1 (AV i _) trivial trivial⟩
  ·cases h
 ·cases h
theorem AY(h1:gE K (Cu K a) s xs)(h2:gE K (Cu K b) u ys):gE K (G.GS K a b) (.two s u) (rO xs ys):=by
 intro i g H hp m;have hp:s.P K g H/\u.P K g H:=hp;obtain⟨s1,g1⟩:=h1 i g H hp.1 m;obtain⟨s2,g2⟩:=h2 i g H hp.2 m
 have q1:∃us,SqL K H a us/\(xs.length<=i->us.length<=i):=by
  by_cases hi:xs.length<=i
  ·obtain⟨us,e1,e2⟩:=s1 hi;exact⟨us,e1,λ_=>e2⟩
  ·obtain⟨⟨us,x,e1,_⟩,_⟩:=g1 _ (Kg (MM hi));exact⟨us,e1,λz=>absurd z hi⟩
 have q2:∃us,SqL K H b us/\(ys.length<=i->us.length<=i):=by
  by_cases hi:ys.length<=i
  ·obtain⟨us,e1,e2⟩:=s2 hi;exact⟨us,e1,λ_=>e2⟩
  ·obtain⟨⟨us,x,e1,_⟩,_⟩:=g2 _ (Kg (MM hi));exact⟨us,e1,λz=>absurd z hi⟩
 obtain⟨us,a1,a2⟩:=q1;obtain⟨vs,b1,b2⟩:=q2;refine⟨λhi=>⟨us,vs,a1,b1,?_⟩,λd hd=>?_⟩
 ·unfold rO at hi;rw[List.length_zipWith] at hi;by_cases hx:xs.length<=i
  ·exact .inl (a2 hx)
  ·exact .inr (b2 (by lia))
 ·unfold rO at hd;rw[List.getElem?_zipWith] at hd
  cases ex:xs[i]? with
  |none=>rw[ex] at hd;simp at hd
  |some x=>
   cases ey:ys[i]? with
   |none=>rw[ex,ey] at hd;simp at hd
   |some y=>
    rw[ex,ey] at hd;simp only[Option.some.injEq] at hd;subst hd;obtain⟨⟨us',x',e1,e2⟩,y1⟩:=g1 x ex;obtain⟨⟨vs',y',e3,e4⟩,y2⟩:=g2 y ey;refine⟨⟨us',vs',x',y',e1,e3,e2,e4⟩,λz H' hy=>?_⟩;obtain⟨p,v,w,hp',rfl,rfl,hv,hw⟩:=hy;have r1:=(y1 v H ⟨rfl,hv⟩).2;have r2:=(y2 w H ⟨rfl,hw⟩).2;refine⟨al hp',?_⟩;unfold Rp;refine⟨p,_,_,rfl,λz=>?_,aG,rfl,.cons (r1.same (al hp')) (.cons (r2.same (al hp')) .nil)⟩;obtain⟨o,q,_⟩:=m p z;rw[hp'] at q;cases q
theorem DY(O:aB X Γ c){fa fb:Ro->Option KD}{tg e e2:Expr}{p pos:Pos}(hg:eM c.sc "zip" = true)(hn:ai e=true)(hn2:ai e2=true)(ht:iO tg=true)(ha:SndE X fa e)(hb:SndE X fb e2):SndI X (λρ=>nc (fa ρ) (fb ρ)) tg (.Call (.Name "zip" p) [e,e2] [] pos):=by
 intro ρ bs ds h g σ H R se q;dsimp only[nc] at h
 cases ea:fa ρ with
 |none=>rw[ea] at h;cases h
 |some kd=>
  obtain⟨k,d⟩:=kd
  cases eb:fb ρ with
  |none=>
   rw[ea,eb] at h;split at h
   ·cases h
   ·cases h
  |some kd2=>
   obtain⟨k2,d2⟩:=kd2;rw[ea,eb] at h;split at h
   ·rename_i bs1 xs h1;split at h
    ·rename_i bs2 ys h2;cases h
     cases tg with
     |Tuple es kk tp=>
      refine gy (G.Ax (ce O hg) (O.tab.bl _ (by simp[aJ])) (bp aA (bp aA cV (ak hn2)) (ak hn)) (by rw[ak hn,ak hn2];rfl) (ak hn2)) ?_;refine two ha hb ea eb se λx y H1 s1 rx ry=>?_;obtain⟨a,s,rfl,l1,i1,_,p1,f1⟩:=gI se.mu s1 rx h1;obtain⟨b,u,rfl,l2,i2,_,p2,f2⟩:=gI se.mu s1 ry h2;exact⟨a,b,rfl,l1,l2,q _ (.two s u) H1 s1 (AY i1 i2) ⟨p1,p2⟩ ⟨f1.from_mono λi z=>Lk _ z,f2.from_mono λi z=>Ky _ z⟩⟩
     |_=>exact absurd ht (by simp[iO])
    ·cases h
   ·cases h
noncomputable def DZ:D->Option String
 |.non=>some "NoneType"
 |.bl _=>some "bool"
 |.int _=>some "int"
 |.str _=>some "str"
 |.scr _=>none
 |.nd .lst _=>some "list"
 |.nd .tup _=>some "tuple"
 |.nd (.dic 0 _) _=>some "dict"
 |_=>none
noncomputable def ng(T:Str)(d:D):Option Bool:=match DZ d with
 |some t=>if T="int" then some (t=="int" || t=="bool") else if T="bool" then some (t=="bool") else if T="list" then some (t=="list") else if T="tuple" then some (t=="tuple") else if T="str" then some (t=="str") else if T="dict" then some (t=="dict") else none
 |none=>none
theorem D0{t:String}(h:Rp K H S d v)(e:DZ d=some t):gq K H v (.type t):=by
 cases d with
 |non=>obtain rfl:=h.non;cases e;exact .non
 |bl b=>obtain rfl:=h.bl;cases e;exact .bl b
 |int b=>obtain rfl:=h.int;cases e;exact .int b
 |str b=>obtain rfl:=h.str;cases e;exact .str b
 |scr b=>cases e
 |nd hd ds=>
  obtain⟨a,o,xs,rfl,_,g,q,r⟩:=h.nd
  cases hd with
  |lst=>cases e;cases(show o=_ from q);exact .lst g
  |tup=>cases e;cases(show o=_ from q);exact .tup g
  |dic t ks=>
   cases t with
   |succ t=>cases e
   |zero=>
    cases e;rcases q with⟨_,kvs,rfl,_⟩|⟨_,h0,_⟩
    ·exact .dK g
    ·cases h0
  |obj c ns=>cases e
noncomputable def cJ:List Str:=["int","bool","list","tuple","str","dict"]
noncomputable def iZ:List String:=["NoneType","bool","int","str","list","tuple","dict"]
theorem rP{p:String->Prop}(a:p "NoneType")(b:p "bool")(c:p "int")(d:p "str")(e:p "list")(f:p "tuple")(g:p "dict"):∀t∈iZ,p t:=by
 intro t ht;simp only[iZ,Kn,K1,or_false] at ht
 rcases ht with rfl|rfl|rfl|rfl|rfl|rfl|rfl<;>assumption
theorem xf{t:String}(ht:DZ d=some t):t∈iZ:=by
 cases d with
 |nd hd ds=>cases hd with
  |dic tt ks=>cases tt<;>cases ht<;>simp[iZ]
  |_=>cases ht<;>simp[iZ]
 |_=>cases ht<;>simp[iZ]
theorem AZ:∀t∈iZ,La K (.type t) (.type "int")=some (t=="int" || t=="bool"):=rP (by with_unfolding_all rfl) (by with_unfolding_all rfl) (by with_unfolding_all rfl) (by with_unfolding_all rfl) (by with_unfolding_all rfl) (by with_unfolding_all rfl) (by with_unfolding_all rfl)
theorem xg:∀t∈iZ,La K (.type t) (.type "bool")=some (t=="bool"):=rP (by with_unfolding_all rfl) (by with_unfolding_all rfl) (by with_unfolding_all rfl) (by with_unfolding_all rfl) (by with_unfolding_all rfl) (by with_unfolding_all rfl) (by with_unfolding_all rfl)
theorem xh:∀t∈iZ,La K (.type t) (.type "list")=some (t=="list"):=rP (by with_unfolding_all rfl) (by with_unfolding_all rfl) (by with_unfolding_all rfl) (by with_unfolding_all rfl) (by with_unfolding_all rfl) (by with_unfolding_all rfl) (by with_unfolding_all rfl)
theorem uj:∀t∈iZ,La K (.type t) (.type "tuple")=some (t=="tuple"):=rP (by with_unfolding_all rfl) (by with_unfolding_all rfl) (by with_unfolding_all rfl) (by with_unfolding_all rfl) (by with_unfolding_all rfl) (by with_unfolding_all rfl) (by with_unfolding_all rfl)
theorem A0:∀t∈iZ,La K (.type t) (.type "str")=some (t=="str"):=rP (by with_unfolding_all rfl) (by with_unfolding_all rfl) (by with_unfolding_all rfl) (by with_unfolding_all rfl) (by with_unfolding_all rfl) (by with_unfolding_all rfl) (by with_unfolding_all rfl)
theorem xi:∀t∈iZ,La K (.type t) (.type "dict")=some (t=="dict"):=rP (by with_unfolding_all rfl) (by with_unfolding_all rfl) (by with_unfolding_all rfl) (by with_unfolding_all rfl) (by with_unfolding_all rfl) (by with_unfolding_all rfl) (by with_unfolding_all rfl)
theorem xj{T:Str}{b:Bool}(h:ng T d=some b):∃t T',DZ d=some t/\T∈cJ/\bootBuiltins T=some (.type T')/\La K (.type t) (.type T')=some b:=by
 unfold ng at h
 cases ht:DZ d with
 |none=>rw[ht] at h;cases h
 |some t=>
  rw[ht] at h;have hm:=xf ht;dsimp only at h;by_cases e0:T="int"
  ·subst e0;rw[if_pos rfl] at h;exact⟨t,"int",rfl,by simp[cJ],by rfl,(AZ t hm).trans h⟩
  by_cases e1:T="bool"
  ·subst e1;rw[if_neg (by decide),if_pos rfl] at h;exact⟨t,"bool",rfl,by simp[cJ],by rfl,(xg t hm).trans h⟩
  by_cases e2:T="list"
  ·subst e2;rw[if_neg (by decide),if_neg (by decide),if_pos rfl] at h;exact⟨t,"list",rfl,by simp[cJ],by rfl,(xh t hm).trans h⟩
  by_cases e3:T="tuple"
  ·subst e3;rw[if_neg (by decide),if_neg (by decide),if_neg (by decide),if_pos rfl] at h;exact⟨t,"tuple",rfl,by simp[cJ],by rfl,(uj t hm).trans h⟩
  by_cases e4:T="str"
  ·subst e4;rw[if_neg (by decide),if_neg (by decide),if_neg (by decide),if_neg (by decide),if_pos rfl] at h;exact⟨t,"str",rfl,by simp[cJ],by rfl,(A0 t hm).trans h⟩
  by_cases e5:T="dict"
  ·subst e5;rw[if_neg (by decide),if_neg (by decide),if_neg (by decide),if_neg (by decide),if_neg (by decide),if_pos rfl] at h;exact⟨t,"dict",rfl,by simp[cJ],by rfl,(xi t hm).trans h⟩
  rw[if_neg e0,if_neg e1,if_neg e2,if_neg e3,if_neg e4,if_neg e5] at h;cases h
noncomputable def rQ(T:Str)(a:Option KD):Option KD:=match a with|some (_,d)=>bV (ng T d)|none=>none
theorem D2(O:aB X Γ c){fa:Ro->Option KD}{a:Expr}{T:Str}{p p2 pos:Pos}(hg:eM c.sc "isinstance" = true)(hgT:eM c.sc T=true)(hn:ai a=true)(ha:SndE X fa a):SndE X (λρ=>rQ T (fa ρ)) (.Call (.Name "isinstance" p) [a,.Name T p2] [] pos):=by
 intro ρ kd d h g σ H Q se q;dsimp only[rQ] at h;split at h
 ·rename_i ka da ea
  cases hi:ng T da with
  |none=>rw[hi] at h;cases h
  |some b=>
   rw[hi] at h;cases h;obtain⟨t,T',h1,h2,h3,h4⟩:=xj (K:=X.K) hi
   have hT:T∈aJ/\T≠"__name__"/\(T==("__debug__":Str))=false:=by
    simp only[cJ,Kn,K1,or_false] at h2
    rcases h2 with rfl|rfl|rfl|rfl|rfl|rfl<;>exact⟨by simp[aJ],by decide,by decide⟩
   refine aC (eP m7 (ce O hg) (O.tab.bl _ (by simp[aJ])) PyProof.Rows.boot_isinstance (bp aA (bp (wf (v:=.ty T') (ce O hgT) (O.tab.bl _ hT.1) h3 rfl hT.2.1 hT.2.2) cV (ak rfl)) (ak hn)) (by decide) (by decide) (ak hn) (bA rfl)) ?_;exact ha ρ _ _ ea g σ H _ se λv H1 s1 r1=>⟨v,T',_,b,rfl,D0 r1.rd h1,h4,q _ H1 s1 Cy⟩
 ·cases h
end
end J
namespace J
open PySem PySem.Spec L2
mutual
noncomputable def il:D->Ow->Bool
 |.nd _ ds,.own es r=>jK ds es r
 |d,_=>oB d
noncomputable def jK:List D->List Ow->Ow->Bool
 |[],_,_=>true
 |d::ds,es,r=>il d (es.headD r)&&jK ds es.tail r
end
section
variable {K:Ka} {H H' H0:Hp} {S S':Pr} {g:Gh}
mutual
theorem Tr.clean(m:MuOk H S'):∀{d:D} {k:Ow} {v:V} {F:Pr},il d k=true->Tr K H S d k v F->Tr K H S' d k v F
 |.non,_,_,_,c,h=>by unfold Tr at h⊢;exact⟨h.1,h.2.im m rfl⟩
 |.bl _,_,_,_,c,h=>by unfold Tr at h⊢;exact⟨h.1,h.2.im m rfl⟩
 |.int _,_,_,_,c,h=>by unfold Tr at h⊢;exact⟨h.1,h.2.im m rfl⟩
 |.str _,_,_,_,c,h=>by unfold Tr at h⊢;exact⟨h.1,h.2.im m rfl⟩
 |.scr ns,k,_,_,c,h=>by simp[il,oB] at c
 |.nd hd ds,.fz,_,_,c,h=>by
  have c:oB (.nd hd ds)=true:=by simpa[il] using c
  unfold Tr at h⊢;exact⟨h.1,h.2.im m c⟩
 |.nd hd ds,.own es r,v,F,c,h=>by
  have c:jK ds es r=true:=by simpa[il] using c
  unfold Tr at h⊢;obtain⟨a,o,xs,F',e,q1,q2,n1,n2,hF,t⟩:=h;refine⟨a,o,xs,F',e,q1,q2,n1,λhm z=>?_,hF,TrL.clean m c t⟩;obtain⟨o',e',n⟩:=m a z;rw[q1] at e';cases e'
  cases hd with
  |tup=>exact n _ q2
  |_=>exact absurd hm (by simp[Hd.mu])
theorem TrL.clean(m:MuOk H S'):∀{ds:List D} {es:List Ow} {r:Ow} {vs:List V} {F:Pr},jK ds es r=true->TrL K H S ds es r vs F->TrL K H S' ds es r vs F
 |[],_,_,_,_,_,h=>by unfold TrL at h⊢;exact h
 |d::ds,es,r,vs,F,c,h=>by
  simp only[jK,Ke] at c;unfold TrL at h⊢;obtain⟨y,ys,F1,F2,e,hF,dj,h1,h2⟩:=h;exact⟨y,ys,F1,F2,e,hF,dj,Tr.clean m c.1 h1,TrL.clean m c.2 h2⟩
end
noncomputable def oN:Kd->D->Bool
 |.sh,d=>oB d
 |.fr k,d=>il d k
 |.bo _ _,_=>false
theorem VR.clean(c:oN kd d=true)(m:MuOk H0 (Sg g))(s:Same H0 H)(h:VR K g' H0 H kd d v):VR K g H0 H kd d v:=by
 obtain⟨F,h1,h2⟩:=h;have mm:MuOk H (Sx g F):=λb z=>z.elim (λz=>m.same s b z) λz=>h2.dom b z;refine⟨F,h1,?_⟩
 cases kd with
 |sh=>exact⟨h2.1,h2.2.im mm c⟩
 |fr k=>exact Tr.clean mm c h2
 |bo i k=>cases c
end
noncomputable def bW:Kd->Bool
 |.bo _ _=>true
 |_=>false
noncomputable def rR(φ:Fn)(kds:List KD):Option KD:=
 match φ (kds.map (·.2)) with
 |some (kd,d)=>if(kds.all λp=>mz p.1 p.2)=true then(if bW kd=true then none else some (kd,d)) else if oN kd d=true then some (kd,d) else none
 |none=>none
noncomputable def wa(φ:Option Fn)(a:Option (List KD)):Option KD:=match φ,a with|some φ,some kds=>rR φ kds|_,_=>none
section
variable {X:Cx} {Γ:gz} {c:Cz}
theorem l9(K:Ka){φ:Fn}{kds:List KD}{kd:Kd}{d:D}(h:rR φ kds=some (kd,d)){g:Gh}{H0 H:Hp}{vs:List V}{Q:VK}{E:XK}(m:MuOk H0 (Sg g))(s:Same H0 H)(r:VRs K g H0 H kds vs)(q:∀v H',Same H H'->VR K g H0 H' kd d v->Q v H'):v9 K φ vs H Q E:=by
 unfold rR at h;split at h
 ·rename_i kd' d' e';split at h
  ·rename_i ok;split at h
   ·cases h
   ·cases h;exact⟨_,g,_,_,r.sh ok m s,m.same s,e',λv H2 s2 r2=>q v H2 s2 (r2.older s)⟩
  ·split at h
   ·rename_i cl;cases h;exact⟨_,λ_=>none,_,_,r.rd.go (λb o n e=>⟨e,λz=>z rfl⟩),λa z=>absurd rfl z,e',λv H2 s2 r2=>q v H2 s2 ((r2.clean cl (m.same s) s2).older s)⟩
   ·cases h
 ·cases h
theorem He(O:aB X Γ c){x:Str}{e:Expr}{es:List Expr}{p pos:Pos}{fa:Ro->Option (List KD)}(hf:iY X fa (e::es))(hg:eM c.sc x=true)(n1:ai e=true)(n2:es.all ai=true):SndE X (λρ=>wa (Γ.fn x) (fa ρ)) (.Call (.Name x p) (e::es) [] pos):=by
 intro ρ kd d h g σ H Q se q;dsimp only[wa] at h;split at h
 ·rename_i φ kds hφ he;refine aC (y4 (t:=wA X (e::es)) (λ_ _ _ _=>bO) (O.tab.fn x φ hφ) (ce O hg) dc (ak n1) (bA n2)) (hf ρ _ he g σ H _ se λvs H1 s1 r1=>?_);exact l9 X.K h se.mu s1 r1 λv H2 s2 r2=>q v H2 (s1.trans s2) r2
 ·cases h
theorem D3(O:aB X Γ c){x:Str}{p pos:Pos}(hg:eM c.sc x=true):SndE X (λ_=>wa (Γ.fn x) (some [])) (.Call (.Name x p) [] [] pos):=by
 intro ρ kd d h g σ H Q se q;dsimp only[wa] at h;split at h
 ·rename_i φ kds hφ he;cases he;refine aC (AD (O.tab.fn x φ hφ) (ce O hg)) ?_;exact l9 (E:=λ_ _ _=>False) X.K h se.mu (Same.refl H) VRs.nil λv H2 s2 r2=>q v H2 s2 r2
 ·cases h
end
inductive IT where
 |nm (i:Nat)
 |tp (ts:List IT)
mutual
noncomputable def nh:IT->D->Option (List (Nat×D))
 |.nm i,d=>some [(i,d)]
 |.tp ts,.nd .tup ds=>oO ts ds
 |_,_=>none
noncomputable def oO:List IT->List D->Option (List (Nat×D))
 |[],[]=>some []
 |t::ts,d::ds=>match nh t d,oO ts ds with
  |some a,some b=>some (a++b)
  |_,_=>none
 |_,_=>none
end
noncomputable def CB(d:D):Sl:=⟨false,.fz,d⟩
noncomputable def setAll:List (Nat×D)->Ro->Ro
 |[],ρ=>ρ
 |(i,d)::r,ρ=>setAll r (ρ.set i (some (CB d)))
noncomputable def uk(f:Expr->Option IT):List Expr->Option (List IT)
 |[]=>some []
 |e::es=>match f e,uk f es with
  |some a,some b=>some (a::b)
  |_,_=>none
noncomputable def oe(c:Cz):Nat->Expr->Option IT
 |0,_=>none
 |n+1,e=>match e with
  |.Name x _=>if lY c x then(bF x c.N).map .nm else none
  |.Tuple es _ _=>if es.all ai then(uk (oe c n) es).map .tp else none
  |_=>none
theorem SE.set{ρ:Ro}{σ:L2.St}(h:SE K g ρ σ H)(i:Nat){d:D}{v:V}(r:Rp K H (Sg g) d v):SE K g (ρ.set i (some (CB d))) (σ.set i (some v)) H:=by
 refine⟨λj sl e=>?_,h.mu,by simp[h.len]⟩;by_cases hj:j=i
 ·subst hj
  have hlt:j<ρ.length:=by
   have:=(Kb.mp e).1;simpa using this
  rw[Kz hlt] at e;cases e;exact⟨v,_,Kz (by rw[<- h.len];exact hlt),λb z=>z.elim,.fz r⟩
 ·rw[Kv (Ne.symm hj)] at e⊢;exact h.slot j sl e
theorem SE.pass{ρ:Ro}{σ:L2.St}(h:SE K g ρ σ H)(i:Nat){v:V}(n:∀sl,ρ[i]?≠some (some sl)):SE K g ρ (σ.set i (some v)) H:=by
 refine⟨λj sl e=>?_,h.mu,by simp[h.len]⟩;have hj:j≠i:=λz=>n sl (z▸e);rw[Kv (Ne.symm hj)];exact h.slot j sl e
noncomputable def ip:List (Nat×V)->L2.St->L2.St
 |[],σ=>σ
 |(i,v)::r,σ=>ip r (σ.set i (some v))
theorem nj:∀(a b:List (Nat×V)) (σ:L2.St),ip (a++b) σ=ip b (ip a σ)
 |[],_,_=>rfl
 |(i,v)::a,b,σ=>nj a b _
section
variable {X:Cx} {Γ:gz} {c:Cz}
noncomputable def RpP(K:Ka)(H:Hp)(S:Pr):List (Nat×D)->List (Nat×V)->Prop
 |[],vs=>vs=[]
 |(i,d)::r,vs=>∃v ws,vs=(i,v)::ws/\Rp K H S d v/\RpP K H S r ws
theorem RpP.app:∀{a b:List (Nat×D)} {x y:List (Nat×V)},RpP K H S a x->RpP K H S b y->RpP K H S (a++b) (x++y)
 |[],_,_,_,h,g=>by rw[(show _=[] from h)];exact g
 |(i,d)::a,b,_,y,h,g=>by
  obtain⟨v,ws,rfl,h1,h2⟩:=h;exact⟨v,ws++y,rfl,h1,RpP.app h2 g⟩
mutual
noncomputable def y8(K:Ka):IT->TG
 |.nm i=>jo i
 |.tp ts=>CT K ts.length (nk K ts)
noncomputable def nk(K:Ka):List IT->sS
 |[]=>zV
 |t::ts=>sT (y8 K t) (nk K ts)
end
mutual
theorem i9:∀{t:IT} {d:D} {ps:List (Nat×D)} {v:V} {σ:L2.St} {Q:L2.St->Hp->Prop},nh t d=some ps->Rp K H S d v->(∀vs,RpP K H S ps vs->Q (ip vs σ) H)->y8 K t v σ H Q
 |.nm i,d,ps,v,σ,Q,ht,r,q=>by
  simp only[nh] at ht;cases ht;simp only[y8];exact q [(i,v)] ⟨v,[],rfl,r,rfl⟩
 |.tp ts,d,ps,v,σ,Q,ht,r,q=>by
  cases d with
  |nd hd ds=>
   cases hd with
   |tup=>
    simp only[nh] at ht;obtain⟨a,o,xs,rfl,_,g1,q1,rl⟩:=r.nd;cases(show o=_ from q1);obtain⟨h1,h2⟩:=jL ht rl q;simp only[y8];exact⟨a,xs,rfl,.of g1,h2,h1⟩
   |_=>simp[nh] at ht
  |_=>simp[nh] at ht
theorem jL:∀{ts:List IT} {ds:List D} {ps:List (Nat×D)} {vs:List V} {σ:L2.St} {Q:L2.St->Hp->Prop},oO ts ds=some ps->RpL K H S ds vs->(∀ws,RpP K H S ps ws->Q (ip ws σ) H)->nk K ts vs σ H Q/\vs.length=ts.length
 |[],[],ps,vs,σ,Q,ht,r,q=>by
  simp only[oO] at ht;cases ht;simp only[nk];rw[r.nil_inv];exact⟨⟨rfl,q [] rfl⟩,rfl⟩
 |t::ts,d::ds,ps,vs,σ,Q,ht,r,q=>by
  simp only[oO] at ht;split at ht
  ·rename_i a b ha hb;cases ht;obtain⟨y,ys,rfl,r1,r2⟩:=r.cons_inv;simp only[nk];have len:=(jL (σ:=σ) (Q:=λ_ _=>True) hb r2 λ_ _=>trivial).2;refine⟨⟨y,ys,rfl,i9 ha r1 λvs1 h1=>(jL hb r2 λvs2 h2=>?_).1⟩,by simp[len]⟩;have:=q (vs1++vs2) (h1.app h2);rw[nj] at this;exact this
  ·cases ht
 |[],_::_,ps,vs,σ,Q,ht,r,q=>by simp[oO] at ht
 |_::_,[],ps,vs,σ,Q,ht,r,q=>by simp[oO] at ht
end
theorem cW(h:ai e=true):assignEach (e::es) env=(false,assign e env)::assignEach es env:=by
 cases e<;>first|rfl|cases h
theorem qh(O:aB X Γ c):∀(n:Nat) {e:Expr} {t:IT},oe c n e=some t->PG X e (y8 X.K t)
 |0,e,t,h=>by cases h
 |n+1,e,t,h=>by
  have ih:∀{e:Expr} {t:IT},oe c n e=some t->PG X e (y8 X.K t):=λh=>qh O n h
  have lst:∀{es:List Expr} {ts:List IT},es.all ai=true->uk (oe c n) es=some ts->zT X es (nk X.K ts)/\(assignEach es X.env).length=ts.length/\(assignEach es X.env).findIdx? (·.1)=none:=by
   intro es
   induction es with
   |nil=>intro ts _ h;cases h;simp only[nk];exact⟨pR,rfl,rfl⟩
   |cons e es ihe=>
    intro ts hn h;rw[Lq,Ke] at hn;unfold uk at h;split at h
    ·rename_i a b ha hb;cases h;obtain⟨g1,g2,g3⟩:=ihe hn.2 hb;simp only[nk];refine⟨mH (ih ha) g1 (by rw[cW hn.1];rfl),by rw[cW hn.1,KS,g2];rfl,?_⟩;rw[cW hn.1,KU];simp[g3]
    ·cases h
  unfold oe at h;split at h
  ·rename_i x p;split at h
   ·rename_i hl
    cases hi:bF x c.N with
    |none=>rw[hi] at h;cases h
    |some i=>
     rw[hi] at h;cases h;have l:=jG O hl;simp only[y8];exact pQ (i:=i) (by rw[O.N];exact O.nd) (by rw[O.N];exact bd hi) l.1 l.2
   ·cases h
  ·rename_i es k p;split at h
   ·rename_i hn
    cases hs:uk (oe c n) es with
    |none=>rw[hs] at h;cases h
    |some ts=>
     rw[hs] at h;cases h;obtain⟨g1,g2,g3⟩:=lst hn hs;simp only[y8];exact sU O.calm g1 g2 g3
   ·cases h
  ·cases h
theorem SE.setAll{H:Hp}:∀{ps:List (Nat×D)} {vs:List (Nat×V)} {ρ:Ro} {σ:L2.St},RpP K H (Sg g) ps vs->SE K g ρ σ H->SE K g (setAll ps ρ) (ip vs σ) H
 |[],vs,ρ,σ,h,se=>by rw[(show vs=[] from h)];exact se
 |(i,d)::ps,vs,ρ,σ,h,se=>by
  obtain⟨v,ws,rfl,h1,h2⟩:=h;exact SE.setAll (ρ:=ρ.set i (some (CB d))) (vs:=ws) (σ:=σ.set i (some v)) h2 (se.set i h1)
noncomputable def dA(ps:List (Nat×D))(ρ:Ro):Bool:=ps.all λp=>match ρ[p.1]? with|some none=>true|_=>false
theorem SE.passAll{H:Hp}:∀{ps:List (Nat×D)} {vs:List (Nat×V)} {ρ:Ro} {σ:L2.St},RpP K H S ps vs->dA ps ρ=true->SE K g ρ σ H->SE K g ρ (ip vs σ) H/\∀(j:Nat) sl,ρ[j]?=some (some sl)->(ip vs σ)[j]?=σ[j]?
 |[],vs,ρ,σ,h,_,se=>by rw[(show vs=[] from h)];exact⟨se,λ_ _ _=>rfl⟩
 |(i,d)::ps,vs,ρ,σ,h,hn,se=>by
  obtain⟨v,ws,rfl,h1,h2⟩:=h;simp only[dA,Lq,Ke] at hn
  have ni:∀sl,ρ[i]?≠some (some sl):=λsl e=>by
   have:=hn.1;rw[e] at this;cases this
  obtain⟨a1,a2⟩:=SE.passAll h2 (by simpa[dA] using hn.2) (se.pass i (v:=v) ni);exact⟨a1,λj sl e=>(a2 j sl e).trans (Kv (λz=>ni sl (by rw[z];exact e)))⟩
end
end J
namespace J
open PySem PySem.Spec L2
noncomputable def Gh.re(m:Nat->Option Nat)(g:Gh):Gh:=λb=>match g b with
 |some (some i)=>some (m i)
 |x=>x
section
variable {K:Ka} {H H':Hp} {g:Gh} {F F2:Pr} {m:Nat->Option Nat}
theorem nl(b:Addr):Sg (g.re m) b↔Sg g b:=by
 unfold Gh.re Sg
 cases h:g b with
 |none=>simp[h]
 |some x=>cases x<;>simp[h]
theorem iq:(g.plus F).plus F2=g.plus (λb=>F b\/F2 b):=by
 funext b;unfold Gh.plus;by_cases h2:F2 b
 ·simp[h2]
 ·by_cases h1:F b
  ·simp[h1]
  ·simp[h1,h2]
theorem a6(h:F b):g.plus F b=some none:=by
 unfold Gh.plus;rw[if_pos h]
theorem SE.upd(h:SE K g ρ σ H)(hp:g p=some none)(ho:∀xs,o≠.tup xs):SE K g ρ σ (upd H p o):=by
 have kk:∀b o',b≠p->H b=some o'->L2.upd H p o b=some o':=λb o' n e=>by rw[am n];exact e
 refine⟨λi sl e=>?_,λb z=>?_,h.len⟩
 ·obtain⟨v,F,e1,e2,e3⟩:=h.slot i sl e;refine⟨v,F,e1,e2,e3.go (λb o' hb e=>kk b o' (λz=>?_) e) λ_ _ _ n=>n⟩;subst z;rcases hb with hb|hb
  ·exact hb (by rw[Sg,hp];simp)
  ·rw[e2 b hb] at hp;cases hp
 ·by_cases hb:b=p
  ·exact⟨o,by rw[hb];exact aG,ho⟩
  ·obtain⟨o',e,n⟩:=h.mu b z;exact⟨o',kk b o' hb e,n⟩
noncomputable def cn(ρ:Ro)(cap:List (Option Nat)):Ro:=cap.map λo=>o.bind λi=>(ρ[i]?).join
noncomputable def jM(cap:List (Option Nat))(i:Nat):Option Nat:=cap.findIdx? λo=>o==some i
noncomputable def lf(cap:List (Option Nat)):Bool:=decide (cap.filterMap id).Nodup
theorem qi:∀{cap:List (Option Nat)} {j i:Nat},(cap.filterMap id).Nodup->cap[j]?=some (some i)->jM cap i=some j
 |[],j,i,_,e=>by simp at e
 |o::cap,0,i,hn,e=>by
  simp at e;subst e;simp[jM,KU]
 |o::cap,j+1,i,hn,e=>by
  have e':cap[j]?=some (some i):=by simpa using e
  have hm:i∈cap.filterMap id:=LS.mpr ⟨some i,Kw e',rfl⟩
  have hno:(o==some i)=false:=by
   cases o with
   |none=>rfl
   |some k=>
    simp only[KL,id] at hn;have:=(KR.mp hn).1;simp only[beq_eq_false_iff_ne,ne_eq,Option.some.injEq];intro z;subst z;exact this hm
  have hn':(cap.filterMap id).Nodup:=by
   cases o with
   |none=>simpa using hn
   |some k=>simp only[KL,id] at hn;exact(KR.mp hn).2
  have ih:=qi hn' e';unfold jM at ih⊢;rw[KU,hno,ih];rfl
theorem SE.cap(h:SE K g ρ σ H){cap:List (Option Nat)}(hc:lf cap=true):SE K (g.re (jM cap)) (cn ρ cap) (dJ σ cap) H:=by
 refine⟨λj sl e=>?_,λb z=>h.mu b ((nl b).mp z),by simp[cn,dJ]⟩;unfold cn at e;unfold dJ;rw[Kf] at e⊢
 cases q:cap[j]? with
 |none=>rw[q] at e;cases e
 |some o=>
  rw[q] at e
  cases o with
  |none=>cases e
  |some i=>
   have e':(ρ[i]?).join=some sl:=by simpa using e
   have e2:ρ[i]?=some (some sl):=by
    cases z:ρ[i]? with
    |none=>rw[z] at e';cases e'
    |some w=>rw[z] at e';have:w=some sl:=e';rw[this]
   obtain⟨v,F,g1,g2,g3⟩:=h.slot i sl e2;refine⟨v,F,by simp[g1],λb z=>?_,g3.go (λ_ _ _ h=>h) λb o _ n z=>n ((nl b).mp z)⟩;unfold Gh.re;rw[g2 b z];show some (jM cap i)=_;rw[qi (by simpa[lf] using hc) q]
end
noncomputable def fU(scope sc:Scope):Scope:=
 { scope with names:=scope.names.map λ(n,k)=>if(k==.free&&sc.kind==.function&&sc.names.lookup n==some .cell) then(n,.cell) else(n,k) }
theorem xk{env:Env}(h:env.scope=sc):relabel scope env=fU scope sc:=by
 subst h;rfl
noncomputable def aK(c:Cz)(scope:Scope):List (Option Nat):=scope.names.map λ(x,k)=>if k=.free then bF x c.N else none
noncomputable def au(scope:Scope):List Str:=scope.names.map (·.1)
noncomputable def bP(c:Cz)(scope:Scope):Bool:=
 scope.kind==.function&&decide (au scope).Nodup&&lf (aK c scope)&&scope.names.all λ(x,k)=>(k != .free||c.sc.names.lookup x==some .cell||c.sc.names.lookup x==some .free)
theorem de:∀{l:List (Str×NameKind)} {x:Str} {k:NameKind},(l.map (·.1)).Nodup->(x,k)∈l->l.lookup x=some k
 |(y,j)::r,x,k,hn,hm=>by
  rw[KG];rw[KM,KR] at hn;rcases Kn.mp hm with e|hm
  ·cases e;simp
  ·have:x≠y:=λz=>hn.1 (by rw[<- z];exact KW.mpr ⟨(x,k),hm,rfl⟩);have e:(x==y)=false:=by simpa using this
   rw[e];exact de hn.2 hm
theorem fV(O:aB X Γ c)(h:bP c scope=true):jB X (au scope) scope (aK c scope):=by
 simp only[bP,Ke,decide_eq_true_eq,KO,beq_iff_eq] at h;obtain⟨⟨⟨h1,h2⟩,_⟩,h3⟩:=h;have hk:∀x,X.env.kindOf x=c.sc.names.lookup x:=λx=>by show X.env.scope.names.lookup x=_;rw[O.sc]
 have free:∀y∈scope.names,y.2=.free->X.env.kindOf y.1=some .cell\/X.env.kindOf y.1=some .free:=λy hy e=>by
  have:=h3 y hy;simp only[Lr,bne_iff_ne,beq_iff_eq] at this;rw[hk];rcases this with(z|z)|z
  ·exact absurd e z
  ·exact .inl z
  ·exact .inr z
 refine⟨h1,λy hy e=>?_,λy hy e=>?_,free,by simp[aK,au],λj i x hj hc=>?_⟩
 ·obtain⟨x,k⟩:=y;have e':k=.cell:=e;subst e';exact de h2 hy
 ·obtain⟨x,k⟩:=y;have e':k=.local:=e;subst e';exact de h2 hy
 ·unfold au at hj;unfold aK at hc;rw[Kf] at hj hc
  cases q:scope.names[j]? with
  |none=>rw[q] at hj;cases hj
  |some y=>
   rw[q] at hj hc;obtain⟨y,k⟩:=y;cases hj
   have hc':(if k=.free then bF y c.N else none)=some i:=by simpa using hc
   split at hc'
   ·rename_i e;subst e;have hm:=Kw q;exact⟨by rw[O.N];exact bd hc',de h2 hm,free _ hm rfl⟩
   ·cases hc'
theorem fy{c:Cz}(O:aB X Γ c)(h:bP c scope=true)(C:Addr)(s:Shared)(H:Hp)(ex:List Addr):aB (aQ X (au scope) scope C s H ex) Γ ⟨fU scope c.sc,au scope,gA scope⟩:=by
 simp only[bP,Ke,decide_eq_true_eq] at h;exact⟨xk O.sc,rfl,λx z=>z,O.calm,h.1.1.2,⟨O.tab.fn,O.tab.cf,O.tab.fm,O.tab.bl,O.tab.units,O.tab.gd,O.tab.cst⟩⟩
noncomputable def ef(tg:IT)(ft:Ro->Option Bool)(fe:Ro->Option KD)(ρ0:Ro)(d:D):Option (Option KD):=match nh tg d with
 |some ps=>if dA ps ρ0=true then(match ft (setAll ps ρ0) with|some true=>(fe (setAll ps ρ0)).map some|some false=>some none|none=>none) else none
 |none=>none
noncomputable def aX(r:Ow)(f:D->Option (Option KD)):List D->Option (List D)
 |[]=>some []
 |d::ds=>match f d,aX r f ds with
  |some (some kd),some ys=>if cw r kd=true then some (kd.2::ys) else none
  |some none,some ys=>some ys
  |_,_=>none
theorem ir:∀{a b:List D} {ys:List D},aX r f (a++b)=some ys->∃x y,aX r f a=some x/\aX r f b=some y/\ys=x++y
 |[],b,ys,h=>⟨[],ys,rfl,h,rfl⟩
 |d::a,b,ys,h=>by
  rw[Lp] at h;unfold aX at h;split at h
  ·rename_i kd zs e1 e2;split at h
   ·rename_i hf;cases h;obtain⟨x,y,h1,h2,rfl⟩:=ir e2;exact⟨kd.2::x,y,by simp[aX,e1,h1,hf],h2,rfl⟩
   ·cases h
  ·rename_i zs e1 e2;cases h;obtain⟨x,y,h1,h2,rfl⟩:=ir e2;exact⟨x,y,by simp[aX,e1,h1],h2,rfl⟩
  ·cases h
theorem jN{a:List D}{d:D}{x:List D}(h:aX r f a=some x){y:List D}(h1:aX r f [d]=some y):aX r f (a++[d])=some (x++y):=by
 induction a generalizing x with
 |nil=>cases h;exact h1
 |cons e a ih=>
  unfold aX at h;rw[Lp];unfold aX;split at h
  ·rename_i kd zs e1 e2;split at h
   ·rename_i hf;cases h;rw[e1,ih e2];simp[hf]
   ·cases h
  ·rename_i zs e1 e2;cases h;rw[e1,ih e2]
  ·cases h
theorem oP{f:D->Option (Option KD)}{ds ys:List D}(h:aX r f ds=some ys){i:Nat}{d:D}(e:ds[i]?=some d){x:List D}(hx:aX r f (ds.take i)=some x) :
  (f d=some none/\aX r f (ds.take (i+1))=some x)\/∃kd,f d=some (some kd)/\cw r kd=true/\aX r f (ds.take (i+1))=some (x++[kd.2]):=by
 have hs:ds=ds.take i++(d::ds.drop (i+1)):=by
  obtain⟨hl,rfl⟩:=Kb.mp e;rw[<- Ll hl,Mj]
 have ht:ds.take (i+1)=ds.take i++[d]:=by rw[K8,e];rfl
 rw[hs] at h;obtain⟨_,y,_,h2,_⟩:=ir h;unfold aX at h2;rw[ht];split at h2
 ·rename_i kd zs e1 e2;split at h2
  ·rename_i hf;exact .inr ⟨kd,e1,hf,jN hx (by simp[aX,e1,hf])⟩
  ·cases h2
 ·rename_i zs e1 e2;exact .inl ⟨e1,by simpa using jN hx (y:=[]) (by simp[aX,e1])⟩
 ·cases h2
noncomputable def lg(r:Ow)(it:Option (List Nat×List D))(f:D->Option (Option KD)):Option KD:=match it with
 |some (_,ds)=>if ds.length<=100000 then(match aX r f ds with|some ys=>some (.fr (.own [] r),.lst ys)|none=>none) else none
 |none=>none
theorem iu:∀{ds ys:List D},aX r f ds=some ys->ys.length<=ds.length
 |[],ys,h=>by cases h;exact Ki _
 |d::ds,ys,h=>by
  unfold aX at h;split at h
  ·rename_i kd zs e1 e2;split at h
   ·cases h;have:=iu e2;simp;lia
   ·cases h
  ·rename_i zs e1 e2;cases h;have:=iu e2;simp;lia
  ·cases h
section
variable {K:Ka} {H:Hp} {S:Pr}
theorem TrL.snoc:∀{ds:List D} {r:Ow} {us:List V} {F F2:Pr} {d:D} {v:V},TrL K H S ds [] r us F->Tr K H S d r v F2->(∀b,F b->¬F2 b)->TrL K H S (ds++[d]) [] r (us++[v]) (λb=>F b\/F2 b)
 |[],r,us,F,F2,d,v,h,t,dj=>by
  unfold TrL at h;obtain⟨rfl,hn⟩:=h;show TrL K H S [d] [] r [v] _;unfold TrL;refine⟨v,[],F2,λ_=>False,rfl,λb=>⟨λz=>.inl (z.elim (λz=>absurd z (hn b)) id),λz=>z.elim .inr λz=>z.elim⟩,λ_ _ z=>z,t,?_⟩;unfold TrL;exact⟨rfl,λ_ z=>z⟩
 |e::ds,r,us,F,F2,d,v,h,t,dj=>by
  unfold TrL at h;obtain⟨y,ys,F1,F3,rfl,hF,dj1,h1,h2⟩:=h;show TrL K H S (e::(ds++[d])) [] r (y::(ys++[v])) _;unfold TrL;refine⟨y,ys++[v],F1,λb=>F3 b\/F2 b,rfl,λb=>?_,λb z1 z2=>?_,h1,TrL.snoc h2 t λb z=>dj b ((hF b).mpr (.inr z))⟩
  ·show F b\/F2 b↔F1 b\/F3 b\/F2 b;rw[hF b,or_assoc]
  ·rcases z2 with z2|z2
   ·exact dj1 b z1 z2
   ·exact dj b ((hF b).mpr (.inl z1)) z2
end
end J
namespace J
open PySem PySem.Spec L2
noncomputable def CC(X:Cx)(ifs:List Expr):TT:=λσ H Q=>∀pins s,Inv X pins σ H s->wpAny (model X.prog X.w) X.A (forIn ifs true λc r=>if r=true then do let ok <- isTrue c X.env (eval c X.env);pure (ForInStep.yield ok) else pure (ForInStep.yield r)) (TP X pins σ Q) X.xe s
theorem ma{tt:TT}(p:Cw X ifs tt){σ:L2.St}{H:Hp}{Q:Bool->Hp->Prop}(h:tt σ H Q):CC X ifs σ H Q:=λpins s I=>p pins s σ H Q I h
noncomputable def nq(X:Cx)(f:Ro->Option Bool)(ifs:List Expr):Prop:=∀ρ b,f ρ=some b->∀g σ H Q,SE X.K g ρ σ H->(∀H',Same H H'->Q b H')->CC X ifs σ H Q
theorem D4:nq X (λ_=>some true) []:=λρ b h g σ H Q se q=>by cases h;exact ma p5 (q H (Same.refl H))
theorem D5{e:Expr}(h:SndT X f e):nq X f [e]:=λρ b hb g σ H Q se q=>ma (p6 gx) (h ρ b hb g σ H Q se q)
section
variable {X:Cx} {Γ:gz} {c:Cz}
theorem ul(O:aB X Γ c){r:Ow}{fi:Ro->Option (List Nat×List D)}{ft:Ro->Option Bool}{fe:Ro->Option KD}{elt tg iter:Expr}{ifs:List Expr}{scope:Scope}{t:IT}{n:Nat}(hck:bP c scope=true)(hi:SndI X fi tg iter)
  (htg:oe ⟨fU scope c.sc,au scope,gA scope⟩ n tg=some t)
  (hft:∀C s H ex,nq (aQ X (au scope) scope C s H ex) ft ifs) (hfe:∀C s H ex,SndE (aQ X (au scope) scope C s H ex) fe elt)
  {ρ:Ro} {kd:Kd} {d:D} (h:lg r (fi ρ) (ef t ft fe (cn ρ (aK c scope)))=some (kd,d)) {g:Gh} {σ:L2.St} {H:Hp} {Q:VK} (se:SE X.K g ρ σ H) (q:∀v H',Same H H'->VR X.K g H H' kd d v->Q v H') :
  ib (wI X tg iter) (λv σ H Q=>∀C s H0 ex,wG (aQ X (au scope) scope C s H0 ex) tg v σ H Q) (λσ H Q=>∀C s H0 ex,CC (aQ X (au scope) scope C s H0 ex) ifs σ H Q) (λσ H Q=>∀C s H0 ex,wE (aQ X (au scope) scope C s H0 ex) elt σ H Q) (aK c scope) σ H Q:=by
 have hcap:lf (aK c scope)=true:=by
  simp only[bP,Ke] at hck;exact hck.1.2
 unfold lg at h;split at h
 ·rename_i bs ds hit;split at h
  ·rename_i hlen;split at h
   ·rename_i ys hm;cases h;have CO:=fy O hck;refine hi ρ bs ds hit g σ H _ se λjj src H1 s1 jt sp sf D hD=>?_;have se1:SE X.K (g.re (jM (aK c scope))) (cn ρ (aK c scope)) (dJ σ (aK c scope)) H1:=(se.same s1).cap hcap;generalize hg':g.re (jM (aK c scope))=g' at se1;have gS:∀b,Sg g' b↔Sg g b:=λb=>by rw[<- hg'];exact nl b
    generalize hρ:cn ρ (aK c scope)=ρc at se1 hm;generalize hσ:dJ σ (aK c scope)=σc at se1;clear hρ hσ
    refine⟨λi m σ' H'=>m=ds.length-i/\i<=ds.length/\∃(Fi:Pr) (us:List V) (yi:List J.D),aX r (ef t ft fe ρc) (ds.take i)=some yi/\(∀b,Fi b->H1 b=none/\b≠D)/\SE X.K (g'.plus λb=>b=D\/Fi b) ρc σ' H'/\
      (∀b o,H1 b=some o->H' b=some o)/\H' D=some (.lst us)/\TrL X.K H' (Sx g λb=>b=D\/Fi b) yi [] r us Fi,
     ⟨ds.length,by simp,KJ _,λ_=>False,[],[],by simp[aX],λb z=>z.elim,?_,λb o e=>al hD _ _ e,aG,by unfold TrL;exact⟨rfl,λ_ z=>z⟩⟩,?_⟩
    ·exact se1.plus (al hD) (λb z=>z.elim (λz=>z▸hD) λz=>z.elim) λb z=>z.elim (λz=>⟨.lst [],z▸aG,λxs h=>by cases h⟩) λz=>z.elim
    rintro i m σ' H' ⟨rfl,hi',Fi,us,yi,hyi,hFi,se',kk,gD,tr⟩
    have gpS:∀b,Sg (g'.plus λb=>b=D\/Fi b) b↔Sx g (λb=>b=D\/Fi b) b:=λb=>(ar b).trans (or_congr (gS b) Iff.rfl);have hnew:∀b o,H1 b=some o->¬(b=D\/Fi b):=λb o e z=>z.elim (λz=>by rw[z,hD] at e;cases e) λz=>by rw[(hFi b z).1] at e;cases e
    have sp':src.P X.K (g'.plus λb=>b=D\/Fi b) H':=Src.mono (λb o e n z=>((gpS b).mp z).elim n (hnew b o e)) (λb o _ e=>kk b o e) (λa e=>sf.from_t e) sp;obtain⟨j1,j2⟩:=jt i _ H' sp' se'.mu;by_cases hlt:i<ds.length
    ·have hd:ds[i]?=some ds[i]:=Kg hlt;obtain⟨go,yl⟩:=j2 _ hd;refine .inr ⟨go,λx H2 hy C s0 H0 ex=>?_⟩;obtain⟨s2,rx⟩:=yl x H2 hy;have st:=oP hm hd hyi
     have stuck:∃o,ef t ft fe ρc ds[i]=some o:=by
      rcases st with⟨e,_⟩|⟨kd,e,_⟩
      ·exact⟨_,e⟩
      ·exact⟨_,e⟩
     obtain⟨o0,ho0⟩:=stuck;have he:=ho0;unfold ef at he;split at he
     ·rename_i ps hps;split at he
      ·rename_i hno;refine tV (qh (CO C s0 H0 ex) n htg) (i9 hps rx λvs hvs C1 s01 H01 ex1=>?_);have t1:=SE.setAll hvs (se'.same s2);obtain⟨t2,t3⟩:=SE.passAll hvs hno (se'.same s2);split at he
       ·rename_i hT
        -- the test holds
        refine hft C1 s01 H01 ex1 _ true hT _ _ _ _ t1 λH3 s3=>tI λC2 s02 H02 ex2=>?_
        cases hke:fe (setAll ps ρc) with
        |none=>rw[hke] at he;cases he
        |some ke=>
         rw[hke] at he;cases he;obtain⟨ky,y⟩:=ke
         have st2:cw r (ky,y)=true/\aX r (ef t ft fe ρc) (ds.take (i+1))=some (yi++[y]):=by
          rcases st with⟨e,_⟩|⟨kd,e,e2,e3⟩
          ·rw[ho0] at e;cases e
          ·rw[ho0] at e;cases e;exact⟨e2,e3⟩
         refine hfe C2 s02 H02 ex2 _ ky y hke _ _ H3 _ (t1.same s3) λvy H4 s4 r4=>?_;obtain⟨Fy,y1,y2⟩:=r4;have y9:Same H' H4:=(s2.trans s3).trans s4;have seE:SE X.K (g'.plus λb=>b=D\/Fi b) ρc (ip vs σ') H3:=t2.same s3
         have hgy:∀b,Fy b->(g'.plus λb=>b=D\/Fi b) b=none:=λb z=>by
          cases e:(g'.plus λb=>b=D\/Fi b) b with
          |none=>rfl
          |some k=>
           obtain⟨o,q2,_⟩:=seE.mu b (by rw[Sg,e];simp);rw[y1 b z] at q2;cases q2
         have mm:MuOk H4 (Sx (g'.plus λb=>b=D\/Fi b) Fy):=λb z=>z.elim (λz=>seE.mu.same s4 b z) λz=>y2.dom b z;obtain⟨F2,a1,a2⟩:=VR1.fit (p:=(ky,y)) st2.1 mm hgy (λb z=>z) y2;have gD4:H4 D=some (.lst us):=y9 _ _ gD;have nF2D:¬F2 D:=λz=>by have:=y1 D (a1 D z);rw[(s2.trans s3) _ _ gD] at this;cases this
         have nF2:∀b,F2 b->H' b=none:=λb z=>(s2.trans s3).free (y1 b (a1 b z))
         have hul:us.length<=i:=by
          rw[tr.len];exact KF (iu hyi) (by rw[KQ];lia)
         have kD:∀b o,b≠D->H4 b=some o->upd H4 D (.lst (us++[vy])) b=some o:=λb o n e=>by rw[am n];exact e
         refine⟨us,gD4,Li hul (Km hlt (a7 hlen)),ds.length-(i+1),by lia,rfl,hlt,λb=>Fi b\/F2 b,us++[vy],yi++[y],st2.2,λb z=>?_,?_,λb o e=>?_,aG,?_⟩
         ·rcases z with z|z
          ·exact hFi b z
          ·refine⟨?_,λe=>nF2D (e▸z)⟩
           cases e:H1 b with
           |none=>rfl
           |some o=>have:=nF2 b z;rw[kk b o e] at this;cases this
         ·have e1:(g'.plus λb=>b=D\/(Fi b\/F2 b))=(g'.plus λb=>b=D\/Fi b).plus F2:=by
           rw[iq];congr 1;funext b;exact propext ⟨λz=>z.elim (λz=>.inl (.inl z)) λz=>z.elim (λz=>.inl (.inr z)) .inr,λz=>z.elim (λz=>z.elim .inl λz=>.inr (.inl z)) λz=>.inr (.inr z)⟩
          rw[e1];refine SE.upd (seE.plus s4 (λb z=>y1 b (a1 b z)) λb z=>y2.dom b (a1 b z)) ?_ (λxs h=>by cases h);rw[iq];exact a6 (.inl (.inl rfl))
         ·exact kD b o (λz=>hnew b o e (.inl z)) (y9 _ _ (kk b o e))
         ·refine TrL.snoc (tr.go (λb o hb e=>kD b o (λz=>?_) (y9 _ _ e)) λb o e n z=>?_) ((a2 (λb=>g b≠none\/b=D\/Fi b\/F2 b) λb z=>?_).go (λb o hb e=>kD b o (λz=>?_) e) λb o e n z=>n z) λb z1 z2=>?_
          ·subst z;exact hb.elim (λz=>z (.inr (.inl rfl))) λz=>(hFi b z).2 rfl
          ·rcases z with z|z|z|z
           ·exact n (.inl z)
           ·exact n (.inr (.inl z))
           ·exact n (.inr (.inr z))
           ·rw[nF2 b z] at e;cases e
          ·rcases z with z|z|z|z
           ·exact .inr (.inl ((gpS b).mpr (.inl z)))
           ·exact .inr (.inl ((gpS b).mpr (.inr (.inl z))))
           ·exact .inr (.inl ((gpS b).mpr (.inr (.inr z))))
           ·exact .inr (.inr (.inl z))
          ·subst z;exact hb.elim (λz=>z (.inr (.inl rfl))) nF2D
          ·obtain⟨o,e,_⟩:=tr.dom b z1;rw[nF2 b z2] at e;cases e
       ·rename_i hT;cases he
        have st2:aX r (ef t ft fe ρc) (ds.take (i+1))=some yi:=by
         rcases st with⟨_,e⟩|⟨kd,e,_⟩
         ·exact e
         ·rw[ho0] at e;cases e
        refine hft C1 s01 H01 ex1 _ false hT _ _ _ _ t1 λH3 s3=>tH ?_;have rS:=s2.trans s3;exact⟨ds.length-(i+1),by lia,rfl,hlt,Fi,us,yi,st2,hFi,t2.same s3,λb o e=>rS _ _ (kk b o e),rS _ _ gD,tr.go (λb o _ e=>rS _ _ e) λ_ _ _ n=>n⟩
       ·cases he
      ·cases he
     ·cases he
    ·have e:i=ds.length:=by lia
     subst e;rw[K7,hm] at hyi;cases hyi;refine .inl ⟨j1 (Ki _),q _ H' (λb o e=>kk b o (s1 _ _ e)) ⟨λb=>b=D\/Fi b,λb z=>s1.free (z.elim (λz=>z▸hD) λz=>(hFi b z).1),?_⟩⟩;show Tr _ _ _ _ _ _ _;unfold Tr
     exact⟨D,_,us,Fi,rfl,gD,rfl,λ_ z=>(hFi D z).2 rfl,(λh=>nomatch h),λb=>⟨λz=>z.imp (λz=>⟨rfl,z⟩) id,λz=>z.imp (λz=>z.2) id⟩,tr⟩
   ·cases h
  ·cases h
 ·cases h
noncomputable def eh:Expr->Bool
 |.Set ..=>false
 |_=>true
theorem fA(h:eh e=true)(x:Value):foldedSetIterable e env x=pure x:=by
 cases e<;>first|rfl|cases h
theorem A1(O:aB X Γ c){r:Ow}{fi:Ro->Option (List Nat×List D)}{ft:Ro->Option Bool}{fe:Ro->Option KD}{elt tg iter:Expr}{ifs:List Expr}{scope:Scope}{pos:Pos}{t:IT}{n:Nat}(hck:bP c scope=true)(hns:eh iter=true)(hi:SndI X fi tg iter)
  (htg:oe ⟨fU scope c.sc,au scope,gA scope⟩ n tg=some t)
  (hft:∀C s H ex,nq (aQ X (au scope) scope C s H ex) ft ifs) (hfe:∀C s H ex,SndE (aQ X (au scope) scope C s H ex) fe elt) :
  SndE X (λρ=>lg r (fi ρ) (ef t ft fe (cn ρ (aK c scope)))) (.ListComp elt [⟨tg,iter,ifs,0⟩] scope pos):=by
 intro ρ kd d h g σ H Q se q
 exact aC (mY (N':=au scope) (cap:=aK c scope) O.calm (fV O hck) wU
  (λC s H0 ex pins s' σ' H' v u Q' I r hh=>wV pins s' σ' H' v u Q' I r (hh C s H0 ex)) (λC s H0 ex pins s' σ' H' Q' I hh=>hh C s H0 ex pins s' I) (λC s H0 ex pins s' σ' H' Q' I hh=>hh C s H0 ex pins s' I) (fA hns)) (ul O hck hi htg hft hfe h se q)
end
end J
namespace J
open PySem PySem.Spec L2
mutual
inductive IE where
 |var (i:Nat)
 |lit (d:D)
 |bin (op:Operator) (a b:IE)
 |cmp (op:CmpOp) (a b:IE)
 |chain (op op':CmpOp) (a b d:IE)
 |neg (a:IE)
 |not (a:IE)
 |bool (op:BoolOp) (es:fW)
 |ifx (t a b:IE)
 |lst (k:Ow) (es:fW)
 |tup (k:Ow) (es:fW)
 |dnew (t:Nat) (r:Ow)
 |ix (a b:IE)
 |sl (a:IE) (lo hi:IO)
 |rev (a st:IE)
 |stp (a:IE) (lo:IO) (st:IE)
 |maxd (a b:IE)
 |idx (a b:IE)
 |lrng (a:IE)
 |lset (a:IE)
 |dsp (k:D) (a:IE)
 |dspT (m:Nat) (k a:IE)
 |get (a k b:IE)
 |isi2 (T U:Str) (a:IE)
 |dspN (ks:List D) (es:fW)
 |isi (T:Str) (a:IE)
 |fld (f:Str) (a:IE)
 |fn (i:Nat) (es:fW)
 |blt (x:Str) (es:fW)
 |comp (r:Ow) (cap:List (Option Nat)) (tg:IT) (it:II) (ts:IO) (elt:IE)
inductive fW where
 |nil
 |cons (a:IE) (r:fW)
inductive IO where
 |non
 |som (a:IE)
inductive II where
 |e (a:IE)
 |rng (a b:IE)
 |enm (a:IE)
 |zp (a b:IE)
end
noncomputable def qj(t:Nat)(r:Ow):Option KD:=some (.fr (.own [] r),.dic t [] [])
mutual
noncomputable def af(Γ:Nat->Option Fn):IE->Ro->Option KD
 |.var i,ρ=>oD i ρ[i]?
 |.lit d,_=>some (.sh,d)
 |.bin op a b,ρ=>t5 op (af Γ a ρ) (af Γ b ρ)
 |.cmp op a b,ρ=>bV (jH op (af Γ a ρ) (af Γ b ρ))
 |.chain op op' a b d,ρ=>none
 |.neg a,ρ=>t6 (af Γ a ρ)
 |.not a,ρ=>none
 |.bool op es,ρ=>jO Γ op es ρ
 |.ifx t a b,ρ=>DG (ba Γ t ρ) (af Γ a ρ) (af Γ b ρ)
 |.lst k es,ρ=>l7 k (aR Γ es ρ)
 |.tup k es,ρ=>gB k (aR Γ es ρ)
 |.dnew t r,_=>qj t r
 |.ix a b,ρ=>rJ (af Γ a ρ) (af Γ b ρ)
 |.sl a lo hi,ρ=>CA (af Γ a ρ) (dS Γ lo ρ) (dS Γ hi ρ)
 |.rev a b,ρ=>oG (af Γ a ρ) (af Γ b ρ)
 |.stp a lo st,ρ=>rL (af Γ a ρ) (dS Γ lo ρ) (af Γ st ρ)
 |.maxd a b,ρ=>none
 |.idx a b,ρ=>none
 |.lrng a,ρ=>ld (af Γ a ρ)
 |.lset a,ρ=>none
 |.dsp k a,ρ=>none
 |.dspN ks es,ρ=>none
 |.dspT m k a,ρ=>jJ m (af Γ k ρ) (af Γ a ρ)
 |.get a k b,ρ=>none
 |.isi T a,ρ=>rQ T (af Γ a ρ)
 |.isi2 T U a,ρ=>none
 |.fld f a,ρ=>none
 |.fn i es,ρ=>wa (Γ i) (aR Γ es ρ)
 |.blt x es,ρ=>oJ x (aR Γ es ρ)
 |.comp r cap tg it ts elt,ρ=>lg r (dU Γ it ρ) (ef tg (d5 Γ ts) (af Γ elt) (cn ρ cap))
noncomputable def ba(Γ:Nat->Option Fn):IE->Ro->Option Bool
 |.cmp op a b,ρ=>jH op (af Γ a ρ) (af Γ b ρ)
 |.chain op op' a b d,ρ=>ed op op' (af Γ a ρ) (af Γ b ρ) (af Γ d ρ)
 |.not a,ρ=>(ba Γ a ρ).map (!·)
 |.bool op es,ρ=>eT Γ op es ρ
 |.var i,ρ=>kH (oD i ρ[i]?)
 |.ix a b,ρ=>kH (rJ (af Γ a ρ) (af Γ b ρ))
 |.isi T a,ρ=>kH (rQ T (af Γ a ρ))
 |.isi2 T U a,ρ=>none
 |.fn i es,ρ=>kH (wa (Γ i) (aR Γ es ρ))
 |.blt x es,ρ=>kH (oJ x (aR Γ es ρ))
 |_,_=>none
noncomputable def d5(Γ:Nat->Option Fn):IO->Ro->Option Bool
 |.non,_=>some true
 |.som a,ρ=>ba Γ a ρ
noncomputable def aR(Γ:Nat->Option Fn):fW->Ro->Option (List KD)
 |.nil,_=>some []
 |.cons a r,ρ=>eJ (af Γ a ρ) (aR Γ r ρ)
noncomputable def jO(Γ:Nat->Option Fn)(op:BoolOp):fW->Ro->Option KD
 |.nil,_=>none
 |.cons a r,ρ=>match r with
  |.nil=>af Γ a ρ
  |.cons _ _=>(match af Γ a ρ with
   |some (_,.bl x)=>if(op==.And)=x then jO Γ op r ρ else some (.sh,.bl x)
   |_=>none)
noncomputable def eT(Γ:Nat->Option Fn)(op:BoolOp):fW->Ro->Option Bool
 |.nil,_=>none
 |.cons a r,ρ=>match r with
  |.nil=>ba Γ a ρ
  |.cons _ _=>(match ba Γ a ρ with
   |some x=>if(op==.And)=x then eT Γ op r ρ else some x
   |none=>none)
noncomputable def dS(Γ:Nat->Option Fn):IO->Ro->Option (Option Int)
 |.non,_=>some none
 |.som a,ρ=>xb (af Γ a ρ)
noncomputable def dU(Γ:Nat->Option Fn):II->Ro->Option (List Nat×List D)
 |.e a,ρ=>l8 (af Γ a ρ)
 |.rng a b,ρ=>gH (af Γ a ρ) (af Γ b ρ)
 |.enm a,ρ=>m9 (af Γ a ρ)
 |.zp a b,ρ=>nc (af Γ a ρ) (af Γ b ρ)
end
section
theorem xl:af Γ (.var i) ρ=oD i ρ[i]?:=rfl
theorem qk:af Γ (.lit d) ρ=some (.sh,d):=rfl
theorem xm:af Γ (.bin op a b) ρ=t5 op (af Γ a ρ) (af Γ b ρ):=rfl
theorem xn:af Γ (.cmp op a b) ρ=bV (jH op (af Γ a ρ) (af Γ b ρ)):=rfl
theorem xo:af Γ (.neg a) ρ=t6 (af Γ a ρ):=rfl
theorem gJ:af Γ (.bool op es) ρ=jO Γ op es ρ:=rfl
theorem ql:af Γ (.ifx t a b) ρ=DG (ba Γ t ρ) (af Γ a ρ) (af Γ b ρ):=rfl
theorem xp:af Γ (.lst k es) ρ=l7 k (aR Γ es ρ):=rfl
theorem xq:af Γ (.tup k es) ρ=gB k (aR Γ es ρ):=rfl
theorem um:af Γ (.dnew t r) ρ=qj t r:=rfl
theorem A2:af Γ (.ix a b) ρ=rJ (af Γ a ρ) (af Γ b ρ):=rfl
theorem A3:af Γ (.sl a lo hi) ρ=CA (af Γ a ρ) (dS Γ lo ρ) (dS Γ hi ρ):=rfl
theorem xr:af Γ (.rev a b) ρ=oG (af Γ a ρ) (af Γ b ρ):=rfl
theorem xt:af Γ (.stp a lo st) ρ=rL (af Γ a ρ) (dS Γ lo ρ) (af Γ st ρ):=rfl
theorem uo:af Γ (.lrng a) ρ=ld (af Γ a ρ):=rfl
theorem uq:af Γ (.dspT m k a) ρ=jJ m (af Γ k ρ) (af Γ a ρ):=rfl
theorem xu:af Γ (.isi T a) ρ=rQ T (af Γ a ρ):=rfl
theorem A4{Γ:Nat->Option Fn}:af Γ (.fn i es) ρ=wa (Γ i) (aR Γ es ρ):=rfl
theorem xv:af Γ (.blt x es) ρ=oJ x (aR Γ es ρ):=rfl
theorem nr:af Γ (.comp r cap tg it ts elt) ρ=lg r (dU Γ it ρ) (ef tg (d5 Γ ts) (af Γ elt) (cn ρ cap)):=rfl
theorem ur:ba Γ (.cmp op a b) ρ=jH op (af Γ a ρ) (af Γ b ρ):=rfl
theorem jP:ba Γ (.chain op op' a b d) ρ=ed op op' (af Γ a ρ) (af Γ b ρ) (af Γ d ρ):=rfl
theorem ut:ba Γ (.not a) ρ=(ba Γ a ρ).map (!·):=rfl
theorem fB:ba Γ (.bool op es) ρ=eT Γ op es ρ:=rfl
end
structure Nms where
 fns:List Str
 cs:List (Str×D)
 an:Nat->Nat->Option Ow:=λ_ _=>none
 md:Nat->Nat->Option Bool:=λ_ _=>none
 io:Nat->Option (List Bool):=λ_=>none
 vw:Nat->Nat->List Nat:=λ_ _=>[]
 cls:List (Str×List Str):=[]
noncomputable def cg(fns:Nms)(Γ:Nat->Option Fn)(fm:Str->Option (Ka->Sp)):gz:=⟨λx=>(bF x fns.fns).bind Γ,fm,λx=>fns.cs.lookup x,λx=>fns.cls.lookup x⟩
noncomputable def dL(f:Expr->Option IE):List Expr->Option fW
 |[]=>some .nil
 |e::es=>if ai e then(match f e,dL f es with|some a,some r=>some (.cons a r)|_,_=>none) else none
noncomputable def dB(f:Expr->Option IE):List Expr->Option fW
 |[]=>some .nil
 |e::es=>match f e,dB f es with|some a,some r=>some (.cons a r)|_,_=>none
noncomputable def A5(c:Cz)(f:Expr->Option IE)(tg iter:Expr):Option II:=
 match iter with
 |.Call (.Name x _) [a] [] _=>
  if x="range" then(if eM c.sc "range" && ai a then(f a).map (.rng (.lit (.int 0))) else none)
  else if x="enumerate" then(if eM c.sc "enumerate" && ai a&&iO tg then(f a).map .enm else none)
  else(f iter).map .e
 |.Call (.Name x _) [a,b] [] _=>
  if x="range" then(if eM c.sc "range" && ai a&&ai b then(match f a,f b with|some a,some b=>some (.rng a b)|_,_=>none) else none)
  else if x="zip" then(if eM c.sc "zip" && ai a&&ai b&&iO tg then(match f a,f b with|some a,some b=>some (.zp a b)|_,_=>none) else none)
  else(f iter).map .e
 |_=>(f iter).map .e
noncomputable def xw(f:Expr->Option IE):Option Expr->Option IO
 |none=>some .non
 |some e=>(f e).map .som
noncomputable def oQ(f:Expr->Option IE):List Expr->Option IO
 |[]=>some .non
 |[e]=>(f e).map .som
 |_=>none
noncomputable def uu(fns:Nms)(c:Cz)(f:Expr->Option IE)(x:Str)(es:List Expr):Option IE:=
 if eM c.sc x&&es.all ai then(match dL f es with|some ies=>(match bF x fns.fns with|some i=>(match fns.io i with|some _=>none|none=>some (.fn i ies))|none=>some (.blt x ies))|none=>none) else none
noncomputable def xx:IE->Bool
 |.var _|.ix ..|.isi ..|.isi2 ..|.fn ..|.blt ..=>true
 |_=>false
noncomputable def iP(o:Option IE):Option IE:=match o with|some ie=>if xx ie then some ie else none|none=>none
noncomputable def Nms.kL(fns:Nms)(p:Pos):Ow:=(fns.an p.line p.col).getD bq
noncomputable def Nms.kT(fns:Nms)(p:Pos):Ow:=(fns.an p.line p.col).getD .fz
noncomputable def uw:Const->Option IE
 |.int i=>some (.lit (.int i))
 |.bool i=>some (.lit (.bl i))
 |.none=>some (.lit .non)
 |.str x=>some (.lit (.str x))
 |_=>none
noncomputable def oR(f:Expr->Option IE)(a:Expr)(ops:List CmpOp)(bs:List Expr):Option IE:=match ops with
 |[]=>none
 |op::ops=>match bs with
  |[]=>none
  |b::bs=>match ops with
   |[]=>(match bs with
    |[]=>if behindInMarks op b then none else match f a,f b with|some a,some b=>some (.cmp op a b)|_,_=>none
    |_::_=>none)
   |op'::ops=>match ops with
    |_::_=>none
    |[]=>match bs with
     |[]=>none
     |d::bs=>match bs with
      |_::_=>none
      |[]=>if behindInMarks op' d then none else match f a,f b,f d with|some a,some b,some d=>some (.chain op op' a b d)|_,_,_=>none
noncomputable def Hf:Expr->Bool
 |.UnaryOp ..=>true
 |_=>false
noncomputable def A6(f:Expr->Option IE)(a b:Expr):Option IE:=match b with
 |.Slice lo hi st _=>(match st with
  |none=>(match f a,xw f lo,xw f hi with|some a,some lo,some hi=>some (.sl a lo hi)|_,_,_=>none)
  |some st=>(match hi with
   |some _=>none
   |none=>if Hf st then(match lo with
    |some _=>none
    |none=>(match f a,f st with|some a,some b=>some (.rev a b)|_,_=>none)) else(match f a,xw f lo,f st with|some a,some lo,some b=>some (.stp a lo b)|_,_,_=>none)))
 |b=>if cz b then(match f a,f b with|some a,some b=>some (.ix a b)|_,_=>none) else none
noncomputable def uA(c:Cz)(f:Expr->Option IE)(a:Expr)(es:List Expr):Option IE:=match es with
 |[]=>none
 |e::es=>match es with
  |[]=>none
  |e2::es=>match es with
   |_::_=>none
   |[]=>match e with
    |.Name T _=>(match e2 with
     |.Name U _=>if eM c.sc "isinstance" && eM c.sc T&&eM c.sc U&&ai a then(f a).map (.isi2 T U) else none
     |_=>none)
    |_=>none
noncomputable def A7(c:Cz)(f:Expr->Option IE)(as:List Expr):Option IE:=match as with
 |[]=>none
 |a::as=>match as with
  |[]=>none
  |t::as=>match as with
   |_::_=>none
   |[]=>match t with
    |.Name T _=>if eM c.sc "isinstance" && eM c.sc T&&ai a then(f a).map (.isi T) else none
    |.Tuple es _ _=>uA c f a es
    |_=>none
noncomputable def uB(c:Cz)(f:Expr->Option IE)(g:Expr)(as:List Expr)(ks:List Keyword):Option IE:=match g with
 |.Name x _=>(match as with
  |[]=>none
  |a::as=>(match as with
   |_::_=>none
   |[]=>(match ks with
    |[]=>none
    |k::ks=>(match ks with
     |_::_=>none
     |[]=>if x="max"/\k.arg=some "default"/\eM c.sc "max" = true/\ai a=true then(match f a,f k.value with|some a,some b=>some (.maxd a b)|_,_=>none) else none))))
 |_=>none
noncomputable def uC(c:Cz)(f:Expr->Option IE)(x:Str)(as:List Expr):Option IE:=match as with
 |[]=>none
 |a::as=>match as with
  |_::_=>none
  |[]=>match a with
   |.Call g bs ks _=>(match g with
    |.Name y _=>(match bs with
     |[]=>none
     |b::bs=>(match bs with
      |_::_=>none
      |[]=>(match ks with
       |_::_=>none
       |[]=>if x="list"/\y="range"/\eM c.sc "list" = true/\eM c.sc "range" = true/\ai b=true then(f b).map .lrng else if x="len"/\y="set"/\eM c.sc "len" = true/\eM c.sc "set" = true/\ai b=true then(f b).map .lset else none)))
    |_=>none)
   |_=>none
noncomputable def D6(f:Expr->Option IE)(o:Expr)(m:Str)(ap:Pos)(as:List Expr)(pos:Pos):Option IE:=none
noncomputable def Hg(fns:Nms)(c:Cz)(f:Expr->Option IE)(g:Expr)(as:List Expr)(ks:List Keyword)(pos:Pos):Option IE:=match ks with
 |k::ks=>uB c f g as (k::ks)
 |[]=>match g with
  |.Name x _=>if x="isinstance" then A7 c f as else(match as with
   |[]=>if eM c.sc x then(match bF x fns.fns with|some i=>(match fns.io i with|some _=>none|none=>some (.fn i .nil))|none=>none) else none
   |a::es=>match uC c f x (a::es) with|some r=>some r|none=>uu fns c f x (a::es))
  |.Attribute o m ap=>D6 f o m ap as pos
  |_=>none
noncomputable def D7(fns:Nms)(c:Cz)(fE fT:Cz->Expr->Option IE)(elt:Expr)(gs:List Comprehension)(scope:Scope)(p:Pos):Option IE:=match gs with
 |[]=>none
 |g::gs=>match gs with
  |_::_=>none
  |[]=>if g.is_async=0 then(if eh g.iter&&bP c scope then(match oe ⟨fU scope c.sc,au scope,gA scope⟩ 4 g.target,A5 c (fE c) g.target g.iter,oQ (fT ⟨fU scope c.sc,au scope,gA scope⟩) g.ifs,fE ⟨fU scope c.sc,au scope,gA scope⟩ elt with
   |some t,some it,some ts,some el=>some (.comp ((fns.an p.line p.col).getD .fz) (aK c scope) t it ts el)|_,_,_,_=>none) else none) else none
noncomputable def Hh(k:Option Expr):Option D:=match k with
 |some k=>(match k with
  |.Constant z _ _=>(match uw z with
   |some z=>(match z with
    |.lit d=>some d
    |_=>none)
   |none=>none)
  |_=>none)
 |none=>none
noncomputable def za(f:Expr->Option IE):List (Option Expr)->List Expr->Option (List D×fW)
 |[],vs=>(match vs with|[]=>some ([],.nil)|_::_=>none)
 |k::ks,vs=>match vs with
  |[]=>none
  |v::vs=>match Hh k,f v,za f ks vs with
   |some d,some a,some p=>some (d::p.1,.cons a p.2)
   |_,_,_=>none
noncomputable def xy(f:Expr->Option IE)(ks:List (Option Expr))(vs:List Expr):Option IE:=match ks with
 |[]=>none
 |k::ks=>match ks with
  |k2::ks2=>(za f (k::k2::ks2) vs).map λp=>.dspN p.1 p.2
  |[]=>match vs with
   |[]=>none
   |v::vs=>match vs with
    |_::_=>none
    |[]=>match k with
     |none=>none
     |some k=>(match k with
      |.Constant z _ _=>(match uw z with
       |some z=>(match z with
        |.lit d=>(f v).map (.dsp d)
        |_=>none)
       |none=>none)
      |_=>none)
noncomputable def uD(m:Nat)(f:Expr->Option IE)(ks:List (Option Expr))(vs:List Expr):Option IE:=match ks with
 |[]=>none
 |k::ks=>match ks with
  |_::_=>none
  |[]=>match vs with
   |[]=>none
   |v::vs=>match vs with
    |_::_=>none
    |[]=>match k with
     |none=>none
     |some k=>(match f k,f v with|some a,some b=>some (.dspT m a b)|_,_=>none)
theorem uE{m:Nat}{f:Expr->Option IE}(h:uD m f ks vs=some ie):∃k v a b,ks=[some k]/\vs=[v]/\f k=some a/\f v=some b/\ie=.dspT m a b:=by
 unfold uD at h
 repeat' split at h
 all_goals first|(cases h;done)|skip
 rename_i a b h1 h2;cases h;exact⟨_,_,a,b,rfl,rfl,h1,h2,rfl⟩
noncomputable def Js:Ow->Nat
 |.fz=>1
 |.own es _=>if es.length=0 then 1 else es.length
noncomputable def JM:Ow->Ow
 |.fz=>.fz
 |.own _ r=>r
mutual
noncomputable def cE(fns:Nms):Nat->Cz->Expr->Option IE
 |0,_,_=>none
 |n+1,c,e=>match e with
  |.Name x p=>if eM c.sc x then(fns.cs.lookup x).map .lit else(match fns.md p.line p.col with|none=>(d3 c x).map .var|some _=>none)
  |.Constant v _ _=>uw v
  |.BinOp a op b _=>match cE fns n c a,cE fns n c b with|some a,some b=>some (.bin op a b)|_,_=>none
  |.Compare a ops bs _=>oR (cE fns n c) a ops bs
  |.UnaryOp op a _=>(match op with|.USub=>(cE fns n c a).map .neg|.Not=>(cE fns n c a).map .not|_=>none)
  |.BoolOp op es _=>(dB (cE fns n c) es).map (.bool op)
  |.IfExp t a b _=>match cT fns n c t,cE fns n c a,cE fns n c b with|some t,some a,some b=>some (.ifx t a b)|_,_,_=>none
  |.List es p=>(dL (cE fns n c) es).map (.lst (fns.kL p))
  |.Tuple es _ p=>(dL (cE fns n c) es).map (.tup (fns.kT p))
  |.Dict ks vs p=>(match ks with|k::ks'=>(match fns.an p.line p.col with|some o=>(match Js o with|0=>xy (cE fns n c) (k::ks') vs|m+1=>uD m (cE fns n c) (k::ks') vs)|none=>xy (cE fns n c) (k::ks') vs)|[]=>(match vs with|_::_=>none|[]=>some (match fns.an p.line p.col with|some k=>.dnew (Js k) (JM k)|none=>.dnew 0 .fz)))
  |.Subscript a b _=>A6 (cE fns n c) a b
  |.Attribute a f _=>if fJ a then(cE fns n c a).map (.fld f) else none
  |.Call g as ks pos=>Hg fns c (cE fns n c) g as ks pos
  |.ListComp elt gs scope p=>D7 fns c (cE fns n) (cT fns n) elt gs scope p
  |_=>none
noncomputable def cT(fns:Nms):Nat->Cz->Expr->Option IE
 |0,_,_=>none
 |n+1,c,e=>match e with
  |.Compare a ops bs _=>oR (cE fns n c) a ops bs
  |.UnaryOp op a _=>(match op with|.Not=>(cT fns n c a).map .not|_=>none)
  |.BoolOp op es _=>(dB (cT fns n c) es).map (.bool op)
  |.Name x p=>iP (cE fns n c (.Name x p))
  |.Call f as ks p=>iP (cE fns n c (.Call f as ks p))
  |.Subscript a b p=>iP (cE fns n c (.Subscript a b p))
  |_=>none
end
theorem df{f:Ro->Option KD}(h:∀ρ,f ρ=none):SndE X f e:=λρ kd d hh=>by rw[h] at hh;cases hh
theorem aS{α β:Type}{o:Option α}{g:α->β}{b:β}(h:o.map g=some b):∃a,o=some a/\b=g a:=by
 cases o with
 |none=>cases h
 |some a=>cases h;exact⟨a,rfl,rfl⟩
theorem ja(h:xx ie=true):ba Γ ie=λρ=>kH (af Γ ie ρ):=by
 funext ρ
 cases ie with
 |var i=>rfl
 |ix a b=>rfl
 |isi T a=>rfl
 |isi2 T U a=>rfl
 |fn i es=>rfl
 |blt x es=>rfl
 |_=>cases h
theorem jQ(d:D):af Γ (.lit d)=λ_=>some (.sh,d):=by
 exact funext λ_=>rfl
theorem jR(h:iP o=some ie):o=some ie/\xx ie=true:=by
 unfold iP at h;split at h
 ·split at h
  ·rename_i hk;cases h;exact⟨rfl,hk⟩
  ·cases h
 ·cases h
section
variable {X:Cx} {c:Cz} (fns:Nms) (Γ:Nat->Option Fn) {fm:Str->Option (Ka->Sp)}
theorem A8{t:Nat}:SndE X (λ_=>qj t r) (.Dict [] [] pos):=by
 intro ρ kd d h g σ H Q se q;cases(show some (Kd.fr (.own [] r),D.dic t [] [])=some (kd,d) from h)
 have mk:∀{p:Addr} {o:HO},H p=none->eL X.K o (.dic t []) []->VR X.K g H (upd H p o) (.fr (.own [] r)) (.dic t [] []) (.ref p):=λ{p o} hp ho=>
  VRs.node (kds:=[]) (es:=[]) (r:=r) (vs:=[]) (hd:=.dic t []) rfl se.mu (Same.refl H) .nil hp ho rfl
 cases t with
 |zero=>exact aC tK λp hp=>q _ _ (al hp) (mk hp (.inl ⟨rfl,[],rfl,rfl,rfl⟩))
 |succ m=>exact aC (tL (m:=m)) λp hp=>q _ _ (al hp) (mk hp (.inr ⟨m,rfl,[],0,rfl,rfl,rfl⟩))
theorem fC{f:Expr->Option IE}(hf:∀e ie,f e=some ie->SndE X (af Γ ie) e):∀{es:List Expr} {ies:fW},dL f es=some ies->iY X (aR Γ ies) es/\es.all ai=true
 |[],ies,h=>by
  cases h;refine⟨?_,rfl⟩;have:aR Γ .nil=λ_=>some []:=by funext ρ;rw[aR]
  rw[this];exact p9
 |e::es,ies,h=>by
  unfold dL at h;split at h
  ·rename_i hn;split at h
   ·rename_i a r ha hr;cases h;obtain⟨h1,h2⟩:=fC hf hr;refine⟨?_,by rw[Lq,hn,h2];rfl⟩;have:aR Γ (.cons a r)=λρ=>eJ (af Γ a ρ) (aR Γ r ρ):=by funext ρ;rw[aR]
    rw[this];exact l6 hn (hf e a ha) h1
   ·cases h
  ·cases h
theorem qm{f:Expr->Option IE}(hf:∀e ie,f e=some ie->SndE X (af Γ ie) e)(op:BoolOp)(pos:Pos):∀{es:List Expr} {ies:fW},dB f es=some ies->SndE X (jO Γ op ies) (.BoolOp op es pos)
 |[],ies,h=>by cases h;intro ρ k d h;unfold jO at h;cases h
 |[a],ies,h=>by
  unfold dB dB at h;split at h
  ·rename_i a' r ha hr;cases h;cases hr;intro ρ k d h g σ H Q se q;unfold jO at h;exact aC (zQ aA) (hf a a' ha ρ k d h g σ H Q se q)
  ·cases h
 |a::b::es,ies,h=>by
  unfold dB at h;split at h
  ·rename_i a' r ha hr;cases h;have rest:=qm hf op pos hr
   have hr2:∃b' r',r=.cons b' r':=by
    unfold dB at hr;split at hr
    ·cases hr;exact⟨_,_,rfl⟩
    ·cases hr
   obtain⟨b',r',rfl⟩:=hr2;intro ρ k d h g σ H Q se q;unfold jO at h;dsimp only at h;split at h
   ·rename_i ka x ea;split at h
    ·rename_i hx
     cases op with
     |And=>
      refine aC (sP aA aA) (hf a a' ha ρ _ _ ea g σ H _ se λv H1 s1 r=>⟨x,r.rd.bl,?_⟩);have:x=true:=by rw[<- hx];rfl
      rw[if_pos this];exact rest ρ k d h g σ H1 Q (se.same s1) λv2 H2 s2 r2=>q v2 H2 (s1.trans s2) (r2.older s1)
     |Or=>
      refine aC (yP aA aA) (hf a a' ha ρ _ _ ea g σ H _ se λv H1 s1 r=>⟨x,r.rd.bl,?_⟩);have:x=false:=by rw[<- hx];rfl
      rw[if_neg (by rw[this];decide)];exact rest ρ k d h g σ H1 Q (se.same s1) λv2 H2 s2 r2=>q v2 H2 (s1.trans s2) (r2.older s1)
    ·rename_i hx;cases h
     cases op with
     |And=>
      refine aC (sP aA aA) (hf a a' ha ρ _ _ ea g σ H _ se λv H1 s1 r=>⟨x,r.rd.bl,?_⟩)
      have:x=false:=by cases x with|true=>exact absurd rfl hx|false=>rfl
      subst this;rw[if_neg (by decide)];exact q _ H1 s1 Cy
     |Or=>
      refine aC (yP aA aA) (hf a a' ha ρ _ _ ea g σ H _ se λv H1 s1 r=>⟨x,r.rd.bl,?_⟩)
      have:x=true:=by cases x with|false=>exact absurd rfl hx|true=>rfl
      subst this;rw[if_pos rfl];exact q _ H1 s1 Cy
   ·cases h
  ·cases h
theorem qo{f:Expr->Option IE}(hf:∀e ie,f e=some ie->SndT X (ba Γ ie) e)(op:BoolOp)(pos:Pos):∀{es:List Expr} {ies:fW},dB f es=some ies->∀ρ r,eT Γ op ies ρ=some r->∀g σ H Q,SE X.K g ρ σ H->(∀H',Same H H'->Q r H')->wW X (.BoolOp op es pos) σ H Q
 |[],ies,h,ρ,r,hr,g,σ,H,Q,se,q=>by cases h;unfold eT at hr;cases hr
 |[a],ies,h,ρ,r,hb,g,σ,H,Q,se,q=>by
  unfold dB dB at h;split at h
  ·rename_i a' r' ha hr;cases h;cases hr;unfold eT at hb;have h1:=hf a a' ha ρ r hb g σ H Q se q
   cases op with
   |And=>exact k8 (wg gx) h1
   |Or=>exact k8 (zO gx) h1
  ·cases h
 |a::b::es,ies,h,ρ,r,hb,g,σ,H,Q,se,q=>by
  unfold dB at h;split at h
  ·rename_i a' r0 ha hr;cases h;have rest:=qo hf op pos hr ρ r
   have hr2:∃b' r',r0=.cons b' r':=by
    unfold dB at hr;split at hr
    ·cases hr;exact⟨_,_,rfl⟩
    ·cases hr
   obtain⟨b',r',rfl⟩:=hr2;unfold eT at hb;dsimp only at hb;split at hb
   ·rename_i x ea;split at hb
    ·rename_i hx
     cases op with
     |And=>
      refine k8 (sO gx wS) (hf a a' ha ρ x ea g σ H _ se λH1 s1=>?_);have:x=true:=by rw[<- hx];rfl
      rw[if_pos this];exact rest hb g σ H1 Q (se.same s1) λH2 s2=>q H2 (s1.trans s2)
     |Or=>
      refine k8 (yO gx wS) (hf a a' ha ρ x ea g σ H _ se λH1 s1=>?_);have:x=false:=by rw[<- hx];rfl
      rw[if_neg (by rw[this];decide)];exact rest hb g σ H1 Q (se.same s1) λH2 s2=>q H2 (s1.trans s2)
    ·rename_i hx;cases hb
     cases op with
     |And=>
      refine k8 (sO gx wS) (hf a a' ha ρ r ea g σ H _ se λH1 s1=>?_)
      have:r=false:=by cases r with|true=>exact absurd rfl hx|false=>rfl
      subst this;rw[if_neg (by decide)];exact q H1 s1
     |Or=>
      refine k8 (yO gx wS) (hf a a' ha ρ r ea g σ H _ se λH1 s1=>?_)
      have:r=true:=by cases r with|false=>exact absurd rfl hx|true=>rfl
      subst this;rw[if_pos rfl];exact q H1 s1
   ·cases hb
  ·cases h
theorem xz(O:aB X (cg fns Γ fm) c){f:Expr->Option IE}(hf:∀e ie,f e=some ie->SndE X (af Γ ie) e){x:Str}{a:Expr}{es:List Expr}{p pos:Pos}{ie:IE}(h:uu fns c f x (a::es)=some ie):SndE X (af Γ ie) (.Call (.Name x p) (a::es) [] pos):=by
 unfold uu at h;split at h
 ·rename_i hg;rw[Ke,Lq,Ke] at hg;split at h
  ·rename_i ies ha;have hA:=(fC Γ hf ha).1;split at h
   ·rename_i i hi;split at h
    ·cases h
    cases h
    have e:af Γ (.fn i ies)=λρ=>wa ((cg fns Γ fm).fn x) (aR Γ ies ρ):=by
     funext ρ;show wa (Γ i) (aR Γ ies ρ)=_;unfold cg;dsimp only;rw[hi];rfl
    rw[e];exact He O hA hg.1 hg.2.1 hg.2.2
   ·cases h
    first|(exact df λ_=>rfl)|(have e:af Γ (.blt x ies)=λρ=>oJ x (aR Γ ies ρ):=(by exact funext λ_=>rfl);rw[e];exact DT O hA hg.1 hg.2.1 hg.2.2)
  ·cases h
 ·cases h
theorem uF(O:aB X (cg fns Γ fm) c){f:Expr->Option IE}(hf:∀e ie,f e=some ie->SndE X (af Γ ie) e){tg iter:Expr}{it:II}(h:A5 c f tg iter=some it):SndI X (dU Γ it) tg iter:=by
 have one:∀{it:II},(f iter).map .e=some it->SndI X (dU Γ it) tg iter:=λh=>by
  obtain⟨a,ha,rfl⟩:=aS h
  first|(exact offI λ_=>rfl)|(have e:dU Γ (.e a)=λρ=>l8 (af Γ a ρ):=(by exact funext λ_=>rfl);rw[e];exact DW (hf _ _ ha))
 unfold A5 at h;split at h
 ·rename_i x p a pos;split at h
  ·rename_i hx;subst hx;split at h
   ·rename_i hg;rw[Ke] at hg;obtain⟨a',ha,rfl⟩:=aS h
    first|(exact offI λ_=>rfl)|(have e:dU Γ (.rng (.lit (.int 0)) a')=λρ=>gH (some (.sh,.int 0)) (af Γ a' ρ):=(by exact funext λ_=>rfl);rw[e];exact AW O hg.1 hg.2 (hf _ _ ha))
   ·cases h
  ·split at h
   ·rename_i hx;subst hx;split at h
    ·rename_i hg;simp only[Ke] at hg;obtain⟨a',ha,rfl⟩:=aS h
     first|(exact offI λ_=>rfl)|(have e:dU Γ (.enm a')=λρ=>m9 (af Γ a' ρ):=(by exact funext λ_=>rfl);rw[e];exact DX O hg.1.1 hg.1.2 hg.2 (hf _ _ ha))
    ·cases h
   ·exact one h
 ·rename_i x p a b pos;split at h
  ·rename_i hx;subst hx;split at h
   ·rename_i hg;simp only[Ke] at hg;split at h
    ·rename_i a' b' ha hb;cases h
     first|(exact offI λ_=>rfl)|(have e:dU Γ (.rng a' b')=λρ=>gH (af Γ a' ρ) (af Γ b' ρ):=(by exact funext λ_=>rfl);rw[e];exact AX O hg.1.1 hg.1.2 hg.2 (hf _ _ ha) (hf _ _ hb))
    ·cases h
   ·cases h
  ·split at h
   ·rename_i hx;subst hx;split at h
    ·rename_i hg;simp only[Ke] at hg;split at h
     ·rename_i a' b' ha hb;cases h
      first|(exact offI λ_=>rfl)|(have e:dU Γ (.zp a' b')=λρ=>nc (af Γ a' ρ) (af Γ b' ρ):=(by exact funext λ_=>rfl);rw[e];exact DY O hg.1.1.1 hg.1.1.2 hg.1.2 hg.2 (hf _ _ ha) (hf _ _ hb))
     ·cases h
    ·cases h
   ·exact one h
 ·exact one h
theorem uG{k:Nat}(h:uw v=some ie):SndE X (af Γ ie) (.Constant v k pos):=by
 cases v with
 |int i=>cases h;rw[jQ];exact Dx _ _ _
 |bool i=>cases h;rw[jQ];exact GZ _ _ _
 |none=>cases h;rw[jQ];exact Dy _ _
 |str i=>cases h;rw[jQ];exact Dz _ _ _
 |_=>cases h
theorem qp{f:Expr->Option IE}(h:oR f a ops bs=some ie):(∃op b a' b',ops=[op]/\bs=[b]/\behindInMarks op b=false/\f a=some a'/\f b=some b'/\ie=.cmp op a' b')\/(∃op op' b d a' b' d',ops=[op,op']/\bs=[b,d]/\behindInMarks op' d=false/\f a=some a'/\f b=some b'/\f d=some d'/\ie=.chain op op' a' b' d'):=by
 cases ops with
 |nil=>cases h
 |cons op ops=>cases bs with
  |nil=>cases h
  |cons b bs=>cases ops with
   |nil=>cases bs with
    |cons _ _=>cases h
    |nil=>
     dsimp only[oR] at h;split at h
     ·cases h
     ·rename_i hm;split at h
      ·rename_i a' b' ha hb;cases h;exact .inl ⟨op,b,a',b',rfl,rfl,by simpa using hm,ha,hb,rfl⟩
      ·cases h
   |cons op' ops=>cases ops with
    |cons _ _=>cases h
    |nil=>cases bs with
     |nil=>cases h
     |cons d bs=>cases bs with
      |cons _ _=>cases h
      |nil=>
       dsimp only[oR] at h;split at h
       ·cases h
       ·rename_i hm;split at h
        ·rename_i a' b' d' ha hb hd;cases h;exact .inr ⟨op,op',b,d,a',b',d',rfl,rfl,by simpa using hm,ha,hb,hd,rfl⟩
        ·cases h
theorem uH{f:Expr->Option IE}(hf:∀e ie,f e=some ie->SndE X (af Γ ie) e){o:Option Expr}{io:IO}(h:xw f o=some io):rK X (dS Γ io) o:=by
 cases o with
 |none=>
  cases h;have e:dS Γ .non=λ_=>some none:=by funext ρ;rw[dS]
  rw[e];exact AG
 |some e=>
  obtain⟨a,ha,rfl⟩:=aS h;have e:dS Γ (.som a)=λρ=>xb (af Γ a ρ):=by funext ρ;rw[dS]
  rw[e];exact AH (hf _ _ ha)
theorem qr{f:Expr->Option IE}(hf:∀e ie,f e=some ie->SndT X (ba Γ ie) e){o:List Expr}{io:IO}(h:oQ f o=some io):nq X (d5 Γ io) o:=by
 unfold oQ at h;split at h
 ·cases h;have e:d5 Γ .non=λ_=>some true:=by funext ρ;rw[d5]
  rw[e];exact D4
 ·obtain⟨a,ha,rfl⟩:=aS h;have e:d5 Γ (.som a)=ba Γ a:=by funext ρ;rw[d5]
  rw[e];exact D5 (hf _ _ ha)
 ·cases h
theorem uI{f:Expr->Option IE}(hE:∀e ie,f e=some ie->SndE X (af Γ ie) e){ks:List (Option Expr)}{vs:List Expr}{pos:Pos}{ie:IE}(h:xy f ks vs=some ie):SndE X (af Γ ie) (.Dict ks vs pos):=by
 cases ks with
 |nil=>cases h
 |cons k ks=>cases ks with
  |cons k2 ks2=>
   obtain⟨p,hp,rfl⟩:=aS h
   first|(exact df λ_=>rfl)|(rw[show af Γ (.dspN p.1 p.2)=λρ=>oDspN p.1 (aR Γ p.2 ρ) from funext λ_=>rfl];exact s_dspN λρ kds xs e1 e2 e3=>dspN_of Γ hE hp e1 e2 e3)
  |nil=>cases vs with
   |nil=>cases h
   |cons v vs=>cases vs with
    |cons _ _=>cases h
    |nil=>cases k with
     |none=>cases h
     |some k=>cases k with
      |Constant z j p=>
       dsimp only[xy] at h
       cases hz:uw z with
       |none=>rw[hz] at h;cases h
       |some z'=>
        rw[hz] at h
        cases z' with
        |lit d=>
         obtain⟨a',ha,rfl⟩:=aS h;have hk:=uG (X:=X) (k:=j) (pos:=p) Γ hz;rw[jQ] at hk
         first|(exact df λ_=>rfl)|(rw[show af Γ (.dsp d a')=λρ=>oDsp d (af Γ a' ρ) from funext λ_=>rfl];exact s_dsp hk (hE _ _ ha))
        |_=>cases h
      |_=>cases h
theorem A9(O:aB X (cg fns Γ fm) c){f:Expr->Option IE}(hE:∀e ie,f e=some ie->SndE X (af Γ ie) e){a b:Expr}{pos:Pos}{ie:IE}(h:A6 f a b=some ie):SndE X (af Γ ie) (.Subscript a b pos):=by
 unfold A6 at h;split at h
 ·rename_i lo hi st p
  cases st with
  |none=>
   dsimp only at h;split at h
   ·rename_i a' lo' hi' ha hlo hhi;cases h
    first|(exact df λ_=>rfl)|(rw[show af Γ (.sl a' lo' hi')=λρ=>CA (af Γ a' ρ) (dS Γ lo' ρ) (dS Γ hi' ρ) from funext λ_=>rfl];exact G6 (hE _ _ ha) (uH Γ hE hlo) (uH Γ hE hhi))
   ·cases h
  |some st=>cases hi with
   |some _=>cases h
   |none=>
    dsimp only at h;split at h
    ·cases lo with
     |some _=>cases h
     |none=>
      dsimp only at h;split at h
      ·rename_i a' b' ha hb;cases h
       first|(exact df λ_=>rfl)|(rw[show af Γ (.rev a' b')=λρ=>oG (af Γ a' ρ) (af Γ b' ρ) from funext λ_=>rfl];exact DN (hE _ _ ha) (hE _ _ hb))
      ·cases h
    ·split at h
     ·rename_i a' lo' b' ha hlo hb;cases h
      first|(exact df λ_=>rfl)|(rw[show af Γ (.stp a' lo' b')=λρ=>rL (af Γ a' ρ) (dS Γ lo' ρ) (af Γ b' ρ) from funext λ_=>rfl];exact DM (hE _ _ ha) (uH Γ hE hlo) (hE _ _ hb))
     ·cases h
 ·split at h
  ·rename_i hp;split at h
   ·rename_i a' b' ha hb;cases h
    first|(exact df λ_=>rfl)|(rw[show af Γ (.ix a' b')=λρ=>rJ (af Γ a' ρ) (af Γ b' ρ) from funext λ_=>rfl];exact G5 O (hE _ _ ha) (hE _ _ hb) hp)
   ·cases h
  ·cases h
theorem xA(O:aB X (cg fns Γ fm) c){f:Expr->Option IE}(hE:∀e ie,f e=some ie->SndE X (af Γ ie) e){a:Expr}{es:List Expr}{kk:Nat}{p tp pos:Pos}{ie:IE}(h:uA c f a es=some ie):SndE X (af Γ ie) (.Call (.Name "isinstance" p) [a,.Tuple es kk tp] [] pos):=by
 cases es with
 |nil=>cases h
 |cons e es=>cases es with
  |nil=>cases h
  |cons e2 es=>cases es with
   |cons _ _=>cases h
   |nil=>
    dsimp only[uA] at h;split at h
    ·split at h
     ·split at h
      ·rename_i hg;simp only[Ke] at hg;obtain⟨a',ha,rfl⟩:=aS h
       first|(exact df λ_=>rfl)|(rw[show ∀T U,af Γ (.isi2 T U a')=λρ=>oIsi2 T U (af Γ a' ρ) by intro T U;exact funext λ_=>rfl];exact s_isi2 O hg.1.1.1 hg.1.1.2 hg.1.2 hg.2 (hE _ _ ha))
      ·cases h
     ·cases h
    ·cases h
theorem Ba(O:aB X (cg fns Γ fm) c){f:Expr->Option IE}(hE:∀e ie,f e=some ie->SndE X (af Γ ie) e){as:List Expr}{p pos:Pos}{ie:IE}(h:A7 c f as=some ie):SndE X (af Γ ie) (.Call (.Name "isinstance" p) as [] pos):=by
 cases as with
 |nil=>cases h
 |cons a as=>cases as with
  |nil=>cases h
  |cons t as=>cases as with
   |cons _ _=>cases h
   |nil=>
    dsimp only[A7] at h;split at h
    ·split at h
     ·rename_i hg;simp only[Ke] at hg;obtain⟨a',ha,rfl⟩:=aS h
      first|(exact df λ_=>rfl)|(rw[show af Γ (.isi _ a')=λρ=>rQ _ (af Γ a' ρ) from funext λ_=>rfl];exact D2 O hg.1.1 hg.1.2 hg.2 (hE _ _ ha))
     ·cases h
    ·exact xA fns Γ O hE h
    ·cases h
theorem Bb(O:aB X (cg fns Γ fm) c){f:Expr->Option IE}(hE:∀e ie,f e=some ie->SndE X (af Γ ie) e){g:Expr}{as:List Expr}{ks:List Keyword}{pos:Pos}{ie:IE}(h:uB c f g as ks=some ie):SndE X (af Γ ie) (.Call g as ks pos):=by
 cases g with
 |Name x p=>cases as with
  |nil=>cases h
  |cons a as=>cases as with
   |cons _ _=>cases h
   |nil=>cases ks with
    |nil=>cases h
    |cons k ks=>cases ks with
     |cons _ _=>cases h
     |nil=>
      cases k with
      |mk kn kv kp=>
       dsimp only[uB] at h;split at h
       ·rename_i hc;obtain⟨rfl,rfl,h1,h2⟩:=hc;split at h
        ·rename_i a' b' ha hb;cases h
         first|(exact df λ_=>rfl)|(rw[show af Γ (.maxd a' b')=λρ=>oMaxd (af Γ a' ρ) (af Γ b' ρ) from funext λ_=>rfl];exact s_maxd O (ce O h1) h2 (hE _ _ ha) (hE _ _ hb))
        ·cases h
       ·cases h
 |_=>cases h
theorem xB(O:aB X (cg fns Γ fm) c){f:Expr->Option IE}(hE:∀e ie,f e=some ie->SndE X (af Γ ie) e){x:Str}{as:List Expr}{p pos:Pos}{ie:IE}(h:uC c f x as=some ie):SndE X (af Γ ie) (.Call (.Name x p) as [] pos):=by
 cases as with
 |nil=>cases h
 |cons a as=>cases as with
  |cons _ _=>cases h
  |nil=>cases a with
   |Call g bs ks p2=>cases g with
    |Name y p3=>cases bs with
     |nil=>cases h
     |cons b bs=>cases bs with
      |cons _ _=>cases h
      |nil=>cases ks with
       |cons _ _=>cases h
       |nil=>
        dsimp only[uC] at h;split at h
        ·rename_i hc;obtain⟨rfl,rfl,h1,h2,h3⟩:=hc;obtain⟨a',ha,rfl⟩:=aS h
         first|(exact df λ_=>rfl)|(rw[show af Γ (.lrng a')=λρ=>ld (af Γ a' ρ) from funext λ_=>rfl];exact AR O (ce O h1) (ce O h2) h3 (hE _ _ ha))
        ·split at h
         ·rename_i hc;obtain⟨rfl,rfl,h1,h2,h3⟩:=hc;obtain⟨a',ha,rfl⟩:=aS h
          first|(exact df λ_=>rfl)|(rw[show af Γ (.lset a')=λρ=>oLset (af Γ a' ρ) from funext λ_=>rfl];exact s_lset O (ce O h1) (ce O h2) h3 (hE _ _ ha))
         ·cases h
    |_=>cases h
   |_=>cases h
theorem Bc(O:aB X (cg fns Γ fm) c){f:Expr->Option IE}(hE:∀e ie,f e=some ie->SndE X (af Γ ie) e){o:Expr}{m:Str}{ap:Pos}{as:List Expr}{pos:Pos}{ie:IE}(h:D6 f o m ap as pos=some ie):SndE X (af Γ ie) (.Call (.Attribute o m ap) as [] pos):=by cases h
theorem D8(O:aB X (cg fns Γ fm) c){f:Expr->Option IE}(hE:∀e ie,f e=some ie->SndE X (af Γ ie) e){g:Expr}{as:List Expr}{ks:List Keyword}{pos:Pos}{ie:IE}(h:Hg fns c f g as ks pos=some ie):SndE X (af Γ ie) (.Call g as ks pos):=by
 cases ks with
 |cons _ _=>exact Bb fns Γ O hE h
 |nil=>
  dsimp only[Hg] at h;split at h
  ·rename_i x p;split at h
   ·rename_i hx;subst hx;exact Ba fns Γ O hE h
   ·cases as with
    |cons a es=>
     dsimp only at h;split at h
     ·rename_i r hr;cases h;exact xB fns Γ O hE hr
     ·exact xz fns Γ O hE h
    |nil=>
     dsimp only at h;split at h
     ·rename_i hg;split at h
      ·rename_i i hi;split at h
       ·cases h
       ·cases h;rw[show af Γ (.fn i .nil)=λρ=>wa (Γ i) (some []) by exact funext λ_=>rfl];have:=D3 (p:=p) (pos:=pos) O hg;rw[show(cg fns Γ fm).fn x=Γ i from by show(bF x fns.fns).bind Γ=_;rw[hi];rfl] at this;exact this
      ·cases h
     ·cases h
  ·exact Bc fns Γ O hE h
  ·cases h
theorem D9(O:aB X (cg fns Γ fm) c){fE fT:Cz->Expr->Option IE}(ihE:∀X c,aB X (cg fns Γ fm) c->∀e ie,fE c e=some ie->SndE X (af Γ ie) e)(ihT:∀X c,aB X (cg fns Γ fm) c->∀e ie,fT c e=some ie->SndT X (ba Γ ie) e){elt:Expr}{gs:List Comprehension}{scope:Scope}{pos:Pos}{ie:IE}(h:D7 fns c fE fT elt gs scope pos=some ie):SndE X (af Γ ie) (.ListComp elt gs scope pos):=by
 cases gs with
 |nil=>cases h
 |cons g gs=>cases gs with
  |cons _ _=>cases h
  |nil=>
   dsimp only[D7] at h;split at h
   ·rename_i h0;split at h
    ·rename_i hn;rw[Ke] at hn;split at h
     ·rename_i t it ts el ht hit hts hel;cases h;rw[show af Γ (.comp _ (aK c _) t it ts el)=λρ=>lg _ (dU Γ it ρ) (ef t (d5 Γ ts) (af Γ el) (cn ρ (aK c _))) from funext λ_=>rfl];have CO:=fy O hn.2
      cases g with
      |mk tg iter ifs as=>
       subst h0;exact A1 O hn.2 hn.1 (uF fns Γ O (ihE X c O) hit) ht (λC s H ex=>qr Γ (ihT _ _ (CO C s H ex)) hts) (λC s H ex=>ihE _ _ (CO C s H ex) _ _ hel)
     ·cases h
    ·cases h
   ·cases h
end
section
variable (fns:Nms) (Γ:Nat->Option Fn) {fm:Str->Option (Ka->Sp)}
theorem d6:∀n:Nat,(∀X c,aB X (cg fns Γ fm) c->∀e ie,cE fns n c e=some ie->SndE X (af Γ ie) e)/\(∀X c,aB X (cg fns Γ fm) c->∀e ie,cT fns n c e=some ie->SndT X (ba Γ ie) e)
 |0=>⟨λX c O e ie h=>by (cases(show(none:Option IE)=some ie from h)),λX c O e ie h=>by (cases(show(none:Option IE)=some ie from h))⟩
 |n+1=>by
  obtain⟨ihE,ihT⟩:=d6 n;refine⟨λX c O e ie h=>?_,λX c O e ie h=>?_⟩
  ·have hE:=ihE X c O;have hT:=ihT X c O
   cases e with
   |Name x p=>
    dsimp only[cE] at h;split at h
    ·rename_i hg;obtain⟨d,hd,rfl⟩:=aS h;have e:af Γ (.lit d)=λ_=>some (.sh,d):=by exact funext λ_=>rfl
     rw[e];exact DA O hg hd p
    ·split at h
     ·obtain⟨i,hi,rfl⟩:=aS h;have e:af Γ (.var i)=λρ=>oD i ρ[i]?:=by exact funext λ_=>rfl
      rw[e];exact y6 O hi p
     ·cases h
   |Constant v k pos=>exact uG Γ h
   |BinOp a op b pos=>
    dsimp only[cE] at h;split at h
    ·rename_i a' b' ha hb;cases h
     first|(exact df λ_=>rfl)|(rw[show af Γ (.bin _ a' b')=λρ=>t5 _ (af Γ a' ρ) (af Γ b' ρ) from funext λ_=>rfl];exact DB (hE _ _ ha) (hE _ _ hb))
    ·cases h
   |Compare a ops bs pos=>
    rcases qp (show oR (cE fns n c) a ops bs=some ie from h) with⟨op,b,a',b',rfl,rfl,hm,ha,hb,rfl⟩|⟨op,op',b,d,a',b',d',rfl,rfl,hm,ha,hb,hd,rfl⟩
    ·first|(exact df λ_=>rfl)|(rw[show af Γ (.cmp _ a' b')=λρ=>bV (jH _ (af Γ a' ρ) (af Γ b' ρ)) from funext λ_=>rfl];exact DC O hm (hE _ _ ha) (hE _ _ hb))
    ·first|(exact df λ_=>rfl)|(rw[show af Γ (.chain _ _ a' b' d')=λρ=>bV (ed _ _ (af Γ a' ρ) (af Γ b' ρ) (af Γ d' ρ)) from funext λ_=>rfl];exact s_chain O hm (hE _ _ ha) (hE _ _ hb) (hE _ _ hd))
   |UnaryOp op a pos=>cases op with
    |USub=>
     obtain⟨a',ha,rfl⟩:=aS (show(cE fns n c a).map .neg=some ie from h)
     first|(exact df λ_=>rfl)|(rw[show af Γ (.neg a')=λρ=>t6 (af Γ a' ρ) from funext λ_=>rfl];exact DE (hE _ _ ha))
    |Not=>
     obtain⟨a',ha,rfl⟩:=aS (show(cE fns n c a).map .not=some ie from h)
     first|(exact df λ_=>rfl)|(rw[show af Γ (.not a')=λρ=>bV ((kH (af Γ a' ρ)).map (!·)) from funext λ_=>rfl];exact s_not (hE _ _ ha))
    |_=>cases h
   |BoolOp op es pos=>
    obtain⟨a',ha,rfl⟩:=aS (show(dB (cE fns n c) es).map (.bool op)=some ie from h)
    first|(exact df λ_=>rfl)|(rw[show af Γ (.bool _ a')=jO Γ _ a' from funext λ_=>rfl];exact qm Γ hE _ _ ha)
   |IfExp t a b pos=>
    dsimp only[cE] at h;split at h
    ·rename_i t' a' b' ht ha hb;cases h
     first|(exact df λ_=>rfl)|(rw[show af Γ (.ifx t' a' b')=λρ=>DG (ba Γ t' ρ) (af Γ a' ρ) (af Γ b' ρ) from funext λ_=>rfl];exact G0 (hT _ _ ht) (hE _ _ ha) (hE _ _ hb))
    ·cases h
   |List es p=>
    obtain⟨a',ha,rfl⟩:=aS (show(dL (cE fns n c) es).map (.lst (fns.kL p))=some ie from h)
    first|(exact df λ_=>rfl)|(rw[show af Γ (.lst _ a')=λρ=>l7 _ (aR Γ a' ρ) from funext λ_=>rfl];exact DH (fC Γ hE ha).1)
   |Tuple es k p=>
    obtain⟨a',ha,rfl⟩:=aS (show(dL (cE fns n c) es).map (.tup (fns.kT p))=some ie from h)
    first|(exact df λ_=>rfl)|(rw[show af Γ (.tup _ a')=λρ=>gB _ (aR Γ a' ρ) from funext λ_=>rfl];exact DI (fC Γ hE ha).1)
   |Dict ks vs p=>cases ks with
    |cons k ks'=>
     dsimp only[cE] at h;split at h
     ·split at h
      ·exact uI Γ hE h
      obtain⟨k',v',a',b',e1,rfl,ha,hb,rfl⟩:=uE h;cases e1
      first|(exact df λ_=>rfl)|(rw[show ∀m,af Γ (.dspT m a' b')=λρ=>jJ m (af Γ a' ρ) (af Γ b' ρ) by intro m;exact funext λ_=>rfl];exact AS O (hE _ _ ha) (hE _ _ hb))
     ·exact uI Γ hE h
    |nil=>cases vs with
     |cons _ _=>cases h
     |nil=>
      have dn:∀t r,SndE X (af Γ (.dnew t r)) (.Dict [] [] p):=λt r=>by
       first|(exact df λ_=>rfl)|(rw[show af Γ (.dnew t r)=λ_=>qj t r from funext λ_=>rfl];exact A8)
      dsimp only[cE] at h;cases h
      split<;>exact dn _ _
   |Subscript a b pos=>exact A9 fns Γ O hE h
   |Attribute a f pos=>
    dsimp only[cE] at h;split at h
    ·rename_i hb;obtain⟨a',ha,rfl⟩:=aS h
     first|(exact df λ_=>rfl)|(rw[show af Γ (.fld f a')=λρ=>G4 f (af Γ a' ρ) from funext λ_=>rfl];exact s_fld (gC hb) (hE _ _ ha))
    ·cases h
   |Call g as ks pos=>exact D8 fns Γ O hE h
   |ListComp elt gs scope pos=>exact D9 fns Γ O ihE ihT h
   |_=>cases h
  ·have hE:=ihE X c O;have hT:=ihT X c O
   cases e with
   |Compare a ops bs pos=>
    rcases qp (show oR (cE fns n c) a ops bs=some ie from h) with⟨op,b,a',b',rfl,rfl,hm,ha,hb,rfl⟩|⟨op,op',b,d,a',b',d',rfl,rfl,hm,ha,hb,hd,rfl⟩
    ·first|(exact offT λ_=>rfl)|(rw[show ba Γ (.cmp _ a' b')=λρ=>jH _ (af Γ a' ρ) (af Γ b' ρ) from funext λ_=>rfl];exact DD O hm (hE _ _ ha) (hE _ _ hb))
    ·first|(exact offT λ_=>rfl)|(rw[show ba Γ (.chain _ _ a' b' d')=λρ=>ed _ _ (af Γ a' ρ) (af Γ b' ρ) (af Γ d' ρ) from funext λ_=>rfl];exact w8 O hm (hE _ _ ha) (hE _ _ hb) (hE _ _ hd))
   |UnaryOp op a pos=>cases op with
    |Not=>
     obtain⟨a',ha,rfl⟩:=aS (show(cT fns n c a).map .not=some ie from h)
     first|(exact offT λ_=>rfl)|(rw[show ba Γ (.not a')=λρ=>(ba Γ a' ρ).map (!·) from funext λ_=>rfl];exact DF (hT _ _ ha))
    |_=>cases h
   |BoolOp op es pos=>
    obtain⟨a',ha,rfl⟩:=aS (show(dB (cT fns n c) es).map (.bool op)=some ie from h)
    first|(exact offT λ_=>rfl)|(rw[show ba Γ (.bool _ a')=eT Γ _ a' from funext λ_=>rfl];exact λρ b h g σ H Q se q=>λpins s I=>qo Γ hT _ _ ha ρ b h g σ H Q se q _ pins s I)
   |Name x p=>
    obtain⟨h1,h2⟩:=jR (show iP (cE fns n c _)=some ie from h);rw[ja h2];exact t7 (hE _ _ h1) (λ_=>rfl)
   |Call g as ks p=>
    obtain⟨h1,h2⟩:=jR (show iP (cE fns n c _)=some ie from h);rw[ja h2];exact t7 (hE _ _ h1) (λ_=>rfl)
   |Subscript a b p=>
    obtain⟨h1,h2⟩:=jR (show iP (cE fns n c _)=some ie from h);rw[ja h2];exact t7 (hE _ _ h1) (λ_=>rfl)
   |_=>cases h
end
end J
namespace J
open PySem PySem.Spec L2
structure Evo(g:Gh)(H:Hp)(g':Gh)(H':Hp)(F:Pr):Prop where
 keep:∀b o,(∀i,g b≠some (some i))->H b=some o->H' b=some o
 out:∀b,g b=some none↔g' b=some none
 new:∀b i,g' b=some (some i)->(∃j,g b=some (some j))\/H b=none
 tmp:∀b,F b->g' b=none/\((∃j,g b=some (some j))\/H b=none)
 dom:∀b o,H b=some o->∃o',H' b=some o'
section
variable {K:Ka} {H H' H1 H2:Hp} {g g' g1 g2:Gh} {F F1 F2:Pr}
theorem Evo.refl(g:Gh)(H:Hp):Evo g H g H (λ_=>False):=⟨λ_ _ _ e=>e,λ_=>Iff.rfl,λb i e=>.inl ⟨i,e⟩,λ_ z=>z.elim,λ_ o e=>⟨o,e⟩⟩
theorem Evo.froz(e:Evo g H g' H' F){b:Addr}{o:HO}(h:H b=some o)(n:g b=none):g' b=none/\¬F b:=by
 refine⟨?_,λz=>?_⟩
 ·cases q:g' b with
  |none=>rfl
  |some x=>
   cases x with
   |none=>have:=(e.out b).mpr q;rw[n] at this;cases this
   |some i=>
    rcases e.new b i q with⟨j,q⟩|q
    ·rw[n] at q;cases q
    ·rw[h] at q;cases q
 ·rcases(e.tmp b z).2 with⟨j,q⟩|q
  ·rw[n] at q;cases q
  ·rw[h] at q;cases q
open Classical in
noncomputable def Gh.minus(g:Gh)(F:Pr):Gh:=λb=>if F b then none else g b
theorem gK(h:F b):g.minus F b=none:=by unfold Gh.minus;rw[if_pos h]
theorem bJ(h:¬F b):g.minus F b=g b:=by unfold Gh.minus;rw[if_neg h]
theorem jS(h:g.minus F b=some x):g b=some x/\¬F b:=by
 unfold Gh.minus at h;split at h
 ·cases h
 ·rename_i n;exact⟨h,n⟩
theorem cb(h:¬F b):g.plus F b=g b:=by unfold Gh.plus;rw[if_neg h]
theorem Evo.trans(a:Evo g H g1 H1 F1)(b:Evo (g1.plus F1) H1 g2 H2 F2):Evo g H (g2.minus F1) H2 (λb=>F1 b\/F2 b):=by
 have of2:∀c,¬F1 c->∀j,(g1.plus F1) c=some (some j)->(∃k,g c=some (some k))\/H c=none:=λc n j e=>by
  rw[cb n] at e;exact a.new c j e
 have h1:∀c,H1 c=none->H c=none:=λc q=>by
  cases e:H c with
  |none=>rfl
  |some o=>obtain⟨o',q'⟩:=a.dom c o e;rw[q] at q';cases q'
 refine⟨λc o n e=>?_,λc=>⟨λq=>?_,λq=>?_⟩,λc i q=>?_,λc z=>?_,λc o e=>?_⟩
 ·refine b.keep c o (λi q=>?_) (a.keep c o n e);have nf:=bM q;rcases a.new c i nf with⟨j,q⟩|q
  ·exact n j q
  ·rw[e] at q;cases q
 ·have nF:¬F1 c:=λz=>by
   have:=(a.tmp c z).1;rw[(a.out c).mp q] at this;cases this
  rw[bJ nF];exact(b.out c).mp (by rw[cb nF];exact(a.out c).mp q)
 ·obtain⟨q1,nF⟩:=jS q;have:=(b.out c).mpr q1;rw[cb nF] at this;exact(a.out c).mpr this
 ·obtain⟨q1,nF⟩:=jS q;rcases b.new c i q1 with⟨j,q⟩|q
  ·exact of2 c nF j q
  ·exact .inr (h1 c q)
 ·rcases z with z|z
  ·exact⟨gK z,(a.tmp c z).2⟩
  ·obtain⟨t1,t2⟩:=b.tmp c z;by_cases zF:F1 c
   ·exact⟨gK zF,(a.tmp c zF).2⟩
   ·refine⟨by rw[bJ zF];exact t1,?_⟩;rcases t2 with⟨j,q⟩|q
    ·exact of2 c zF j q
    ·exact .inr (h1 c q)
 ·obtain⟨o1,e1⟩:=a.dom c o e;exact b.dom c o1 e1
theorem VR1.evo(hb:bW kd=false)(b:Evo (g1.plus F1) H1 g2 H2 F2)(h:VR1 K H1 g1 F1 kd d v F1):VR1 K H2 (g2.minus F1) (λc=>F1 c\/F2 c) kd d v F1:=by
 have k1:∀c o,(¬Sx g1 F1 c\/F1 c)->H1 c=some o->H2 c=some o:=λc o n e=>by
  refine b.keep c o (λi q=>?_) e;rcases n with n|n
  ·exact n (.inl (by rw[bM q];simp))
  ·rw[a6 n] at q;cases q
 have k2:∀c o,H1 c=some o->¬Sx g1 F1 c->¬Sx (g2.minus F1) (λc=>F1 c\/F2 c) c:=λc o e n z=>by
  have nF:¬F1 c:=λz=>n (.inr z)
  have gn:(g1.plus F1) c=none:=by
   rw[cb nF]
   cases q:g1 c with
   |none=>rfl
   |some x=>exact absurd (.inl (by rw[q];simp)) n
  obtain⟨f1,f2⟩:=b.froz e gn;rcases z with z|z|z
  ·rw[bJ nF] at z;exact z f1
  ·exact nF z
  ·exact f2 z
 cases kd with
 |sh=>exact⟨h.1,h.2.go λc o n e=>⟨k1 c o (.inl n) e,k2 c o e n⟩⟩
 |fr k=>exact Tr.go k1 k2 h
 |bo i k=>cases hb
theorem Be(b:Evo (g1.plus F1) H1 g2 H2 F2)(c:Addr):Sx (g2.minus F1) (λc=>F1 c\/F2 c) c↔Sx g2 F2 c:=by
 by_cases h:F1 c
 ·have:g2 c=some none:=(b.out c).mp (a6 h);exact⟨λ_=>.inl (by rw[this];simp),λ_=>.inr (.inl h)⟩
 ·refine⟨λz=>z.elim (λz=>.inl (by rw[bJ h] at z;exact z)) λz=>z.elim (λz=>absurd z h) .inr,λz=>z.elim (λz=>.inl (by rw[bJ h];exact z)) λz=>.inr (.inr z)⟩
theorem gM(b:Evo (g1.plus F1) H1 g2 H2 F2):(g2.minus F1).plus (λc=>F1 c\/F2 c)=g2.plus F2:=by
 funext c;by_cases h2:F2 c
 ·rw[a6 h2,a6 (.inr h2)]
 ·by_cases h:F1 c
  ·rw[a6 (.inl h),cb h2];exact((b.out c).mp (a6 h)).symm
  ·rw[cb h2,cb (λz=>z.elim h h2),bJ h]
theorem VR1.evoR(b:Evo (g1.plus F1) H1 g2 H2 F2)(h:VR1 K H2 g2 F2 kd d v F):VR1 K H2 (g2.minus F1) (λc=>F1 c\/F2 c) kd d v F:=by
 have k2:∀c o,H2 c=some o->¬Sx g2 F2 c->¬Sx (g2.minus F1) (λc=>F1 c\/F2 c) c:=λc o _ n z=>n ((Be b c).mp z)
 cases kd with
 |sh=>exact⟨h.1,h.2.go λc o n e=>⟨e,k2 c o e n⟩⟩
 |fr k=>exact Tr.go (λ_ _ _ e=>e) k2 h
 |bo i k=>
  obtain⟨h1,F0,h2,h3⟩:=h;refine⟨h1,F0,λc z=>?_,Tr.go (λ_ _ _ e=>e) k2 h3⟩;rw[bJ (λz1=>?_)]
  ·exact h2 c z
  ·have:=h2 c z;rw[(b.out c).mp (a6 z1)] at this;cases this
theorem VRL.evoR(b:Evo (g1.plus F1) H1 g2 H2 F2):∀{kds:List KD} {vs:List V} {F:Pr},VRL K H2 g2 F2 kds vs F->VRL K H2 (g2.minus F1) (λc=>F1 c\/F2 c) kds vs F
 |[],_,_,h=>h
 |(kd,d)::r,_,_,h=>by
  obtain⟨y,ys,G1,G2,e,hF,dj,h1,h2⟩:=h;exact⟨y,ys,G1,G2,e,hF,dj,h1.evoR b,VRL.evoR b h2⟩
theorem nu(hb:bW kd=false)(a:Evo g H g1 H1 F1)(r1:VR1 K H1 g1 F1 kd d v F1)(b:Evo (g1.plus F1) H1 g2 H2 F2)(se:SE K (g2.plus F2) ρ2 σ H2)(r2:VRL K H2 g2 F2 kds vs F2) :
  Evo g H (g2.minus F1) H2 (λc=>F1 c\/F2 c)/\SE K ((g2.minus F1).plus (λc=>F1 c\/F2 c)) ρ2 σ H2/\VRL K H2 (g2.minus F1) (λc=>F1 c\/F2 c) ((kd,d)::kds) (v::vs) (λc=>F1 c\/F2 c):=by
 refine⟨a.trans b,by rw[gM b];exact se,v,vs,F1,F2,rfl,λc=>Iff.rfl,λc z1 z2=>?_,r1.evo hb b,r2.evoR b⟩;have:=(b.out c).mp (a6 z1);rw[(b.tmp c z2).1] at this;cases this
end
noncomputable abbrev MR:=Option (Kd×D×Ro)
noncomputable def bt(X:Cx)(f:Ro->MR)(e:Expr):Prop:=∀ρ kd d ρ',f ρ=some (kd,d,ρ')->∀g σ H Q,SE X.K g ρ σ H->
 (∀v g' H' F,Evo g H g' H' F->SE X.K (g'.plus F) ρ' σ H'->VR1 X.K H' g' F kd d v F->Q v H')->wE X e σ H Q
noncomputable def nv(X:Cx)(f:Ro->Option (List KD×Ro))(es:List Expr):Prop:=∀ρ kds ρ',f ρ=some (kds,ρ')->∀g σ H Q,SE X.K g ρ σ H->
 (∀vs g' H' F,Evo g H g' H' F->SE X.K (g'.plus F) ρ' σ H'->VRL X.K H' g' F kds vs F->Q vs H')->wA X es σ H Q
noncomputable def fK(X:Cx)(f:Ro->Option (Bool×Ro))(e:Expr):Prop:=∀ρ b ρ',f ρ=some (b,ρ')->∀g σ H Q,SE X.K g ρ σ H->
 (∀g' H',Evo g H g' H' (λ_=>False)->SE X.K g' ρ' σ H'->Q b H')->wT X e σ H Q
section
variable {X:Cx}
theorem cK{g:Gh}{H H':Hp}{F:Pr}(s:Same H H')(hF:∀b,F b->H b=none)(hg:∀b,F b->g b=none):Evo g H g H' F:=
 ⟨λb o _ e=>s b o e,λ_=>Iff.rfl,λb i e=>.inl ⟨i,e⟩,λb z=>⟨hg b z,.inr (hF b z)⟩,λb o e=>⟨o,s b o e⟩⟩
theorem eA{g:Gh}{H:Hp}(m:MuOk H (Sg g)){b:Addr}(h:H b=none):g b=none:=by
 cases e:g b with
 |none=>rfl
 |some x=>obtain⟨o,q,_⟩:=m b (by rw[Sg,e];simp);rw[h] at q;cases q
theorem SndE.m{f:Ro->Option KD}(h:SndE X f e):bt X (λρ=>(f ρ).map λp=>(p.1,p.2,ρ)) e:=by
 intro ρ kd d ρ' hr g σ H Q se q;dsimp only at hr
 cases hf:f ρ with
 |none=>rw[hf] at hr;cases hr
 |some p=>
  rw[hf] at hr;cases hr;refine h ρ p.1 p.2 hf g σ H Q se λv H' s ⟨F,h1,h2⟩=>?_;exact q v g H' F (cK s h1 λb z=>eA se.mu (h1 b z)) (se.plus s h1 h2.dom) h2
theorem SndT.m{f:Ro->Option Bool}(h:SndT X f e):fK X (λρ=>(f ρ).map λp=>(p,ρ)) e:=by
 intro ρ b ρ' hr g σ H Q se q;dsimp only at hr
 cases hf:f ρ with
 |none=>rw[hf] at hr;cases hr
 |some p=>
  rw[hf] at hr;cases hr;exact h ρ b hf g σ H Q se λH' s=>q g H' (cK s (λ_ z=>z.elim) λ_ z=>z.elim) (se.same s)
noncomputable def dC(kd:Kd)(d:D):Kd:=match kd with
 |.bo i k=>if oB d=true then .sh else .bo i k
 |k=>k
theorem VR1.im{g:Gh}(m:MuOk H (Sg (g.plus F)))(h:VR1 K H g F kd d v F):VR1 K H g F (dC kd d) d v F:=by
 cases kd with
 |sh=>exact h
 |fr k=>exact h
 |bo i k=>
  unfold dC;dsimp only;split
  ·rename_i hi;refine⟨h.1,h.rd.im (λb z=>m b ((ar b).mpr z)) hi⟩
  ·exact h
noncomputable def fX(a:MR)(r:Ro->Option (List KD×Ro)):Option (List KD×Ro):=match a with
 |some (kd,d,ρ1)=>if bW (dC kd d)=true then none else(match r ρ1 with|some (kds,ρ2)=>some ((dC kd d,d)::kds,ρ2)|none=>none)
 |none=>none
theorem xC{fa:Ro->MR}(hn:ai e=true)(ha:bt X fa e)(hr:nv X fr es):nv X (λρ=>fX (fa ρ) fr) (e::es):=by
 intro ρ kds ρ' h g σ H Q se q;dsimp only[fX] at h;split at h
 ·rename_i kd d ρ1 e1;split at h
  ·cases h
  ·rename_i hb;split at h
   ·rename_i kds' ρ2 e2;cases h;refine jC (bp aA dc (ak hn)) (ha ρ kd d ρ1 e1 g σ H _ se λv g1 H1 F1 ev1 se1 r1=>hr ρ1 kds' ρ' e2 (g1.plus F1) σ H1 _ se1 λvs g2 H2 F2 ev2 se2 r2=>?_);obtain⟨c1,c2,c3⟩:=nu (by simpa using hb) ev1 (r1.im se1.mu) ev2 se2 r2;exact q (v::vs) _ H2 _ c1 c2 c3
   ·cases h
 ·cases h
noncomputable def fL(a:MR)(r:Ro->Option (List KD)):Option (List KD×Ro):=match a with
 |some (kd,d,ρ1)=>(match r ρ1 with|some kds=>some ((kd,d)::kds,ρ1)|none=>none)
 |none=>none
theorem qt{g g1:Gh}(a:Evo g H g1 H1 F1)(se:SE K (g1.plus F1) ρ1 σ H1)(r1:VR1 K H1 g1 F1 kd d v F1)(s:Same H1 H2)(r2:VRs K (g1.plus F1) H1 H2 kds vs) :
  ∃F,Evo g H g1 H2 F/\SE K (g1.plus F) ρ1 σ H2/\VRL K H2 g1 F ((kd,d)::kds) (v::vs) F:=by
 obtain⟨F2,b1,b2⟩:=r2
 have hd:∀c,F2 c->g1 c=none/\¬F1 c:=λc z=>by
  have:=eA se.mu (b1 c z);by_cases h:F1 c
  ·rw[a6 h] at this;cases this
  ·rw[cb h] at this;exact⟨this,h⟩
 have h1:∀c,H1 c=none->H c=none:=λc q=>by
  cases e:H c with
  |none=>rfl
  |some o=>obtain⟨o',q'⟩:=a.dom c o e;rw[q] at q';cases q'
 refine⟨λc=>F1 c\/F2 c,⟨λc o n e=>s c o (a.keep c o n e),a.out,a.new,λc z=>z.elim (a.tmp c) λz=>⟨(hd c z).1,.inr (h1 c (b1 c z))⟩,λc o e=>let ⟨o',q⟩:=a.dom c o e;⟨o',s c o' q⟩⟩,?_,v,vs,F1,F2,rfl,λc=>Iff.rfl,λc z1 z2=>(hd c z2).2 z1,?_,b2.unplus⟩
 ·rw[<- iq];exact se.plus s b1 b2.dom
 ·exact r1.go s λc o e z=>z.elim id λz=>by rw[b1 c z] at e;cases e
theorem Bf{fa:Ro->MR}(hn:ai e=true)(ha:bt X fa e)(hr:iY X fr es):nv X (λρ=>fL (fa ρ) fr) (e::es):=by
 intro ρ kds ρ' h g σ H Q se q;dsimp only[fL] at h;split at h
 ·rename_i kd d ρ1 e1;split at h
  ·rename_i kds' e2;cases h;refine jC (bp aA dc (ak hn)) (ha ρ kd d ρ' e1 g σ H _ se λv g1 H1 F1 ev1 se1 r1=>hr ρ' kds' e2 (g1.plus F1) σ H1 _ se1 λvs H2 s2 r2=>?_);obtain⟨F,c1,c2,c3⟩:=qt ev1 se1 r1 s2 r2;exact q (v::vs) g1 H2 F c1 c2 c3
  ·cases h
 ·cases h
open Classical in
noncomputable def kM(H:Hp)(F:Pr):Hp:=λb=>if F b then none else H b
theorem nw:Same (kM H F) H:=λb o e=>by
 unfold kM at e;split at e
 ·cases e
 ·exact e
theorem uJ{g:Gh}{F:Pr}(se:SE K (g.plus F) ρ σ H)(hg:∀b,F b->g b=none):MuOk (kM H F) (Sg g):=λb z=>by
 have nF:¬F b:=λz2=>z (hg b z2);obtain⟨o,e,n⟩:=se.mu b ((ar b).mpr (.inl z));exact⟨o,by unfold kM;rw[if_neg nF];exact e,n⟩
theorem oT{g g1:Gh}{H H1 H2:Hp}{F F2:Pr}(a:Evo g H g1 H1 F)(se:SE K (g1.plus F) ρ1 σ H1)(s:Same H1 H2)(h1:∀b,F2 b->kM H1 F b=none)(dm:∀b,F2 b->∃o,H2 b=some o/\∀xs,o≠.tup xs):Evo g H g1 H2 F2/\SE K (g1.plus F2) ρ1 σ H2:=by
 have hF:∀b,F2 b->F b\/H1 b=none:=λb z=>by
  have:=h1 b z;unfold kM at this;split at this
  ·rename_i q;exact .inl q
  ·exact .inr this
 have hn:∀c,H1 c=none->H c=none:=λc q=>by
  cases e:H c with
  |none=>rfl
  |some o=>obtain⟨o',q'⟩:=a.dom c o e;rw[q] at q';cases q'
 have hg2:∀b,F2 b->g1 b=none:=λb z=>by
  rcases hF b z with q|q
  ·exact(a.tmp b q).1
  ·have:=eA se.mu q;by_cases h:F b
   ·rw[a6 h] at this;cases this
   ·rw[cb h] at this;exact this
 refine⟨⟨λc o n e=>s c o (a.keep c o n e),a.out,a.new,λc z=>⟨hg2 c z,(hF c z).elim (λq=>(a.tmp c q).2) λq=>.inr (hn c q)⟩,λc o e=>let ⟨o',q⟩:=a.dom c o e;⟨o',s c o' q⟩⟩,?_⟩;refine⟨λi sl e=>?_,λb z=>?_,se.len⟩
 ·obtain⟨v,F0,e1,e2,e3⟩:=se.slot i sl e;refine⟨v,F0,e1,λb z=>?_,e3.go (λb o _ e=>s b o e) λb o e n z=>?_⟩
  ·have:=bM (e2 b z);exact ca this λz2=>by rw[hg2 b z2] at this;cases this
  ·rcases(ar b).mp z with z|z
   ·exact n ((ar b).mpr (.inl z))
   ·rcases hF b z with q|q
    ·exact n ((ar b).mpr (.inr q))
    ·rw[q] at e;cases e
 ·rcases(ar b).mp z with z|z
  ·obtain⟨o,e,n⟩:=se.mu b ((ar b).mpr (.inl z));exact⟨o,s b o e,n⟩
  ·exact dm b z
theorem VRL.off(h:VRL K H g F kds vs F):VRs K g (kM H F) H kds vs:=⟨F,λb z=>by unfold kM;rw[if_pos z],h⟩
theorem StrictOk.m{f:List KD->Option KD}{fa:Ro->Option (List KD×Ro)}(h:StrictOk X f es node)(ha:nv X fa es):bt X (λρ=>(fa ρ).bind λp=>(f p.1).map λq=>(q.1,q.2,p.2)) node:=by
 intro ρ kd d ρ' hd g σ H Q se q;dsimp only at hd
 cases e:fa ρ with
 |none=>rw[e] at hd;cases hd
 |some p=>
  obtain⟨kds,ρ1⟩:=p;rw[e] at hd;dsimp only[K2] at hd
  cases e2:f kds with
  |none=>rw[e2] at hd;cases hd
  |some r=>
   rw[e2] at hd;cases hd;refine h kds r.1 r.2 e2 σ H Q (ha ρ kds _ e g σ H _ se λvs g1 H1 F ev se1 r1=>⟨g1,kM H1 F,uJ se1 λb z=>(ev.tmp b z).1,nw,r1.off,λv H2 s2 r2=>?_⟩);obtain⟨F2,b1,b2⟩:=r2;obtain⟨c1,c2⟩:=oT ev se1 s2 b1 b2.dom;exact q v g1 H2 F2 c1 c2 b2
end
end J
namespace J
open PySem PySem.Spec L2
noncomputable abbrev jb:=Ow×D
noncomputable abbrev Fm:=List jb->Option (Kd×D×List (Option jb))
noncomputable def CD(p:jb):Option Sl:=some ⟨false,p.1,p.2⟩
noncomputable def CF(p:Option jb):Option Sl:=p.map λp=>⟨false,p.1,p.2⟩
noncomputable def zb(K:Ka)(φ:Fm):Sp:=λvs H Q _=>∃ks g kd d outs,SE K g (ks.map CD) (vs.map some) H/\φ ks=some (kd,d,outs)/\
 ∀v g' H' F,Evo g H g' H' F->SE K (g'.plus F) (outs.map CF) (vs.map some) H'->VR1 K H' g' F kd d v F->Q v H'
set_option genInjectivity true in
inductive RA where
 |ref (i:Nat)|val (kd:Kd) (d:D)
noncomputable def VRA(K:Ka)(H:Hp)(g:Gh)(Ft:Pr)(σ:L2.St):List RA->List V->Pr->Prop
 |[],vs,F=>vs=[]/\∀b,¬F b
 |.ref i::r,vs,F=>∃y ys,vs=y::ys/\σ[i]?=some (some y)/\VRA K H g Ft σ r ys F
 |.val kd d::r,vs,F=>∃y ys F1 F2,vs=y::ys/\(∀b,F b↔F1 b\/F2 b)/\(∀b,F1 b->¬F2 b)/\VR1 K H g Ft kd d y F1/\VRA K H g Ft σ r ys F2
noncomputable def iQ(X:Cx)(f:Ro->Option (List RA×Ro))(es:List Expr):Prop:=∀ρ ras ρ',f ρ=some (ras,ρ')->∀g σ H Q,SE X.K g ρ σ H->
 (∀vs g' H' F,Evo g H g' H' F->SE X.K (g'.plus F) ρ' σ H'->VRA X.K H' g' F σ ras vs F->Q vs H')->wA X es σ H Q
section
variable {K:Ka} {H H1 H2:Hp} {g g1 g2:Gh} {F1 F2:Pr} {σ:L2.St}
theorem VRA.evoR(b:Evo (g1.plus F1) H1 g2 H2 F2):∀{ras:List RA} {vs:List V} {F:Pr},VRA K H2 g2 F2 σ ras vs F->VRA K H2 (g2.minus F1) (λc=>F1 c\/F2 c) σ ras vs F
 |[],_,_,h=>h
 |.ref i::r,_,_,h=>by
  obtain⟨y,ys,e,e2,h2⟩:=h;exact⟨y,ys,e,e2,VRA.evoR b h2⟩
 |.val kd d::r,_,_,h=>by
  obtain⟨y,ys,G1,G2,e,hF,dj,h1,h2⟩:=h;exact⟨y,ys,G1,G2,e,hF,dj,h1.evoR b,VRA.evoR b h2⟩
theorem aW{g:Gh}{F:Pr}(h:∀b,¬F b):g.plus F=g:=by
 funext b;exact cb (h b)
end
section
variable {X:Cx}
theorem Ea:iQ X (λρ=>some ([],ρ)) []:=by
 intro ρ ras ρ' h g σ H Q se q;cases h;refine jC cV (q [] g H (λ_=>False) (.refl g H) ?_ ⟨rfl,λ_ z=>z⟩);rw[aW λ_ z=>z];exact se
noncomputable def qu(i:Nat)(o:Option (Option Sl))(r:Option (List RA×Ro)):Option (List RA×Ro):=match o,r with
 |some (some _),some (ras,ρ')=>some (.ref i::ras,ρ')
 |_,_=>none
theorem Eb(O:aB X Γ c){x:Str}{i:Nat}{p:Pos}{es:List Expr}{fr:Ro->Option (List RA×Ro)}(hc:d3 c x=some i)(hr:iQ X fr es):iQ X (λρ=>qu i ρ[i]? (fr ρ)) (.Name x p::es):=by
 intro ρ ras ρ' h g σ H Q se q;dsimp only[qu] at h;split at h
 ·rename_i sl ras' ρ2 e1 e2;cases h;have hv:SndE X (λρ=>oD i ρ[i]?) (.Name x p):=y6 O hc p;obtain⟨v0,ev0,_⟩:=se.get e1
  -- the name gives that very value
  refine jC (bp aA dc (ak rfl)) ?_;unfold d3 at hc;split at hc
  ·rename_i j hj;split at hc
   ·rename_i hv;cases hc;simp only[Ke,l4,L0] at hv;refine aC (oh (i:=i) (by rw[O.N];exact bd hj) (by rw[O.sc];exact lZ hv.1) hv.2.1 hv.2.2) ⟨v0,ev0,?_⟩;exact hr ρ ras' ρ' e2 g σ H _ se λvs g' H' F ev se' r=>q (v0::vs) g' H' F ev se' ⟨v0,vs,rfl,ev0,r⟩
   ·cases hc
  ·cases hc
 ·cases h
noncomputable def qw(a:MR)(r:Ro->Option (List RA×Ro)):Option (List RA×Ro):=match a with
 |some (kd,d,ρ1)=>if bW (dC kd d)=true then none else(match r ρ1 with|some (ras,ρ2)=>some (.val (dC kd d) d::ras,ρ2)|none=>none)
 |none=>none
theorem Ec{fa:Ro->MR}(hn:ai e=true)(ha:bt X fa e)(hr:iQ X fr es):iQ X (λρ=>qw (fa ρ) fr) (e::es):=by
 intro ρ ras ρ' h g σ H Q se q;dsimp only[qw] at h;split at h
 ·rename_i kd d ρ1 e1;split at h
  ·cases h
  ·rename_i hb;split at h
   ·rename_i ras' ρ2 e2;cases h;refine jC (bp aA dc (ak hn)) (ha ρ kd d ρ1 e1 g σ H _ se λv g1 H1 F1 ev1 se1 r1=>hr ρ1 ras' ρ' e2 (g1.plus F1) σ H1 _ se1 λvs g2 H2 F2 ev2 se2 r2=>?_);refine q (v::vs) _ H2 _ (ev1.trans ev2) (by rw[gM ev2];exact se2) ⟨v,vs,F1,F2,rfl,λc=>Iff.rfl,λc z1 z2=>?_,(r1.im se1.mu).evo (by simpa using hb) ev2,r2.evoR ev2⟩;have:=(ev2.out c).mp (a6 z1);rw[(ev2.tmp c z2).1] at this;cases this
   ·cases h
 ·cases h
end
noncomputable def cL:List RA->List Nat
 |[]=>[]
 |.ref i::r=>i::cL r
 |.val _ _::r=>cL r
noncomputable def eB(ρ:Ro):List RA->Option (List jb)
 |[]=>some []
 |.ref i::r=>match ρ[i]?,eB ρ r with
  |some (some ⟨false,k,d⟩),some ks=>some ((k,d)::ks)
  |_,_=>none
 |.val kd d::r=>if bW kd=true then none else(eB ρ r).map ((.fz,d)::·)
noncomputable def dD:List RA->Ro->Ro->Ro
 |.ref i::r,o::os,ρ=>dD r os (ρ.set i o)
 |.val _ _::r,_::os,ρ=>dD r os ρ
 |_,_,ρ=>ρ
noncomputable def me(ras:List RA)(i:Nat):Option Nat:=ras.findIdx? λa=>match a with|.ref j=>j==i|_=>false
noncomputable def Bg(φ:Option Fm)(a:Option (List RA×Ro)):MR:=match φ,a with
 |some φ,some (ras,ρ)=>if(cL ras).Nodup then(match eB ρ ras with
  |some ks=>(match φ ks with
   |some (kd,d,outs)=>if bW kd=true\/outs.length≠ras.length then none else some (kd,d,dD ras (outs.map CF) ρ)
   |none=>none)
  |none=>none) else none
 |_,_=>none
section
theorem fY{ρ:Ro}:∀{ras:List RA} {ks:List jb},eB ρ ras=some ks->ks.length=ras.length/\∀(j:Nat) a,ras[j]?=some a->∃k d,ks[j]?=some (k,d)/\(match a with|.ref i=>ρ[i]?=some (some ⟨false,k,d⟩)|.val kd d'=>k=.fz/\d=d'/\bW kd=false)
 |[],ks,h=>by cases h;exact⟨rfl,λj a e=>by simp at e⟩
 |.ref i::r,ks,h=>by
  unfold eB at h;split at h
  ·rename_i k d ks' e1 e2;cases h;obtain⟨l,g⟩:=fY e2;refine⟨by simp[l],λj a e=>?_⟩
   cases j with
   |zero=>simp at e;subst e;exact⟨k,d,rfl,e1⟩
   |succ j=>simpa using g j a (by simpa using e)
  ·cases h
 |.val kd d::r,ks,h=>by
  unfold eB at h;split at h
  ·cases h
  ·rename_i hb;obtain⟨ks',e,rfl⟩:=aS h;obtain⟨l,g⟩:=fY e;refine⟨by simp[l],λj a e=>?_⟩
   cases j with
   |zero=>simp at e;subst e;exact⟨.fz,d,rfl,rfl,rfl,by simpa using hb⟩
   |succ j=>simpa using g j a (by simpa using e)
theorem gN:∀{ras:List RA} {i j:Nat},me ras i=some j->ras[j]?=some (.ref i)
 |[],i,j,h=>by simp[me] at h
 |a::r,i,j,h=>by
  unfold me at h;rw[KU] at h
  cases a with
  |ref k=>
   by_cases e:k=i
   ·subst e;simp at h;subst h;rfl
   ·have e':(k==i)=false:=by simpa using e
    simp only[e'] at h;obtain⟨j',h',rfl⟩:=aS (by simpa using h);simpa using gN (ras:=r) (by unfold me;exact h')
  |val kd d=>
   simp only at h;obtain⟨j',h',rfl⟩:=aS (by simpa using h);simpa using gN (ras:=r) (by unfold me;exact h')
theorem eU:∀{ras:List RA} {j i:Nat},ras[j]?=some (.ref i)->i∈cL ras
 |[],_,_,h=>by simp at h
 |a::r,0,i,h=>by simp at h;subst h;exact KA
 |.ref k::r,j+1,i,h=>Kp _ (eU (by simpa using h))
 |.val kd d::r,j+1,i,h=>eU (ras:=r) (by simpa using h)
theorem oU:∀{ras:List RA} {j i:Nat},(cL ras).Nodup->ras[j]?=some (.ref i)->me ras i=some j
 |[],_,_,_,h=>by simp at h
 |.ref k::r,0,i,_,h=>by simp at h;subst h;simp[me,KU]
 |.val kd d::r,0,i,_,h=>by simp at h
 |.ref k::r,j+1,i,hn,h=>by
  have hm:=eU (ras:=r) (j:=j) (i:=i) (by simpa using h);have hn':k∉cL r/\(cL r).Nodup:=KR.mp hn
  have e:(k==i)=false:=by
   simp only[beq_eq_false_iff_ne,ne_eq];intro z;subst z;exact hn'.1 hm
  have ih:=oU hn'.2 (by simpa using h:r[j]?=some (.ref i));unfold me at ih⊢;rw[KU];simp only[e,ih];rfl
 |.val kd d::r,j+1,i,hn,h=>by
  have ih:=oU (ras:=r) hn (by simpa using h:r[j]?=some (.ref i));unfold me at ih⊢;rw[KU];simp only[ih];rfl
theorem iw:∀{ras:List RA} {outs:Ro} {ρ:Ro},(dD ras outs ρ).length=ρ.length
 |[],_,_=>rfl
 |.ref i::r,[],_=>rfl
 |.val _ _::r,[],_=>rfl
 |.ref i::r,o::os,ρ=>by simp only[dD];rw[iw];simp
 |.val _ _::r,o::os,ρ=>by simp only[dD];exact iw
theorem iy:∀{ras:List RA} {outs:Ro} {ρ:Ro},(cL ras).Nodup->outs.length=ras.length->∀(i:Nat) sl,(dD ras outs ρ)[i]?=some (some sl)->(i∉cL ras/\ρ[i]?=some (some sl))\/∃(j:Nat),ras[j]?=some (RA.ref i)/\outs[j]?=some (some sl)
 |[],outs,ρ,_,_,i,sl,h=>by cases outs<;>exact .inl ⟨by simp[cL],h⟩
 |.ref k::r,[],ρ,_,hl,i,sl,h=>by simp at hl
 |.val kd d::r,[],ρ,_,hl,i,sl,h=>by simp at hl
 |.val kd d::r,o::os,ρ,hn,hl,i,sl,h=>by
  simp only[dD] at h;rcases iy (ras:=r) hn (by simpa using hl) i sl h with⟨q1,q2⟩|⟨j,q1,q2⟩
  ·exact .inl ⟨q1,q2⟩
  ·exact .inr ⟨j+1,by simpa using q1,by simpa using q2⟩
 |.ref k::r,o::os,ρ,hn,hl,i,sl,h=>by
  simp only[dD] at h;have hn':k∉cL r/\(cL r).Nodup:=KR.mp hn;rcases iy (ras:=r) hn'.2 (by simpa using hl) i sl h with⟨q1,q2⟩|⟨j,q1,q2⟩
  ·by_cases e:i=k
   ·subst e
    have hlt:i<ρ.length:=by
     have:=(Kb.mp q2).1;simpa using this
    rw[Kz hlt] at q2;exact .inr ⟨0,rfl,q2⟩
   ·rw[Kv (Ne.symm e)] at q2;exact .inl ⟨by simp only[cL,Kn,not_or];exact⟨e,q1⟩,q2⟩
  ·exact .inr ⟨j+1,by simpa using q1,by simpa using q2⟩
end
end J
namespace J
open PySem PySem.Spec L2
section
variable {K:Ka} {H H1 H2:Hp} {g g1:Gh} {F:Pr} {σ:L2.St} {ρ:Ro}
theorem VRA.get:∀{ras:List RA} {vs:List V} {F:Pr},VRA K H g Ft σ ras vs F->vs.length=ras.length/\∀(j:Nat) a,ras[j]?=some a->∃y,vs[j]?=some y/\(match a with|.ref i=>σ[i]?=some (some y)|.val kd d=>∃Fj:Pr,(∀b,Fj b->F b)/\VR1 K H g Ft kd d y Fj)
 |[],vs,F,h=>by obtain⟨rfl,_⟩:=h;exact⟨rfl,λj a e=>by simp at e⟩
 |.ref i::r,vs,F,h=>by
  obtain⟨y,ys,rfl,e,h2⟩:=h;obtain⟨l,q⟩:=VRA.get h2;refine⟨by simp[l],λj a ea=>?_⟩
  cases j with
  |zero=>simp at ea;subst ea;exact⟨y,rfl,e⟩
  |succ j=>simpa using q j a (by simpa using ea)
 |.val kd d::r,vs,F,h=>by
  obtain⟨y,ys,F1,F2,rfl,hF,dj,h1,h2⟩:=h;obtain⟨l,q⟩:=VRA.get h2;refine⟨by simp[l],λj a ea=>?_⟩
  cases j with
  |zero=>simp at ea;subst ea;exact⟨y,rfl,F1,λb z=>(hF b).mpr (.inl z),h1⟩
  |succ j=>
   obtain⟨y',e1,e2⟩:=q j a (by simpa using ea);refine⟨y',by simpa using e1,?_⟩
   cases a with
   |ref i=>exact e2
   |val kd d=>obtain⟨Fj,f1,f2⟩:=e2;exact⟨Fj,λb z=>(hF b).mpr (.inr (f1 b z)),f2⟩
theorem Ed{ks:List jb}{vs:List V}(hn:(cL ras).Nodup)(hh:eB ρ ras=some ks)(hg:∀b,F b->g1 b=none)(se:SE K (g1.plus F) ρ σ H1)(r:VRA K H1 g1 F σ ras vs F):SE K (g1.re (me ras)) (ks.map CD) (vs.map some) H1:=by
 obtain⟨lk,gk⟩:=fY hh;obtain⟨lv,gv⟩:=r.get;have gS:∀b,Sg (g1.re (me ras)) b->Sg (g1.plus F) b:=λb z=>(ar b).mpr (.inl ((nl b).mp z));refine⟨λj sl e=>?_,λb z=>se.mu b (gS b z),by simp[lk,lv]⟩;rw[Kf] at e
 cases ek:ks[j]? with
 |none=>rw[ek] at e;cases e
 |some p=>
  rw[ek] at e;cases e;have hj:j<ras.length:=by rw[<- lk];exact(Kb.mp ek).1
  have ea:ras[j]?=some ras[j]:=Kg hj;obtain⟨k,d,ek',m⟩:=gk j _ ea;rw[ek] at ek';cases ek';obtain⟨y,ey,m2⟩:=gv j _ ea;generalize ras[j]=a at ea m m2
  cases a with
  |ref i=>
   have m:ρ[i]?=some (some ⟨false,k,d⟩):=m;have m2:σ[i]?=some (some y):=m2;obtain⟨v,Fi,e1,e2,e3⟩:=se.slot i _ m;rw[m2] at e1;cases e1;refine⟨y,Fi,by simp[ey],λb z=>?_,e3.go (λ_ _ _ e=>e) λb o _ n z=>n (gS b z)⟩;unfold Gh.re;rw[bM (e2 b z)];show some (me ras i)=_;rw[oU hn ea]
  |val kd' d'=>
   obtain⟨rfl,rfl,hb⟩:k=.fz/\d=d'/\bW kd'=false:=m;obtain⟨Fj,f1,f2⟩:=m2;refine⟨y,λ_=>False,by simp[ey],λb z=>z.elim,.fz ?_⟩;have hS:∀b,Sg (g1.re (me ras)) b->g1 b≠none:=λb z=>(nl b).mp z
   cases kd' with
   |sh=>exact f2.2.weak λb z=>.inl (hS b z)
   |fr c=>exact Tr.rp (λb z=>⟨.inl (hS b z),λz2=>hS b z (hg b (f1 b z2))⟩) f2
   |bo i c=>cases hb
noncomputable def dE(g1 gc:Gh)(ras:List RA):Gh:=λb=>match gc b with
 |some (some j)=>(match ras[j]? with|some (.ref i)=>some (some i)|_=>none)
 |some none=>g1 b
 |none=>none
theorem xD{gc:Gh}{ras:List RA}{j i:Nat}(h:gc b=some (some j))(e:ras[j]?=some (.ref i)):dE g1 gc ras b=some (some i):=by
 unfold dE;rw[h];dsimp only;rw[e]
theorem ny{gc:Gh}(h:gc b=some none):dE g1 gc ras b=g1 b:=by unfold dE;rw[h]
theorem mf{gc:Gh}(h:gc b=none):dE g1 gc ras b=none:=by unfold dE;rw[h]
theorem jT{gc:Gh}{ras:List RA}(h:dE g1 gc ras b=some x):(∃j i,gc b=some (some j)/\ras[j]?=some (.ref i)/\x=some i)\/(gc b=some none/\g1 b=some x):=by
 unfold dE at h;split at h
 ·rename_i j e;split at h
  ·rename_i i e2;cases h;exact .inl ⟨j,i,e,e2,rfl⟩
  ·cases h
 ·rename_i e;exact .inr ⟨e,h⟩
 ·cases h
theorem qx{m:Nat->Option Nat}{j:Nat}(h:g.re m b=some (some j)):∃i,g b=some (some i)/\m i=some j:=by
 unfold Gh.re at h
 cases q:g b with
 |none=>simp[q] at h
 |some x=>
  cases x with
  |none=>simp[q] at h
  |some i=>simp[q] at h;exact⟨i,rfl,h⟩
theorem Ee(h:g b=none):g.re m b=none:=by unfold Gh.re;rw[h]
theorem Hj(h:g b=some none):g.re m b=some none:=by unfold Gh.re;rw[h]
theorem Hk{m:Nat->Option Nat}{i:Nat}(h:g b=some (some i)):g.re m b=some (m i):=by unfold Gh.re;rw[h]
theorem li{ras:List RA}{gc:Gh}{ρc:Ro}{σc:L2.St}(hn:(cL ras).Nodup)(hol:ρc.length=ras.length)(hbo:bW kd=false)(a:Evo g H g1 H1 F)(se:SE K (g1.plus F) ρ σ H1)(hσ:∀(j i:Nat) sl w,ras[j]?=some (.ref i)->ρc[j]?=some (some sl)->σc[j]?=some (some w)->σ[i]?=some (some w))(ev:Evo (g1.re (me ras)) H1 gc H2 Fr)(sec:SE K (gc.plus Fr) ρc σc H2)(rv:VR1 K H2 gc Fr kd d v Fr) :
  Evo g H (dE g1 gc ras) H2 Fr/\SE K ((dE g1 gc ras).plus Fr) (dD ras ρc ρ) σ H2/\VR1 K H2 (dE g1 gc ras) Fr kd d v Fr:=by
 have hn0:∀c,H1 c=none->H c=none:=λc q=>by
  cases e:H c with
  |none=>rfl
  |some o=>obtain⟨o',q'⟩:=a.dom c o e;rw[q] at q';cases q'
 -- frozen ones stay so
 have froz:∀b o,H1 b=some o->g1 b=none->dE g1 gc ras b=none/\¬Fr b:=λb o e n=>by
  obtain⟨f1,f2⟩:=ev.froz e (Ee n);exact⟨mf f1,f2⟩
 have slotF:∀b i,g1 b=some (some i)->(∃j,g b=some (some j))\/H b=none:=λb i e=>a.new b i e
 have fromS:∀b j,gc b=some (some j)->(∃k,g b=some (some k))\/H b=none:=λb j e=>by
  rcases ev.new b j e with⟨k,q⟩|q
  ·obtain⟨i,q1,_⟩:=qx q;exact slotF b i q1
  ·exact .inr (hn0 b q)
 have evo:Evo g H (dE g1 gc ras) H2 Fr:=by
  refine⟨λb o n e=>?_,λb=>⟨λe=>?_,λe=>?_⟩,λb i e=>?_,λb z=>?_,λb o e=>?_⟩
  ·refine ev.keep b o (λj q=>?_) (a.keep b o n e);obtain⟨i,q1,_⟩:=qx q;rcases a.new b i q1 with⟨k,q2⟩|q2
   ·exact n k q2
   ·rw[e] at q2;cases q2
  ·have e1:=(a.out b).mp e;have e2:=(ev.out b).mp (Hj e1);rw[ny e2];exact e1
  ·rcases jT e with⟨j,i,_,_,z⟩|⟨_,e1⟩
   ·cases z
   ·exact(a.out b).mpr e1
  ·rcases jT e with⟨j,i',e1,_,_⟩|⟨_,e1⟩
   ·exact fromS b j e1
   ·exact slotF b i e1
  ·obtain⟨t1,t2⟩:=ev.tmp b z;refine⟨mf t1,?_⟩;rcases t2 with⟨j,q⟩|q
   ·obtain⟨i,q1,_⟩:=qx q;exact slotF b i q1
   ·exact .inr (hn0 b q)
  ·obtain⟨o1,e1⟩:=a.dom b o e;exact ev.dom b o1 e1
 have gcS:∀b,Sg (dE g1 gc ras) b->Sg gc b:=λb z z2=>z (mf z2);refine⟨evo,⟨λi sl e=>?_,λb z=>?_,by rw[iw];exact se.len⟩,?_⟩
 ·rcases iy hn hol i sl e with⟨ni,e1⟩|⟨j,ej,eo⟩
  ·-- a slot that was not eB in
   obtain⟨w,Fi,e2,e3,e4⟩:=se.slot i sl e1
   have lab:∀b,Fi b->g1 b=some (some i)/\gc b=some none:=λb z=>by
    have q1:=bM (e3 b z);refine⟨q1,(ev.out b).mp ?_⟩;rw[Hk q1]
    cases q2:me ras i with
    |none=>rfl
    |some j=>exact absurd (eU (gN q2)) ni
   refine⟨w,Fi,e2,λb z=>?_,e4.go (λb o hb e=>ev.keep b o (λj q=>?_) e) λb o e n z=>?_⟩
   ·obtain⟨l1,l2⟩:=lab b z;refine ca (by rw[ny l2];exact l1) λz2=>?_;rw[(ev.tmp b z2).1] at l2;cases l2
   ·obtain⟨k,q1,q2⟩:=qx q;rcases hb with hb|hb
    ·exact hb ((ar b).mpr (.inl (by rw[Sg,q1];simp)))
    ·rw[(lab b hb).1] at q1;cases q1;exact absurd (eU (gN q2)) ni
   ·have nF:g1 b=none:=by
     cases q1:g1 b with
     |none=>rfl
     |some x=>exact absurd ((ar b).mpr (.inl (by rw[Sg,q1];simp))) n
    obtain⟨f1,f2⟩:=froz b o e nF;rcases(ar b).mp z with z|z
    ·exact z f1
    ·exact f2 z
  ·-- one that was
   obtain⟨w,Fj,e2,e3,e4⟩:=sec.slot j sl eo;refine⟨w,Fj,hσ j i sl w ej eo e2,λb z=>?_,e4.go (λ_ _ _ e=>e) λb o e n z=>?_⟩
   ·have q1:=bM (e3 b z);refine ca (xD q1 ej) λz2=>?_;rw[(ev.tmp b z2).1] at q1;cases q1
   ·rcases(ar b).mp z with z|z
    ·exact n ((ar b).mpr (.inl (gcS b z)))
    ·exact n ((ar b).mpr (.inr z))
 ·rcases(ar b).mp z with z|z
  ·exact sec.mu b ((ar b).mpr (.inl (gcS b z)))
  ·exact sec.mu b ((ar b).mpr (.inr z))
 ·have k2:∀b o,H2 b=some o->¬Sx gc Fr b->¬Sx (dE g1 gc ras) Fr b:=λb o _ n z=>n (z.imp (gcS b) id)
  cases kd with
  |sh=>exact⟨rv.1,rv.2.go λb o n e=>⟨e,k2 b o e n⟩⟩
  |fr k=>exact Tr.go (λ_ _ _ e=>e) k2 rv
  |bo i k=>cases hbo
theorem xE{Q:VK}(h:Bg (some φ) (some (ras,ρ))=some (kd,d,ρ2))(a:Evo g H g1 H1 F)(se:SE K (g1.plus F) ρ σ H1)(r:VRA K H1 g1 F σ ras vs F)(q:∀v g' H' F',Evo g H g' H' F'->SE K (g'.plus F') ρ2 σ H'->VR1 K H' g' F' kd d v F'->Q v H'):zb K φ vs H1 Q E:=by
 unfold Bg at h;dsimp only at h;split at h
 ·rename_i hn;split at h
  ·rename_i ks hh;split at h
   ·rename_i kd' d' outs hφ;split at h
    ·cases h
    ·rename_i hc;cases h
     have hbo:bW kd=false:=by
      cases e:bW kd with
      |false=>rfl
      |true=>exact absurd (.inl e) hc
     have hol:outs.length=ras.length:=Classical.byContradiction λz=>hc (.inr z);refine⟨ks,g1.re (me ras),kd,d,outs,Ed hn hh (λb z=>(a.tmp b z).1) se r,hφ,λv gc H2 Fr ev sec rv=>?_⟩;obtain⟨_,gv⟩:=r.get
     obtain⟨c1,c2,c3⟩:=li hn (by rw[Kc];exact hol) hbo a se (λj i sl w ej _ ew=>by
      obtain⟨y,ey,m⟩:=gv j _ ej;have m:σ[i]?=some (some y):=m;rw[Kf,ey] at ew;cases ew;exact m) ev sec rv
     exact q v _ H2 Fr c1 c2 c3
   ·cases h
  ·cases h
 ·cases h
end
end J
namespace J
open PySem PySem.Spec L2
noncomputable def clr(ps:List (Nat×D))(ρ:Ro):Ro:=ps.foldl (λρ p=>ρ.set p.1 none) ρ
noncomputable def uK(cap:List (Option Nat))(ps:List (Nat×D)):Bool:=ps.all λp=>match cap[p.1]? with|some none=>true|_=>false
noncomputable def eV(cap:List (Option Nat))(tg:IT)(ft:Ro->Option (Bool×Ro))(fe:Ro->MR)(d:D)(ρ0:Ro):Option (Option KD×Ro):=match nh tg d with
 |some ps=>if dA ps ρ0=true/\uK cap ps=true then(match ft (setAll ps ρ0) with
  |some (true,ρt)=>(match fe ρt with|some (kd,d,ρ1)=>some (some (dC kd d,d),clr ps ρ1)|none=>none)
  |some (false,ρt)=>some (none,clr ps ρt)
  |none=>none) else none
 |none=>none
noncomputable def aD(r:Ow)(f:D->Ro->Option (Option KD×Ro)):List D->Ro->Option (List D×Ro)
 |[],ρ=>some ([],ρ)
 |d::ds,ρ=>match f d ρ with
  |some (some kd,ρ1)=>if cw r kd=true then(match aD r f ds ρ1 with|some (ys,ρ2)=>some (kd.2::ys,ρ2)|none=>none) else none
  |some (none,ρ1)=>aD r f ds ρ1
  |none=>none
theorem fZ:∀{a b:List D} {ρ ρ':Ro} {ys:List D},aD r f (a++b) ρ=some (ys,ρ')->∃x ρ1 y,aD r f a ρ=some (x,ρ1)/\aD r f b ρ1=some (y,ρ')/\ys=x++y
 |[],b,ρ,ρ',ys,h=>⟨[],ρ,ys,rfl,h,rfl⟩
 |d::a,b,ρ,ρ',ys,h=>by
  rw[Lp] at h;unfold aD at h;split at h
  ·rename_i kd ρ1 e1;split at h
   ·rename_i hf;split at h
    ·rename_i zs ρ2 e2;cases h;obtain⟨x,ρ3,y,h1,h2,rfl⟩:=fZ e2;exact⟨kd.2::x,ρ3,y,by simp[aD,e1,h1,hf],h2,rfl⟩
    ·cases h
   ·cases h
  ·rename_i ρ1 e1;obtain⟨x,ρ3,y,h1,h2,rfl⟩:=fZ h;exact⟨x,ρ3,y,by simp[aD,e1,h1],h2,rfl⟩
  ·cases h
theorem cN:∀{a:List D} {d:D} {x y:List D} {ρ ρ1 ρ2:Ro},aD r f a ρ=some (x,ρ1)->aD r f [d] ρ1=some (y,ρ2)->aD r f (a++[d]) ρ=some (x++y,ρ2)
 |[],d,x,y,ρ,ρ1,ρ2,h,h1=>by cases h;exact h1
 |e::a,d,x,y,ρ,ρ1,ρ2,h,h1=>by
  unfold aD at h;rw[Lp];unfold aD;split at h
  ·rename_i kd ρ3 e1;split at h
   ·rename_i hf;split at h
    ·rename_i zs ρ4 e2;cases h;rw[cN e2 h1];simp[hf]
    ·cases h
   ·cases h
  ·rename_i ρ3 e1;exact cN h h1
  ·cases h
theorem nz{f:D->Ro->Option (Option KD×Ro)}{ds ys:List D}(h:aD r f ds ρ=some (ys,ρ')){i:Nat}{d:D}(e:ds[i]?=some d){x:List D}{ρi:Ro}(hx:aD r f (ds.take i) ρ=some (x,ρi)) :
  (∃ρ1,f d ρi=some (none,ρ1)/\aD r f (ds.take (i+1)) ρ=some (x,ρ1))\/∃kd ρ1,f d ρi=some (some kd,ρ1)/\cw r kd=true/\aD r f (ds.take (i+1)) ρ=some (x++[kd.2],ρ1):=by
 have hs:ds=ds.take i++(d::ds.drop (i+1)):=by
  obtain⟨hl,rfl⟩:=Kb.mp e;rw[<- Ll hl,Mj]
 have ht:ds.take (i+1)=ds.take i++[d]:=by rw[K8,e];rfl
 rw[hs] at h;obtain⟨x',ρ1,y,h1,h2,_⟩:=fZ h;rw[hx] at h1;cases h1;unfold aD at h2;rw[ht];split at h2
 ·rename_i kd ρ2 e1;split at h2
  ·rename_i hf;exact .inr ⟨kd,ρ2,e1,hf,cN hx (by simp[aD,e1,hf])⟩
  ·cases h2
 ·rename_i ρ2 e1;exact .inl ⟨ρ2,e1,by simpa using cN hx (y:=[]) (by simp[aD,e1])⟩
 ·cases h2
theorem f6:∀{ds ys:List D} {ρ ρ':Ro},aD r f ds ρ=some (ys,ρ')->ys.length<=ds.length
 |[],ys,ρ,ρ',h=>by cases h;exact Ki _
 |d::ds,ys,ρ,ρ',h=>by
  unfold aD at h;split at h
  ·rename_i kd ρ1 e1;split at h
   ·split at h
    ·rename_i zs ρ2 e2;cases h;have:=f6 e2;simp;lia
    ·cases h
   ·cases h
  ·rename_i ρ1 e1;have:=f6 h;simp;lia
  ·cases h
noncomputable abbrev IR:=Option (List Nat×List D×Ro)
noncomputable def iR(X:Cx)(f:Ro->IR)(tg iter:Expr):Prop:=∀ρ bs ds ρ1,f ρ=some (bs,ds,ρ1)->∀g σ H R,SE X.K g ρ σ H->
 (∀J s g1 H1,Evo g H g1 H1 (λ_=>False)->SE X.K g1 ρ1 σ H1->gE X.K J s ds->s.P X.K g1 H1->s.from g1 H1 bs->R J H1)->wI X tg iter σ H R
noncomputable def Bh(a:Option (List Nat×List D))(ρ:Ro):IR:=match a with|some (bs,ds)=>some (bs,ds,ρ)|none=>none
theorem SndI.m{f:Ro->Option (List Nat×List D)}(h:SndI X f tg iter):iR X (λρ=>Bh (f ρ) ρ) tg iter:=by
 intro ρ bs ds ρ1 hf g σ H R se q;dsimp only[Bh] at hf;split at hf
 ·rename_i bs' ds' e;cases hf;refine h ρ bs ds e g σ H R se λJ s H1 s1 jt sp sf=>q J s g H1 (cK s1 (λ_ z=>z.elim) λ_ z=>z.elim) (se.same s1) jt sp sf.from_H
 ·cases hf
noncomputable def gO(cap:List (Option Nat)):List RA:=cap.map λo=>match o with|some i=>.ref i|none=>.val .sh .non
noncomputable def f7(r:Ow)(it:IR)(f:D->Ro->Option (Option KD×Ro))(cap:List (Option Nat)):MR:=match it with
 |some (bs,ds,ρ)=>if bs=[]/\ds.length<=100000 then(match aD r f ds (cn ρ cap) with|some (ys,ρc)=>if ρc.length=cap.length then some (.fr (.own [] r),.lst ys,dD (gO cap) ρc ρ) else none|none=>none) else none
 |none=>none
theorem iz:∀cap:List (Option Nat),cL (gO cap)=cap.filterMap id
 |[]=>rfl
 |none::r=>by
  have:=iz r;simp only[gO,KM,cL] at this⊢;simpa using this
 |some i::r=>by
  have:=iz r;simp only[gO,KM,cL] at this⊢;simpa using this
theorem xF(cap:List (Option Nat))(i:Nat):me (gO cap) i=jM cap i:=by
 unfold me jM gO;rw[Ls];congr 1;funext o
 cases o with
 |none=>rfl
 |some k=>simp[Function.comp]
theorem SE.clr{H:Hp}:∀{ps:List (Nat×D)} {ρ:Ro} {σ:L2.St},SE K g ρ σ H->SE K g (clr ps ρ) σ H
 |[],ρ,σ,h=>h
 |p::ps,ρ,σ,h=>by
  show SE K g (J.clr ps (ρ.set p.1 none)) σ H;refine SE.clr ⟨λi sl e=>?_,h.mu,by simp[h.len]⟩;by_cases hi:i=p.1
  ·subst hi
   have hlt:p.1<ρ.length:=by
    have:=(Kb.mp e).1;simpa using this
   rw[Kz hlt] at e;cases e
  ·rw[Kv (Ne.symm hi)] at e;exact h.slot i sl e
theorem jc:∀{ps:List (Nat×D)} {vs:List (Nat×V)} {σ:L2.St} {j:Nat},RpP K H S ps vs->(∀p∈ps,p.1≠j)->(ip vs σ)[j]?=σ[j]?
 |[],vs,σ,j,h,_=>by rw[(show vs=[] from h)];rfl
 |(i,d)::ps,vs,σ,j,h,hn=>by
  obtain⟨v,ws,rfl,_,h2⟩:=h;show(ip ws (σ.set i (some v)))[j]?=_;rw[jc h2 λp hp=>hn p (Kp _ hp),Kv (hn (i,d) KA)]
section
variable {X:Cx} {Γ:gz} {c:Cz}
theorem Evo.drop{F F2:Pr}(a:Evo g H g' H' F)(h:∀b,F2 b->F b):Evo g H g' H' F2:=⟨a.keep,a.out,a.new,λb z=>a.tmp b (h b z),a.dom⟩
theorem SE.drop{g:Gh}{F F2:Pr}(se:SE K (g.plus F) ρ σ H)(h:∀b,F2 b->F b)(hg:∀b,F b->g b=none):SE K (g.plus F2) ρ σ H:=by
 have sub:∀b,Sg (g.plus F2) b->Sg (g.plus F) b:=λb z=>(ar b).mpr (((ar b).mp z).imp id (h b));refine⟨λi sl e=>?_,λb z=>se.mu b (sub b z),se.len⟩;obtain⟨v,F0,e1,e2,e3⟩:=se.slot i sl e;refine⟨v,F0,e1,λb z=>?_,e3.go (λ_ _ _ e=>e) λb o _ n z=>n (sub b z)⟩;have q:=bM (e2 b z);exact ca q λz2=>by rw[hg b (h b z2)] at q;cases q
theorem Evo.upd{H H':Hp}(a:Evo g H g' H' F)(hp:H p=none):Evo g H g' (upd H' p o) F:=by
 refine⟨λb o' n e=>?_,a.out,a.new,a.tmp,λb o' e=>?_⟩
 ·rw[am (λz=>by rw[z,hp] at e;cases e)];exact a.keep b o' n e
 ·obtain⟨o1,e1⟩:=a.dom b o' e;exact⟨o1,by rw[am (λz=>by rw[z,hp] at e;cases e)];exact e1⟩
theorem jU(a:Evo g H g1 H1 (λ_=>False))(b:Evo g1 H1 g2 H2 F2):Evo g H g2 H2 F2:=by
 have t:=a.trans (F1:=λ_=>False) (g2:=g2) (H2:=H2) (F2:=F2) (by rw[aW λ_ z=>z];exact b);have e1:g2.minus (λ_=>False)=g2:=by funext c;exact bJ λz=>z
 rw[e1] at t;exact t.drop λc z=>.inr z
noncomputable def jV(X:Cx)(f:Ro->Option (Bool×Ro))(ifs:List Expr):Prop:=∀ρ b ρ',f ρ=some (b,ρ')->∀g σ H Q,SE X.K g ρ σ H->(∀g' H',Evo g H g' H' (λ_=>False)->SE X.K g' ρ' σ H'->Q b H')->CC X ifs σ H Q
theorem Bi:jV X (λρ=>some (true,ρ)) []:=λρ b ρ' h g σ H Q se q=>by cases h;exact ma p5 (q g H (.refl g H) se)
theorem Bj{e:Expr}(h:fK X f e):jV X f [e]:=λρ b ρ' hb g σ H Q se q=>ma (p6 gx) (h ρ b ρ' hb g σ H Q se q)
theorem qy{K:Ka}{g' gi gt:Gh}{H1 H2 H3:Hp}{D:Addr}{Fi:Pr}{us:List V}{yi:List J.D}{r:Ow}(ev2:Evo g' H1 gi H2 (λb=>b=D\/Fi b))(nFD:¬Fi D)(gD:H2 D=some (.lst us))(tr:TrL K H2 (Sx gi λb=>b=D\/Fi b) yi [] r us Fi)(evt:Evo (gi.plus λb=>b=D\/Fi b) H2 gt H3 (λ_=>False)) :
  ∃gi',Evo g' H1 gi' H3 (λb=>b=D\/Fi b)/\(gi'.plus λb=>b=D\/Fi b)=gt/\H3 D=some (.lst us)/\TrL K H3 (Sx gi' λb=>b=D\/Fi b) yi [] r us Fi:=by
 have gDo:(gi.plus λb=>b=D\/Fi b) D=some none:=a6 (.inl rfl);have tot:=(ev2.trans evt).drop (F2:=λb=>b=D\/Fi b) λb z=>.inl z;refine⟨gt.minus (λb=>b=D\/Fi b),tot,?_,evt.keep D _ (λi q1=>by rw[gDo] at q1;cases q1) gD,?_⟩
 ·have e:=gM evt;rw[aW λ_ z=>z] at e;have e2:(λc=>(c=D\/Fi c)\/False)=λb=>b=D\/Fi b:=by funext b;simp
  rw[e2] at e;exact e
 ·refine tr.go (λb o hb e=>?_) λb o e n z=>?_
  ·refine evt.keep b o (λi q1=>?_) e;rcases hb with hb|hb
   ·exact hb (.inl (by rw[bM q1];simp))
   ·rw[a6 (.inr hb)] at q1;cases q1
  ·have nb:¬(b=D\/Fi b):=λz=>n (.inr z)
   have gn:(gi.plus λb=>b=D\/Fi b) b=none:=by
    rw[cb nb]
    cases q1:gi b with
    |none=>rfl
    |some x=>exact absurd (.inl (by rw[q1];simp)) n
   obtain⟨f1,f2⟩:=evt.froz e gn;rcases z with z|z
   ·rw[bJ nb] at z;exact z f1
   ·exact nb z
theorem qz(O:aB X Γ c){r:Ow}{fi:Ro->IR}{ft:Ro->Option (Bool×Ro)}{fe:Ro->MR}{elt tg iter:Expr}{ifs:List Expr}{scope:Scope}{t:IT}{n:Nat}(hck:bP c scope=true)(hi:iR X fi tg iter)
  (htg:oe ⟨fU scope c.sc,au scope,gA scope⟩ n tg=some t)
  (hft:∀C s H ex,jV (aQ X (au scope) scope C s H ex) ft ifs) (hfe:∀C s H ex,bt (aQ X (au scope) scope C s H ex) fe elt)
  {ρ:Ro} {kd:Kd} {d:D} {ρ':Ro} (h:f7 r (fi ρ) (eV (aK c scope) t ft fe) (aK c scope)=some (kd,d,ρ')) {g:Gh} {σ:L2.St} {H:Hp} {Q:VK} (se:SE X.K g ρ σ H) (q:∀v g' H' F,Evo g H g' H' F->SE X.K (g'.plus F) ρ' σ H'->VR1 X.K H' g' F kd d v F->Q v H') :
  ib (wI X tg iter) (λv σ H Q=>∀C s H0 ex,wG (aQ X (au scope) scope C s H0 ex) tg v σ H Q) (λσ H Q=>∀C s H0 ex,CC (aQ X (au scope) scope C s H0 ex) ifs σ H Q) (λσ H Q=>∀C s H0 ex,wE (aQ X (au scope) scope C s H0 ex) elt σ H Q) (aK c scope) σ H Q:=by
 have hcap:lf (aK c scope)=true:=by
  simp only[bP,Ke] at hck;exact hck.1.2
 unfold f7 at h;split at h
 ·rename_i bs ds ρ0 hit;split at h
  ·rename_i hlen;obtain⟨rfl,hlen⟩:=hlen;split at h
   ·rename_i ys ρe hm;split at h
    ·rename_i hel;cases h;have CO:=fy O hck;refine hi ρ [] ds ρ0 hit g σ H _ se λjj src g1 H1 ev1 se0 jt sp sf D hD=>?_;replace q:∀v g' H' F,Evo g1 H1 g' H' F->SE X.K (g'.plus F) (dD (gO (aK c scope)) ρe ρ0) σ H'->VR1 X.K H' g' F (.fr (.own [] r)) (.lst ys) v F->Q v H':=λv g' H' F e s r=>q v g' H' F (jU ev1 e) s r;clear se ev1;generalize g1=g at *;generalize ρ0=ρ at *;have se1:SE X.K (g.re (jM (aK c scope))) (cn ρ (aK c scope)) (dJ σ (aK c scope)) H1:=se0.cap hcap;generalize hg':g.re (jM (aK c scope))=g' at se1;have gS:∀b,Sg g' b↔Sg g b:=λb=>by rw[<- hg'];exact nl b
     generalize hρ:cn ρ (aK c scope)=ρc at se1 hm
     refine⟨λi m σ' H'=>m=ds.length-i/\i<=ds.length/\∃(gi:Gh) (Fi:Pr) (us:List V) (yi:List J.D) (ρi:Ro),aD r (eV (aK c scope) t ft fe) (ds.take i) ρc=some (yi,ρi)/\Evo g' H1 gi H' (λb=>b=D\/Fi b)/\¬Fi D/\SE X.K (gi.plus λb=>b=D\/Fi b) ρi σ' H'/\
       (∀(j i:Nat),(aK c scope)[j]?=some (some i)->σ'[j]?=(dJ σ (aK c scope))[j]?)/\H' D=some (.lst us)/\TrL X.K H' (Sx gi λb=>b=D\/Fi b) yi [] r us Fi,
      ⟨ds.length,by simp,KJ _,g',λ_=>False,[],[],ρc,by simp[aD],?_,λz=>z,?_,λj i _=>rfl,aG,by unfold TrL;exact⟨rfl,λ_ z=>z⟩⟩,?_⟩
     ·have gD:g' D=none:=eA se1.mu hD;refine⟨λb o n e=>al hD b o e,λ_=>Iff.rfl,λb i e=>.inl ⟨i,e⟩,λb z=>?_,λb o e=>⟨o,al hD b o e⟩⟩;rcases z with z|z
      ·subst z;exact⟨gD,.inr hD⟩
      ·exact z.elim
     ·exact se1.plus (al hD) (λb z=>z.elim (λz=>z▸hD) λz=>z.elim) λb z=>z.elim (λz=>⟨.lst [],z▸aG,λxs h=>by cases h⟩) λz=>z.elim
     rintro i m σ' H' ⟨rfl,hi',gi,Fi,us,yi,ρi,hyi,evi,nFD,se',hσ',gD,tr⟩
     have hFg:∀b,(b=D\/Fi b)->gi b=none:=λb z=>(evi.tmp b z).1
     have sp':src.P X.K (gi.plus λb=>b=D\/Fi b) H':=by
      have fz:∀b o,H1 b=some o->¬Sg g b->H' b=some o/\¬Sg (gi.plus λb=>b=D\/Fi b) b:=λb o e n=>by
       have n':g' b=none:=by
        cases q1:g' b with
        |none=>rfl
        |some x=>exact absurd ((gS b).mp (by rw[Sg,q1];simp)) n
       obtain⟨f1,f2⟩:=evi.froz e n';refine⟨evi.keep b o (λi q1=>by rw[n'] at q1;cases q1) e,λz=>?_⟩;rcases(ar b).mp z with z|z
       ·exact z f1
       ·exact f2 z
      refine Src.mono (g:=g) (H:=H1) (λb o e n=>(fz b o e n).2) (λb o hb e=>?_) (λa e=>sf.from_t e) sp;rcases hb with hb|hb
      ·exact(fz b o e hb).1
      ·rcases sf.from_l hb with sf|⟨i,hm',_⟩
       ·exact(fz b o e (by rw[Sg,sf];simp)).1
       ·cases hm'
     obtain⟨j1,j2⟩:=jt i _ H' sp' se'.mu;by_cases hlt:i<ds.length
     ·have hd:ds[i]?=some ds[i]:=Kg hlt;obtain⟨go,yl⟩:=j2 _ hd;refine .inr ⟨go,λx H2 hy C s0 H0 ex=>?_⟩;obtain⟨s2,rx⟩:=yl x H2 hy;have st:=nz hm hd hyi
      have stuck:∃o,eV (aK c scope) t ft fe ds[i] ρi=some o:=by
       rcases st with⟨ρ1,e,_⟩|⟨kd,ρ1,e,_⟩
       ·exact⟨_,e⟩
       ·exact⟨_,e⟩
      obtain⟨o0,ho0⟩:=stuck;have he:=ho0;unfold eV at he;split at he
      ·rename_i ps hps;split at he
       ·rename_i hno;obtain⟨hno,hnc⟩:=hno
        have hcj:∀(j i:Nat),(aK c scope)[j]?=some (some i)->∀p∈ps,p.1≠j:=λj i e p hp z=>by
         have:=KO.mp hnc p hp;rw[z,e] at this;cases this
        refine tV (qh (CO C s0 H0 ex) n htg) (i9 hps rx λvs hvs C1 s01 H01 ex1=>?_);have t1:=SE.setAll hvs (se'.same s2);have ev2:Evo g' H1 gi H2 (λb=>b=D\/Fi b):=⟨λb o n e=>s2 _ _ (evi.keep b o n e),evi.out,evi.new,evi.tmp,λb o e=>let ⟨o',q1⟩:=evi.dom b o e;⟨o',s2 _ _ q1⟩⟩;have tr2:TrL X.K H2 (Sx gi λb=>b=D\/Fi b) yi [] r us Fi:=tr.go (λb o _ e=>s2 _ _ e) λ_ _ _ n=>n;split at he
        ·rename_i ρt hT;refine hft C1 s01 H01 ex1 _ true ρt hT _ _ _ _ t1 λgt H3 evt set=>tI λC2 s02 H02 ex2=>?_;obtain⟨gi2,ev3,hgp,gD3,tr3⟩:=qy ev2 nFD (s2 _ _ gD) tr2 evt;rw[<- hgp] at set
         have hul0:us.length<=i:=by
          rw[tr.len];exact KF (f6 hyi) (by rw[KQ];lia)
         split at he
         ·rename_i ky y ρ1 hke;cases he
          have st2:cw r (dC ky y,y)=true/\aD r (eV (aK c scope) t ft fe) (ds.take (i+1)) ρc=some (yi++[y],clr ps ρ1):=by
           rcases st with⟨ρ2,e,_⟩|⟨kd,ρ2,e,e2,e3⟩
           ·rw[ho0] at e;cases e
           ·rw[ho0] at e;cases e;exact⟨e2,e3⟩
          refine hfe C2 s02 H02 ex2 _ ky y ρ1 hke _ _ H3 _ set λvy g2 H4 Fy ev4 se4 r4=>?_;have r4':=VR1.im (kd:=ky) se4.mu r4;have gDo:(gi2.plus λb=>b=D\/Fi b) D=some none:=a6 (.inl rfl);have gD4:H4 D=some (.lst us):=ev4.keep D _ (λi q1=>by rw[gDo] at q1;cases q1) gD3
          have nFyD:∀b,(b=D\/Fi b)->¬Fy b:=λb z z2=>by
           have:=(ev4.out b).mp (a6 z);rw[(ev4.tmp b z2).1] at this;cases this
          have tot:=ev3.trans ev4;have mm:MuOk H4 (Sx g2 Fy):=λb z=>se4.mu b ((ar b).mpr z);obtain⟨F2,a1,a2⟩:=VR1.fit (p:=(dC ky y,y)) st2.1 mm (λb z=>(ev4.tmp b z).1) (λb z=>z) r4';have hul:=hul0;have kD:∀b o,b≠D->H4 b=some o->upd H4 D (.lst (us++[vy])) b=some o:=λb o n e=>by rw[am n];exact e
          have mD:∀b,(b=D\/Fi b)->(g2.minus λb=>b=D\/Fi b) b=none:=λb z=>gK z;have hgn:∀b,((b=D\/Fi b)\/Fy b)->(g2.minus λb=>b=D\/Fi b) b=none:=λb z=>(tot.tmp b z).1;have sub:∀b,(b=D\/(Fi b\/F2 b))->((b=D\/Fi b)\/Fy b):=λb z=>z.elim (λz=>.inl (.inl z)) λz=>z.elim (λz=>.inl (.inr z)) λz=>.inr (a1 b z);refine⟨us,gD4,Li hul (Km hlt (a7 hlen)),ds.length-(i+1),by lia,rfl,hlt,g2.minus (λb=>b=D\/Fi b),λb=>Fi b\/F2 b,us++[vy],yi++[y],clr ps ρ1,st2.2,(tot.drop sub).upd hD,λz=>z.elim nFD λz=>nFyD D (.inl rfl) (a1 D z),?_,λj i e=>(jc hvs (hcj j i e)).trans (hσ' j i e),aG,?_⟩
          ·refine SE.upd (SE.clr (SE.drop (by rw[gM ev4];exact se4) sub hgn)) (a6 (.inl rfl)) (λxs h=>by cases h)
          ·refine TrL.snoc (tr3.go (λb o hb e=>?_) λb o e n z=>?_) ((a2 (Sx (g2.minus λb=>b=D\/Fi b) λb=>b=D\/(Fi b\/F2 b)) λb z=>?_).go (λb o hb e=>kD b o (λz=>?_) e) λb o e n z=>n z) λb z1 z2=>nFyD b (.inr z1) (a1 b z2)
           ·have nb:b≠D:=λz=>by
             subst z;exact hb.elim (λz=>z (.inr (.inl rfl))) nFD
            refine kD b o nb (ev4.keep b o (λi q1=>?_) e);rcases hb with hb|hb
            ·exact hb (.inl (by rw[bM q1];simp))
            ·rw[a6 (.inr hb)] at q1;cases q1
           ·have nb:¬(b=D\/Fi b):=λz=>n (.inr z)
            have gn:(gi2.plus λb=>b=D\/Fi b) b=none:=by
             rw[cb nb]
             cases q1:gi2 b with
             |none=>rfl
             |some x=>exact absurd (.inl (by rw[q1];simp)) n
            obtain⟨f1,f2⟩:=ev4.froz e gn;rcases z with z|z
            ·rw[bJ nb] at z;exact z f1
            ·rcases sub b z with z|z
             ·exact nb z
             ·exact f2 z
           ·rcases z with z|z
            ·by_cases hb:b=D\/Fi b
             ·rw[gK hb] at z;exact absurd rfl z
             ·rw[bJ hb] at z;exact .inr (.inl z)
            ·rcases z with z|z|z
             ·right;left;rw[(ev4.out b).mp (a6 (.inl z))];simp
             ·right;left;rw[(ev4.out b).mp (a6 (.inr z))];simp
             ·exact .inr (.inr (.inl z))
           ·subst z;exact hb.elim (λz=>z (.inr (.inl rfl))) λz=>nFyD b (.inl rfl) (a1 b z)
         ·cases he
        ·rename_i ρt hT;cases he
         have st2:aD r (eV (aK c scope) t ft fe) (ds.take (i+1)) ρc=some (yi,clr ps ρt):=by
          rcases st with⟨ρ1,e,e2⟩|⟨kd,ρ1,e,_⟩
          ·rw[ho0] at e;cases e;exact e2
          ·rw[ho0] at e;cases e
         refine hft C1 s01 H01 ex1 _ false ρt hT _ _ _ _ t1 λgt H3 evt set=>tH ?_;obtain⟨gi2,ev3,hgp,gD3,tr3⟩:=qy ev2 nFD (s2 _ _ gD) tr2 evt;rw[<- hgp] at set;exact⟨ds.length-(i+1),by lia,rfl,hlt,gi2,Fi,us,yi,clr ps ρt,st2,ev3,nFD,SE.clr set,λj i e=>(jc hvs (hcj j i e)).trans (hσ' j i e),gD3,tr3⟩
        ·cases he
       ·cases he
      ·cases he
     ·have e:i=ds.length:=by lia
      subst e;rw[K7,hm] at hyi;cases hyi;refine .inl ⟨j1 (Ki _),?_⟩;have hrn:(cL (gO (aK c scope))).Nodup:=by rw[iz];simpa[lf] using hcap
      have hre:g.re (me (gO (aK c scope)))=g':=by
       rw[<- hg'];congr 1;funext i;exact xF _ _
      have rv:VR1 X.K H' gi (λb=>b=D\/Fi b) (.fr (.own [] r)) (.lst ys) (.ref D) (λb=>b=D\/Fi b):=by
       show Tr _ _ _ _ _ _ _;unfold Tr
       exact⟨D,_,us,Fi,rfl,gD,rfl,λ_=>nFD,(λh=>nomatch h),λb=>⟨λz=>z.imp (λz=>⟨rfl,z⟩) id,λz=>z.imp (λz=>z.2) id⟩,tr⟩
      obtain⟨c1,c2,c3⟩:=li (K:=X.K) (g:=g) (H:=H1) (g1:=g) (H1:=H1) (F:=λ_=>False) (ρ:=ρ) (σ:=σ) (ras:=gO (aK c scope)) (ρc:=ρe) (σc:=σ') hrn (by rw[hel];simp[gO]) rfl (.refl g H1) (by rw[aW λ_ z=>z];exact se0)
       (λj i sl w ej eo ew=>by
        unfold gO at ej;rw[Kf] at ej
        cases q1:(aK c scope)[j]? with
        |none=>rw[q1] at ej;cases ej
        |some o=>
         rw[q1] at ej
         cases o with
         |none=>cases ej
         |some i'=>
          cases ej;rw[hσ' j i q1] at ew;unfold dJ at ew;rw[Kf,q1] at ew;have ew':(σ[i]?).join=some w:=by simpa using ew
          cases q2:σ[i]? with
          |none=>rw[q2] at ew';cases ew'
          |some w'=>rw[q2] at ew';have:w'=some w:=ew';rw[this]) (by rw[hre];exact evi) se' rv
      exact q _ _ H' _ c1 c2 c3
    ·cases h
   ·cases h
  ·cases h
 ·cases h
theorem xG(O:aB X Γ c){r:Ow}{fi:Ro->IR}{ft:Ro->Option (Bool×Ro)}{fe:Ro->MR}{elt tg iter:Expr}{ifs:List Expr}{scope:Scope}{pos:Pos}{t:IT}{n:Nat}(hck:bP c scope=true)(hns:eh iter=true)(hi:iR X fi tg iter)
  (htg:oe ⟨fU scope c.sc,au scope,gA scope⟩ n tg=some t)
  (hft:∀C s H ex,jV (aQ X (au scope) scope C s H ex) ft ifs) (hfe:∀C s H ex,bt (aQ X (au scope) scope C s H ex) fe elt) :
  bt X (λρ=>f7 r (fi ρ) (eV (aK c scope) t ft fe) (aK c scope)) (.ListComp elt [⟨tg,iter,ifs,0⟩] scope pos):=by
 intro ρ kd d ρ' h g σ H Q se q
 exact aC (mY (N':=au scope) (cap:=aK c scope) O.calm (fV O hck) wU
  (λC s H0 ex pins s' σ' H' v u Q' I r hh=>wV pins s' σ' H' v u Q' I r (hh C s H0 ex)) (λC s H0 ex pins s' σ' H' Q' I hh=>hh C s H0 ex pins s' I) (λC s H0 ex pins s' σ' H' Q' I hh=>hh C s H0 ex pins s' I) (fA hns)) (qz O hck hi htg hft hfe h se q)
end
end J
namespace J
open PySem PySem.Spec L2
noncomputable def w2(X:Cx)(a b:Expr)(σ:L2.St)(H:Hp)(R:List V->Hp->Prop):Prop:=wE X a σ H λx H1=>wE X b σ H1 λy H2=>R [x,y] H2
noncomputable def jW(X:Cx)(f:Ro->Option (List KD×Ro))(a b:Expr):Prop:=∀ρ kds ρ',f ρ=some (kds,ρ')->∀g σ H Q,SE X.K g ρ σ H->
 (∀vs g' H' F,Evo g H g' H' F->SE X.K (g'.plus F) ρ' σ H'->VRL X.K H' g' F kds vs F->Q vs H')->w2 X a b σ H Q
noncomputable def Strict2(X:Cx)(f:List KD->Option KD)(a b node:Expr):Prop:=∀kds kd d,f kds=some (kd,d)->∀σ H Q,w2 X a b σ H (Jr X kds kd d Q)->wE X node σ H Q
section
variable {X:Cx} {Γ:gz} {c:Cz}
theorem Strict2.m{f:List KD->Option KD}{fa:Ro->Option (List KD×Ro)}(h:Strict2 X f a b node)(ha:jW X fa a b):bt X (λρ=>(fa ρ).bind λp=>(f p.1).map λq=>(q.1,q.2,p.2)) node:=by
 intro ρ kd d ρ' hd g σ H Q se q;dsimp only at hd
 cases e:fa ρ with
 |none=>rw[e] at hd;cases hd
 |some p=>
  obtain⟨kds,ρ1⟩:=p;rw[e] at hd;dsimp only[K2] at hd
  cases e2:f kds with
  |none=>rw[e2] at hd;cases hd
  |some r=>
   rw[e2] at hd;cases hd;refine h kds r.1 r.2 e2 σ H Q (ha ρ kds _ e g σ H _ se λvs g1 H1 F ev se1 r1=>⟨g1,kM H1 F,uJ se1 λb z=>(ev.tmp b z).1,nw,r1.off,λv H2 s2 r2=>?_⟩);obtain⟨F2,b1,b2⟩:=r2;obtain⟨c1,c2⟩:=oT ev se1 s2 b1 b2.dom;exact q v g1 H2 F2 c1 c2 b2
theorem VR.one{v:V}(h:VR K g H0 H kd d v):VRs K g H0 H [(kd,d)] [v]:=by
 obtain⟨F,h1,h2⟩:=h;exact⟨F,h1,v,[],F,λ_=>False,rfl,λb=>⟨.inl,λz=>z.elim id λz=>z.elim⟩,λ_ _ z=>z,h2,rfl,λ_ z=>z⟩
theorem Bk{fa:Ro->MR}{fb:Ro->Option KD}(ha:bt X fa a)(hb:SndE X fb b):jW X (λρ=>fL (fa ρ) λρ=>eJ (fb ρ) (some [])) a b:=by
 intro ρ kds ρ' h g σ H Q se q;dsimp only[fL] at h;split at h
 ·rename_i kd d ρ1 e1;split at h
  ·rename_i kds' e2;cases h;unfold eJ at e2;split at e2
   ·rename_i x xs ex exs;cases e2;cases exs;obtain⟨kb,db⟩:=x;refine ha ρ kd d ρ' e1 g σ H _ se λv g1 H1 F1 ev1 se1 r1=>hb ρ' kb db ex (g1.plus F1) σ H1 _ se1 λw H2 s2 r2=>?_;obtain⟨F',c1,c2,c3⟩:=qt (kds:=[(kb,db)]) (vs:=[w]) ev1 se1 r1 s2 r2.one;exact q [v,w] g1 H2 F' c1 c2 c3
   ·cases e2
  ·cases h
 ·cases h
theorem xH{fa fb:Ro->MR}(ha:bt X fa a)(hb:bt X fb b):jW X (λρ=>fX (fa ρ) λρ=>fL (fb ρ) λ_=>some []) a b:=by
 intro ρ kds ρ' h g σ H Q se q;dsimp only[fX] at h;split at h
 ·rename_i kd d ρ1 e1;split at h
  ·cases h
  ·rename_i hbo;split at h
   ·rename_i kds' ρ2 e2;cases h;unfold fL at e2;split at e2
    ·rename_i kb db ρ3 e3;cases e2;refine ha ρ kd d ρ1 e1 g σ H _ se λv g1 H1 F1 ev1 se1 r1=>hb ρ1 kb db ρ' e3 (g1.plus F1) σ H1 _ se1 λw g2 H2 F2 ev2 se2 r2=>?_;have r2':VRL X.K H2 g2 F2 [(kb,db)] [w] F2:=⟨w,[],F2,λ_=>False,rfl,λb=>⟨.inl,λz=>z.elim id λz=>z.elim⟩,λ_ _ z=>z,r2,rfl,λ_ z=>z⟩;obtain⟨c1,c2,c3⟩:=nu (by simpa using hbo) ev1 (r1.im se1.mu) ev2 se2 r2';exact q [v,w] _ H2 _ c1 c2 c3
    ·cases e2
   ·cases h
 ·cases h
noncomputable def f2(f:KD->KD->Option KD):List KD->Option KD
 |[x,y]=>f x y
 |_=>none
theorem n_bin:Strict2 X (f2 (dZ op)) a b (.BinOp a op b pos):=by
 intro kds kd d h σ H Q hA
 match kds,h with
 |[x,y],h=>
  refine aC (yR (tX op) aA aA) (cC hA λvx H1 h1=>cC h1 λvy H2 ⟨g,H0,m,s,r,q⟩=>?_);obtain⟨v,v',e,r1,r2⟩:=r.two;cases e;exact⟨g,H0,x,y,kd,d,m,s,r1,r2,h,λv H' s' r'=>q v H' s' (r'.older s)⟩
theorem Bl(O:aB X Γ c){op:CmpOp}{a b:Expr}{pos:Pos}{fa:Ro->Option (List KD×Ro)}(hm:behindInMarks op b=false)(ha:jW X fa a b):fK X (λρ=>(fa ρ).bind λp=>(match p.1 with|[x,y]=>(bI op x.2 y.2).map λb=>(b,p.2)|_=>none)) (.Compare a [op] [b] pos):=by
 intro ρ bb ρ' h g σ H Q se q;dsimp only at h
 cases e:fa ρ with
 |none=>rw[e] at h;cases h
 |some p=>
  obtain⟨kds,ρ1⟩:=p;rw[e] at h;dsimp only[K2] at h;split at h
  ·rename_i x y;obtain⟨r0,hc,e2⟩:=aS h;cases e2;have hh:w2 X a b σ H (λvs H2=>∀v w,vs=[v,w]->tZ X.K op v w H2 λz H3=>∃k,z=.bl k/\Q k H3):=ha ρ _ _ e g σ H _ se (λvs g1 H1 F ev se1 r=>?_)
   ·refine mZ (pT (jF O.tab.units op) aA aA hm) ?_;show wE X a σ H λvx H1=>wE X b σ H1 λvy H2=>tZ X.K op vx vy H2 λz H3=>∃k,z=.bl k/\Q k H3;exact cC hh λvx H1 h1=>cC h1 λvy H2 h2=>h2 vx vy rfl
   intro v w evs;subst evs;obtain⟨v',w',e3,r1,r2⟩:=r.off.two;cases e3;have cl:=oT (F2:=λ_=>False) ev se1 (Same.refl H1) (λb z=>z.elim) (λb z=>z.elim);exact⟨x.2,y.2,bb,r1.rd,r2.rd,hc,bb,rfl,q g1 H1 cl.1 (by have:=cl.2;rw[aW λ_ z=>z] at this;exact this)⟩
  ·cases h
noncomputable def oV(x y:KD):Option KD:=match x.2 with
 |.nd hd xs=>(match hd with
  |.lst=>(match y.2 with|.int j=>if fw x.1 xs=true then some (.fr bq,.lst (kI xs none (some j))) else none|_=>none)
  |_=>none)
 |_=>none
theorem n_slh{a b:Expr}{p2 pos:Pos}:Strict2 X (f2 oV) a b (.Subscript a (.Slice none (some b) none p2) pos):=by
 intro kds kd d h σ H Q hA
 match kds,h with
 |[x,y],h0=>
  have h:oV x y=some (kd,d):=h0;clear h0;obtain⟨kx,dx⟩:=x;obtain⟨ky,dy⟩:=y
  cases dx with
  |nd hd xs=>cases hd with
   |lst=>cases dy with
    |int j=>
     obtain⟨hk,e⟩:=n9 (show(if fw kx xs=true then some (Kd.fr bq,D.lst (kI xs none (some j))) else none)=some (kd,d) from h)
     cases e;refine aC (jv lR aA pV (pW aA)) (cC hA λvx H1 h1=>cC h1 λvy H2 ⟨g,H0,m,s,r,q⟩=>?_);obtain⟨v,v',e,r1,r2⟩:=r.two;cases e;obtain rfl:=r2.rd.int;obtain⟨p,o,us,rfl,g1,q1,rr⟩:=r1.items hk m s;cases(show o=_ from q1);exact⟨j,rfl,p,us,rfl,.of g1,λp' hp'=>q _ _ (al hp') ((kF hp' (rr.cut none (some j))).older s)⟩
    |_=>cases h
   |_=>cases h
  |_=>cases h
noncomputable def FI:KD->KD->Option KD:=λx y=>rJ (some x) (some y)
theorem Hl(O:aB X Γ c){a b:Expr}{pos:Pos}(hp:cz b=true):Strict2 X (f2 FI) a b (.Subscript a b pos):=by
 intro kds kd d h σ H Q hA
 match kds,h with
 |[x,y],h0=>
  have h:rJ (some x) (some y)=some (kd,d):=h0;clear h0;obtain⟨kx,dx⟩:=x;obtain⟨ky,dy⟩:=y
  have mono:∀{R:V->V->Hp->Prop},(∀vx vy H2 g H0,MuOk H0 (Sg g)->Same H0 H2->VR X.K g H0 H2 kx dx vx->VR X.K g H0 H2 ky dy vy->(∀v H',Same H2 H'->VR X.K g H0 H' kd d v->Q v H')->R vx vy H2)->wE X a σ H λvx H1=>wE X b σ H1 λvy H2=>R vx vy H2:=λk=>
   cC hA λvx H1 h1=>cC h1 λvy H2 ⟨g,H0,m,s,r,q⟩=>by
    obtain⟨v,v',e,r1,r2⟩:=r.two;cases e;exact k vx vy H2 g H0 m s r1 r2 q
  rcases qc h with⟨i,e,hh⟩|⟨p,e,hh⟩
  ·cases(show dy=_ from e);refine aC (pZ lP aA aA (dw hp)) (mono λvx vy H2 g H0 m s rx ry q=>?_);obtain rfl:=ry.rd.int;exact qe hh rx λv r=>q v H2 (Same.refl H2) r
  ·cases hh
theorem n_tup{n:Nat}:StrictOk X (λkds=>gB k (some kds)) es (.Tuple es n pos):=by
 intro kds kd d h σ H Q hA;dsimp only[gB] at h;split at h
 ·split at h
  ·rename_i hz;cases h;refine aC (lL dc) (bO hA λvs H1 ⟨g,H0,m,s1,r1,q⟩=>⟨by rw[r1.len];exact a7 hz.2,λp hp=>?_⟩);exact q _ _ (al hp) (r1.tupO hz.1 m s1 hp)
  ·cases h
 ·split at h
  ·rename_i hz;cases h;refine aC (lL dc) (bO hA λvs H1 ⟨g,H0,m,s1,r1,q⟩=>⟨by rw[r1.len];exact a7 hz.2,λp hp=>?_⟩);exact q _ _ (al hp) ((Az (m.same s1) hp (r1.sh hz.1 m s1)).older s1)
  ·cases h
theorem Hm(O:aB X Γ c){x:Str}{φ:Fn}{e:Expr}{es:List Expr}{p pos:Pos}(hφ:Γ.fn x=some φ)(hg:eM c.sc x=true)(n1:ai e=true)(n2:es.all ai=true):StrictOk X (rR φ) (e::es) (.Call (.Name x p) (e::es) [] pos):=by
 intro kds kd d h σ H Q hA;refine aC (y4 (t:=wA X (e::es)) (λ_ _ _ _=>bO) (O.tab.fn x φ hφ) (ce O hg) dc (ak n1) (bA n2)) (bO hA λvs H1 ⟨g,H0,m,s1,r1,q⟩=>?_);exact l9 X.K h m s1 r1 q
theorem Hn(O:aB X Γ c){x:Str}{φ:Fm}{e:Expr}{es:List Expr}{p pos:Pos}{fa:Ro->Option (List RA×Ro)}(hφ:Γ.fm x=some λK=>zb K φ)(hg:eM c.sc x=true)(n1:ai e=true)(n2:es.all ai=true)(ha:iQ X fa (e::es)) :
  bt X (λρ=>Bg (some φ) (fa ρ)) (.Call (.Name x p) (e::es) [] pos):=by
 intro ρ kd d ρ' h g σ H Q se q;obtain⟨n,fa',fd,ps,F,hr,hm,hk,hb,hdb⟩:=O.tab.fm x _ hφ;dsimp only at h
 cases hf:fa ρ with
 |none=>rw[hf] at h;cases h
 |some pr=>
  obtain⟨ras,ρ1⟩:=pr;rw[hf] at h;refine aC (pU (E:=E0) F hr (ce O hg) hm hk hb .nil tG dc hdb (ak n1) (bA n2)) (ha ρ ras ρ1 hf g σ H _ se λvs g1 H1 Fv ev se1 r1=>?_);rw[LK];exact xE h ev se1 r1 q
noncomputable def rT(i:Nat)(ρ:Ro):MR:=match ρ[i]? with
 |some (some ⟨false,k,d⟩)=>if oC k=true then some (.sh,d,ρ) else some (.fr k,d,ρ.set i none)
 |_=>none
noncomputable def rV(i:Nat)(ρ:Ro):MR:=match ρ[i]? with
 |some (some ⟨false,k,d⟩)=>some (.sh,d,ρ.set i (some ⟨false,.fz,d⟩))
 |_=>none
open Classical in
noncomputable def Gh.off(g:Gh)(i:Nat):Gh:=λb=>if g b=some (some i) then none else g b
theorem lj{g:Gh}{i:Nat}(h:Sg (g.off i) b):Sg g b/\g b≠some (some i):=by
 by_cases n:g b=some (some i)
 ·exact absurd (by unfold Gh.off;rw[if_pos n]) h
 ·refine⟨λz=>h ?_,n⟩;unfold Gh.off;rw[if_neg n];exact z
theorem uL{g:Gh}{i:Nat}(h:g b≠some (some i)):g.off i b=g b:=by unfold Gh.off;rw[if_neg h]
theorem Bm{g:Gh}{i:Nat}(h:g b=some (some i)):g.off i b=none:=by unfold Gh.off;rw[if_pos h]
theorem nA{g:Gh}{i:Nat}(h:g.off i b=some x):g b=some x/\x≠some i:=by
 unfold Gh.off at h;split at h
 ·cases h
 ·rename_i n;exact⟨h,λz=>n (by rw[h,z])⟩
theorem mh{g:Gh}{i:Nat}{F:Pr}(hF:∀b,F b->g b=some (some i)):Evo g H (g.off i) H F:=by
 refine⟨λ_ _ _ e=>e,λb=>⟨λe=>?_,λe=>(nA e).1⟩,λb j e=>.inl ⟨j,(nA e).1⟩,λb z=>⟨Bm (hF b z),.inl ⟨i,hF b z⟩⟩,λ_ o e=>⟨o,e⟩⟩;rw[uL (by rw[e];simp)];exact e
theorem oW{g:Gh}{i:Nat}{F:Pr}{ρ ρ':Ro}{σ:L2.St}(se:SE K g ρ σ H)(hF:∀b,F b->g b=some (some i))(hl:ρ'.length=ρ.length)(hs:∀(j:Nat) sl,ρ'[j]?=some (some sl)->(j≠i/\ρ[j]?=some (some sl))\/(∃v,σ[j]?=some (some v)/\sl.k=.fz/\Rp K H (Sg ((g.off i).plus F)) sl.d v)):SE K ((g.off i).plus F) ρ' σ H:=by
 have sub:∀b,Sg ((g.off i).plus F) b->Sg g b:=λb z=>((ar b).mp z).elim (λz=>(lj z).1) λz=>by rw[Sg,hF b z];simp
 refine⟨λj sl e=>?_,λb z=>se.mu b (sub b z),by rw[hl];exact se.len⟩;rcases hs j sl e with⟨hj,e1⟩|⟨v,e1,e2,e3⟩
 ·obtain⟨v,F0,q1,q2,q3⟩:=se.slot j sl e1;refine⟨v,F0,q1,λb z=>?_,q3.go (λ_ _ _ e=>e) λb o _ n z=>n (sub b z)⟩;have q4:=q2 b z;refine ca ?_ λz2=>by rw[hF b z2] at q4;cases q4;exact hj rfl
  rw[uL (by rw[q4];intro z;cases z;exact hj rfl)];exact q4
 ·obtain⟨lk,k,d⟩:=sl;have e2:k=.fz:=e2;subst e2;exact⟨v,λ_=>False,e1,λb z=>z.elim,.fz e3⟩
theorem fD(O:aB X Γ c){x:Str}{i:Nat}(hc:d3 c x=some i)(pos:Pos){σ:L2.St}{H:Hp}{v:V}{Q:VK}(e:σ[i]?=some (some v))(q:Q v H):wE X (.Name x pos) σ H Q:=by
 unfold d3 at hc;split at hc
 ·rename_i j hj;split at hc
  ·rename_i hv;cases hc;simp only[Ke,l4,L0] at hv;exact aC (oh (i:=i) (by rw[O.N];exact bd hj) (by rw[O.sc];exact lZ hv.1) hv.2.1 hv.2.2) ⟨v,e,q⟩
  ·cases hc
 ·cases hc
theorem Ef(O:aB X Γ c){x:Str}{i:Nat}(hc:d3 c x=some i)(pos:Pos):bt X (rT i) (.Name x pos):=by
 intro ρ kd d ρ' h g σ H Q se q;unfold rT at h;split at h
 ·rename_i k d' e;obtain⟨v,F0,e1,e2,e3⟩:=se.slot i _ e;split at h
  ·rename_i hk;cases h;have hk':=i7 hk;subst hk';refine fD O hc pos e1 (q v g H (λ_=>False) (.refl g H) (by rw[aW λ_ z=>z];exact se) ⟨λ_ z=>z,?_⟩);exact e3.fz_inv.2.weak λb z=>z.elim id λz=>z.elim
  ·cases h;refine fD O hc pos e1 (q v (g.off i) H F0 (mh e2) (oW se e2 (by simp) λj sl e4=>?_) ?_)
   ·by_cases hj:j=i
    ·subst hj
     have hlt:j<ρ.length:=by
      have:=(Kb.mp e4).1;simpa using this
     rw[Kz hlt] at e4;cases e4
    ·rw[Kv (Ne.symm hj)] at e4;exact .inl ⟨hj,e4⟩
   ·show Tr _ _ _ _ _ _ _;exact e3.go (λ_ _ _ e=>e) λb o _ n z=>n (z.elim (λz=>(lj z).1) λz=>by rw[Sg,e2 b z];simp)
 ·cases h
theorem Eg(O:aB X Γ c){x:Str}{i:Nat}(hc:d3 c x=some i)(pos:Pos):bt X (rV i) (.Name x pos):=by
 intro ρ kd d ρ' h g σ H Q se q;unfold rV at h;split at h
 ·rename_i k d' e;cases h;obtain⟨v,F0,e1,e2,e3⟩:=se.slot i _ e;have r:Rp X.K H (Sg ((g.off i).plus λ_=>False)) d v:=e3.rp λb z=>((ar b).mp z).elim (λz=>⟨(lj z).1,λz2=>(lj z).2 (e2 b z2)⟩) λz=>z.elim;refine fD O hc pos e1 (q v (g.off i) H (λ_=>False) (mh λ_ z=>z.elim) (oW se (λ_ z=>z.elim) (by simp) λj sl e4=>?_) ⟨λ_ z=>z,?_⟩)
  ·by_cases hj:j=i
   ·subst hj
    have hlt:j<ρ.length:=by
     have:=(Kb.mp e4).1;simpa using this
    rw[Kz hlt] at e4;cases e4;exact .inr ⟨v,e1,rfl,r⟩
   ·rw[Kv (Ne.symm hj)] at e4;exact .inl ⟨hj,e4⟩
  ·exact r.weak λb z=>(ar b).mpr z
 ·cases h
theorem rW{g g1:Gh}(ev:Evo g H g1 H1 F)(se:SE K (g1.plus F) ρ1 σ H1):Evo g H g1 H1 (λ_=>False)/\SE K g1 ρ1 σ H1:=by
 refine⟨ev.drop λ_ z=>z.elim,?_⟩;have:=se.drop (F2:=λ_=>False) (λ_ z=>z.elim) λb z=>(ev.tmp b z).1;rw[aW λ_ z=>z] at this;exact this
noncomputable def zc(g:Option KD->Option (List Nat×List D))(a:MR):IR:=match a with
 |some (kd,d,ρ1)=>Bh (g (some (dC kd d,d))) ρ1
 |none=>none
theorem Bn{g:Option KD->Option (List Nat×List D)}(h:zc g a=some (bs,ds,ρ1)):∃kd d,a=some (kd,d,ρ1)/\g (some (dC kd d,d))=some (bs,ds):=by
 unfold zc at h;split at h
 ·rename_i kd d ρ2;unfold Bh at h;split at h
  ·rename_i e;cases h;exact⟨kd,d,rfl,e⟩
  ·cases h
 ·cases h
theorem Eh(O:aB X Γ c){fa:Ro->MR}{tg e:Expr}{p pos:Pos}(hg:eM c.sc "range" = true)(hn:ai e=true)(ha:bt X fa e):iR X (λρ=>zc (gH (some (.sh,.int 0))) (fa ρ)) tg (.Call (.Name "range" p) [e] [] pos):=by
 intro ρ bs ds ρ1 h g σ H R se q;obtain⟨kd,d,ea,h⟩:=Bn h;unfold gH at h;split at h
 ·rename_i k1 i k2 j e1 e2;cases e1;cases e2;split at h
  ·rename_i hr;simp only[ee,Ke,decide_eq_true_eq] at hr;cases h;refine gy (kQ (ce O hg) (O.tab.bl _ (by simp[aJ])) (bp aA cV (ak hn)) (ak hn)) (ha ρ _ _ _ ea g σ H _ se λv g1 H1 F ev se1 vr=>?_);obtain rfl:=vr.rd.int;obtain⟨ev2,se2⟩:=rW ev se1;refine⟨j,rfl,hr.1.1.2,hr.1.2,q _ .non g1 H1 ev2 se2 ?_ trivial trivial⟩;unfold cI;rw[Mt];exact AV 0 _
  ·cases h
 ·cases h
end
end J
namespace J
open PySem PySem.Spec L2
section
variable {K:Ka} {H:Hp} {S:Pr}
theorem TrL.focus:∀{ds:List D} {es:List Ow} {r:Ow} {xs:List V} {F:Pr} {j:Nat} {d:D},TrL K H S ds es r xs F->ds[j]?=some d->∃(x:V) (Fj Fr:Pr),xs[j]?=some x/\(∀b,F b↔Fj b\/Fr b)/\(∀b,Fj b->¬Fr b)/\Tr K H S d (es.getD j r) x Fj/\
  ∀(H':Hp) (S':Pr) (d':D) (Fj':Pr),(∀b o,(¬S b\/Fr b)->H b=some o->H' b=some o)->(∀b o,H b=some o->¬S b->¬S' b)->Tr K H' S' d' (es.getD j r) x Fj'->(∀b,Fj' b->¬Fr b)->TrL K H' S' (ds.set j d') es r xs (λb=>Fj' b\/Fr b)
 |[],_,_,_,_,_,_,h,e=>by simp at e
 |d0::ds,es,r,xs,F,0,d,h,e=>by
  unfold TrL at h;obtain⟨y,ys,F1,F2,rfl,hF,dj,h1,h2⟩:=h;simp at e;subst e
  refine⟨y,F1,F2,rfl,hF,dj,by cases es<;>simpa using h1,λH' S' d' Fj' k1 k2 t dj'=>?_⟩
  show TrL K H' S' (d'::ds) es r (y::ys) _;unfold TrL
  exact⟨y,ys,Fj',F2,rfl,λb=>Iff.rfl,dj',by cases es<;>simpa using t,h2.go k1 k2⟩
 |d0::ds,es,r,xs,F,j+1,d,h,e=>by
  unfold TrL at h;obtain⟨y,ys,F1,F2,rfl,hF,dj,h1,h2⟩:=h
  obtain⟨x,Fj,Fr,e1,e2,e3,e4,e5⟩:=TrL.focus h2 (by simpa using e)
  have eg:es.tail.getD j r=es.getD (j+1) r:=by cases es<;>simp
  rw[eg] at e4;refine⟨x,Fj,λb=>F1 b\/Fr b,by simpa using e1,λb=>?_,λb z1 z2=>?_,e4,λH' S' d' Fj' k1 k2 t dj'=>?_⟩
  ·rw[hF b,e2 b];exact⟨λz=>z.elim (λz=>.inr (.inl z)) λz=>z.imp id .inr,λz=>z.elim (λz=>.inr (.inl z)) λz=>z.imp id .inr⟩
  ·rcases z2 with z2|z2
   ·exact dj b z2 ((e2 b).mpr (.inl z1))
   ·exact e3 b z1 z2
  ·show TrL K H' S' (d0::ds.set j d') es r (y::ys) _;unfold TrL;refine⟨y,ys,F1,λb=>Fj' b\/Fr b,rfl,λb=>⟨λz=>z.elim (λz=>.inr (.inl z)) λz=>z.imp id .inr,λz=>z.elim (λz=>.inr (.inl z)) λz=>z.imp id .inr⟩,λb z1 z2=>?_,h1.go (λb o hb e=>k1 b o (hb.imp id .inl) e) k2,e5 H' S' d' Fj' (λb o hb e=>k1 b o (hb.imp id .inr) e) k2 (by rw[eg];exact t) λb z1 z2=>dj' b z1 (.inr z2)⟩;rcases z2 with z2|z2
   ·exact dj' b z2 (.inl z1)
   ·exact dj b z1 ((e2 b).mpr (.inr z2))
noncomputable def FP(K:Ka)(H:Hp)(S:Pr)(k:Ow)(v:V)(F:Pr)(k1:Ow)(d1:D)(v1:V)(up:D->D):Prop:=∃(F1 Fr:Pr),(∀b,F b↔F1 b\/Fr b)/\(∀b,F1 b->¬Fr b)/\Tr K H S d1 k1 v1 F1/\
  ∀(H':Hp) (S':Pr) (d1':D) (F1':Pr),(∀b o,(¬S b\/Fr b)->H b=some o->H' b=some o)->(∀b o,H b=some o->¬S b->¬S' b)->Tr K H' S' d1' k1 v1 F1'->(∀b,F1' b->¬Fr b)->Tr K H' S' (up d1') k v (λb=>F1' b\/Fr b)
theorem FP.root(h:Tr K H S d k v F):FP K H S k v F k d v id:=by
 refine⟨F,λ_=>False,λb=>⟨.inl,λz=>z.elim id λz=>z.elim⟩,λ_ _ z=>z,h,λH' S' d1' F1' k1 k2 t dj=>?_⟩;have eF:(λb=>F1' b\/False)=F1':=by funext b;exact propext ⟨λz=>z.elim id λz=>z.elim,.inl⟩
 rw[eF];exact t
theorem FP.same(h:FP K H S k v F k1 d1 v1 up)(s:Same H H2):FP K H2 S k v F k1 d1 v1 up:=by
 obtain⟨F1,Fr,h1,h2,h3,h4⟩:=h;exact⟨F1,Fr,h1,h2,h3.go (λb o _ e=>s b o e) λ_ _ _ n=>n,λH' S' d1' F1' k1 k2 t dj=>h4 H' S' d1' F1' (λb o hb e=>k1 b o hb (s b o e)) (λb o e n=>k2 b o (s b o e) n) t dj⟩
theorem FP.step{es:List Ow}{ds:List D}{up:D->D}{j:Nat}(h:FP K H S k v F (.own es r) (.nd hd ds) v1 up)(hj:ds[j]?=some d):∃a o xs x,v1=.ref a/\H a=some o/\eL K o hd xs/\xs.length=ds.length/\xs[j]?=some x/\FP K H S k v F (es.getD j r) d x (λz=>up (.nd hd (ds.set j z))):=by
 obtain⟨F1,Fr,h1,h2,h3,h4⟩:=h;unfold Tr at h3;obtain⟨a,o,xs,F',rfl,q1,q2,n1,n2,hF,t⟩:=h3
 obtain⟨x,Fj,Fq,e1,e2,e3,e4,e5⟩:=t.focus hj
 refine⟨a,o,xs,x,rfl,q1,q2,t.len,e1,Fj,λb=>(hd.mu=true/\b=a)\/Fq b\/Fr b,λb=>?_,λb z1 z2=>?_,e4,λH' S' d1' F1' k1 k2 t1 dj'=>?_⟩
 ·rw[h1 b,hF b,e2 b];exact⟨λz=>z.elim (λz=>z.elim (λz=>.inr (.inl z)) λz=>z.imp id λz=>.inr (.inl z)) λz=>.inr (.inr (.inr z)),λz=>z.elim (λz=>.inl (.inr (.inl z))) λz=>z.elim (λz=>.inl (.inl z)) λz=>z.elim (λz=>.inl (.inr (.inr z))) .inr⟩
 ·rcases z2 with⟨hm,rfl⟩|z2|z2
  ·exact n1 hm ((e2 b).mpr (.inl z1))
  ·exact e3 b z1 z2
  ·exact h2 b ((hF b).mpr (.inr ((e2 b).mpr (.inl z1)))) z2
 ·have t3:=e5 H' S' d1' F1' (λb o hb e=>k1 b o (hb.imp id λz=>.inr (.inl z)) e) k2 t1 λb z1 z2=>dj' b z1 (.inr (.inl z2))
  have ha:H' a=some o:=by
   cases hm:hd.mu with
   |true=>exact k1 a o (.inr (.inl ⟨hm,rfl⟩)) q1
   |false=>exact k1 a o (.inl (n2 hm)) q1
  have tn:Tr K H' S' (.nd hd (ds.set j d1')) (.own es r) (.ref a) (λb=>(hd.mu=true/\b=a)\/(F1' b\/Fq b)):=by
   unfold Tr;exact⟨a,o,xs,λb=>F1' b\/Fq b,rfl,ha,q2,λhm z=>z.elim (λz=>dj' a z (.inl ⟨hm,rfl⟩)) λz=>n1 hm ((e2 a).mpr (.inr z)),λhm=>k2 a o q1 (n2 hm),λb=>Iff.rfl,t3⟩
  have t4:=h4 H' S' _ _ (λb o hb e=>k1 b o (hb.imp id λz=>.inr (.inr z)) e) k2 tn λb z1 z2=>by
   rcases z1 with⟨hm,rfl⟩|z1|z1
   ·exact h2 b ((hF b).mpr (.inl ⟨hm,rfl⟩)) z2
   ·exact dj' b z1 (.inr (.inr z2))
   ·exact h2 b ((hF b).mpr (.inr ((e2 b).mpr (.inr z1)))) z2
  have eF:(λb=>((hd.mu=true/\b=a)\/(F1' b\/Fq b))\/Fr b)=λb=>F1' b\/((hd.mu=true/\b=a)\/Fq b\/Fr b):=by
   funext b;exact propext ⟨λz=>z.elim (λz=>z.elim (λz=>.inr (.inl z)) λz=>z.imp id λz=>.inr (.inl z)) λz=>.inr (.inr (.inr z)),λz=>z.elim (λz=>.inl (.inr (.inl z))) λz=>z.elim (λz=>.inl (.inl z)) λz=>z.elim (λz=>.inl (.inr (.inr z))) .inr⟩
  rw[eF] at t4;exact t4
end
noncomputable def zd(hd:Hd)(n:Nat)(x:D):Option Nat:=match hd with
 |.lst=>(match x with|.int z=>iK n z|_=>none)
 |.tup=>(match x with|.int z=>iK n z|_=>none)
 |.dic t ks=>(match kG x with|some k=>if rH t k=true then bN ks k else none|none=>none)
 |.obj _ _=>none
noncomputable def nB(p:Option (Ow×D×(D->D)))(x:Option KD):Option (Ow×D×(D->D)):=match p,x with
 |some (.own es r,.nd hd ds,up),some (_,dx)=>(match zd hd ds.length dx with
  |some j=>(match ds[j]? with|some d=>some (es.getD j r,d,λz=>up (.nd hd (ds.set j z)))|none=>none)
  |none=>none)
 |_,_=>none
noncomputable def jX(o:Option (Option Sl)):Option (Ow×D×(D->D)):=match o with
 |some (some ⟨false,k,d⟩)=>some (k,d,id)
 |_=>none
noncomputable def nC(X:Cx)(i:Nat)(f:Ro->Option (Ow×D×(D->D)))(e:Expr):Prop:=∀ρ k1 d1 up,f ρ=some (k1,d1,up)->∀g σ H Q,SE X.K g ρ σ H->
 (∀v1 H' v F k d,Same H H'->ρ[i]?=some (some ⟨false,k,d⟩)->σ[i]?=some (some v)->(∀b,F b->g b=some (some i))->FP X.K H' (Sg g) k v F k1 d1 v1 up->Q v1 H')->wE X e σ H Q
section
variable {X:Cx} {Γ:gz} {c:Cz}
theorem Bo(O:aB X Γ c){x:Str}{i:Nat}(hc:d3 c x=some i)(pos:Pos):nC X i (λρ=>jX ρ[i]?) (.Name x pos):=by
 intro ρ k1 d1 up h g σ H Q se q;dsimp only[jX] at h;split at h
 ·rename_i k d e;cases h;obtain⟨v,F,e1,e2,e3⟩:=se.slot i _ e;exact fD O hc pos e1 (q v H v F k1 d1 (Same.refl H) e e1 e2 (.root e3))
 ·cases h
theorem Bp(O:aB X Γ c){i:Nat}{fp:Ro->Option (Ow×D×(D->D))}{fb:Ro->Option KD}{a b:Expr}{pos:Pos}(ha:nC X i fp a)(hb:SndE X fb b)(hp:cz b=true):nC X i (λρ=>nB (fp ρ) (fb ρ)) (.Subscript a b pos):=by
 intro ρ k1 d1 up h g σ H Q se q;dsimp only[nB] at h;split at h
 ·rename_i es r hd ds up0 kx dx ep ex;split at h
  ·rename_i j hj;split at h
   ·rename_i dj ej;cases h
    cases hd with
    |lst=>
     refine aC (pZ lP aA aA (dw hp)) (ha ρ _ _ _ ep g σ H _ se λv1 H1 v F k d s1 e1 e2 e3 fp1=>hb ρ _ _ ex g σ H1 _ (se.same s1) λy H2 s2 r2=>?_)
     cases dx with
     |int z=>
      obtain rfl:=r2.rd.int;obtain⟨a',o,xs,x,rfl,q1,q2,l,ex',fp2⟩:=(fp1.same s2).step ej;cases(show o=_ from q2);exact .inl ⟨a',xs,z,x,rfl,rfl,.of q1,by unfold L2.pX;rw[l,(show iK ds.length z=some j from hj)];exact ex',q x H2 v F k d (s1.trans s2) e1 e2 e3 fp2⟩
     |_=>cases hj
    |tup=>
     refine aC (pZ lP aA aA (dw hp)) (ha ρ _ _ _ ep g σ H _ se λv1 H1 v F k d s1 e1 e2 e3 fp1=>hb ρ _ _ ex g σ H1 _ (se.same s1) λy H2 s2 r2=>?_)
     cases dx with
     |int z=>
      obtain rfl:=r2.rd.int;obtain⟨a',o,xs,x,rfl,q1,q2,l,ex',fp2⟩:=(fp1.same s2).step ej;cases(show o=_ from q2);exact .inr (.inl ⟨a',xs,z,x,rfl,rfl,.of q1,by unfold L2.pX;rw[l,(show iK ds.length z=some j from hj)];exact ex',q x H2 v F k d (s1.trans s2) e1 e2 e3 fp2⟩)
     |_=>cases hj
    |dic t ks=>
     simp only[zd] at hj;split at hj
     ·rename_i kk hk;split at hj
      ·rename_i hf;refine aC (wJ (by have:=O.tab.units;lia) aA aA (dw hp)) (ha ρ _ _ _ ep g σ H _ se λv1 H1 v F k d s1 e1 e2 e3 fp1=>hb ρ _ _ ex g σ H1 _ (se.same s1) λy H2 s2 r2=>?_);obtain⟨a',o,xs,x,rfl,q1,q2,l,ex',fp2⟩:=(fp1.same s2).step ej;have dg:=p8 q1 q2 hk r2.rd hf;rw[hj,K2,ex'] at dg;exact⟨a',x,rfl,dg,q x H2 v F k d (s1.trans s2) e1 e2 e3 fp2⟩
      ·cases hj
     ·cases hj
    |obj c ns=>cases hj
   ·cases h
  ·cases h
 ·cases h
end
section
variable {X:Cx}
end
open Classical in
noncomputable def Gh.give(g:Gh)(F:Pr)(i:Nat):Gh:=λb=>if F b then some (some i) else g b
section
variable {K:Ka} {H:Hp} {g:Gh} {F:Pr} {ρ:Ro} {σ:L2.St}
theorem gP{F2:Pr}{i:Nat}(h:F2 b):g.give F2 i b=some (some i):=by unfold Gh.give;rw[if_pos h]
theorem bG{F2:Pr}{i:Nat}(h:¬F2 b):g.give F2 i b=g b:=by unfold Gh.give;rw[if_neg h]
theorem give_S{F2:Pr}{i:Nat}:Sg (g.give F2 i) b↔Sg g b\/F2 b:=by
 by_cases h:F2 b
 ·exact⟨λ_=>.inr h,λ_=>by rw[Sg,gP h];simp⟩
 ·exact⟨λz=>.inl (by rw[Sg,bG h] at z;exact z),λz=>z.elim (λz=>by rw[Sg,bG h];exact z) λz=>absurd z h⟩
structure mi(K:Ka)(H:Hp)(g:Gh)(F:Pr)(ρ:Ro)(σ:L2.St)(i:Nat)(k:Ow)(es:List Ow)(r:Ow)(hd:Hd)(ds:List D)(up:D->D)(a:Addr)(o:HO)(xs:List V)(F':Pr):Prop where
 at_:H a=some o
 ok:eL K o hd xs
 kids:TrL K H (Sg (g.plus F)) ds es r xs F'
 lab:∀b,F' b->g b=some (some i)
 nin:¬F' a
 own:g a=some (some i)
 put:∀(o':HO) (hd':Hd) (ds':List D) (xs':List V) (F2 F3:Pr),hd'.mu=true->eL K o' hd' xs'->(∀xs,o'≠.tup xs)->(∀b,F2 b->F b)->(∀b,F3 b->F' b\/F2 b)->TrL K H (Sg (g.give F2 i)) ds' es r xs' F3->
  SE K (g.give F2 i) (ρ.set i (some ⟨false,k,up (.nd hd' ds')⟩)) σ (upd H a o')
theorem FP.node{i:Nat}{Fi:Pr}{hd:Hd}(se:SE K (g.plus F) ρ σ H)(hg:∀b,F b->g b=none)(e:ρ[i]?=some (some ⟨false,k,d⟩))(hv:σ[i]?=some (some v))(lb:∀b,Fi b->(g.plus F) b=some (some i))(fp:FP K H (Sg (g.plus F)) k v Fi (.own es r) (.nd hd ds) v1 up)(hm:hd.mu=true):∃a o xs F',v1=.ref a/\mi K H g F ρ σ i k es r hd ds up a o xs F':=by
 obtain⟨F1,Fr,h1,h2,h3,h4⟩:=fp;unfold Tr at h3;obtain⟨a,o,xs,F',rfl,q1,q2,n1,n2,hF,t⟩:=h3;have gl:∀b,Fi b->g b=some (some i):=λb z=>bM (lb b z);have ga:g a=some (some i):=gl a ((h1 a).mpr (.inl ((hF a).mpr (.inl ⟨hm,rfl⟩))));have gF:∀b,F' b->g b=some (some i):=λb z=>gl b ((h1 b).mpr (.inl ((hF b).mpr (.inr z))));refine⟨a,o,xs,F',rfl,q1,q2,t,gF,n1 hm,ga,λo' hd' ds' xs' F2 F3 hm' ok' nt s2 s3 t'=>?_⟩;have sub:∀b,Sg (g.give F2 i) b->Sg (g.plus F) b:=λb z=>(ar b).mpr ((give_S.mp z).imp id (s2 b));have kb:∀b o2,b≠a->H b=some o2->upd H a o' b=some o2:=λb o2 n e=>by rw[am n];exact e
 have nF2:∀b,F2 b->g b=none:=λb z=>hg b (s2 b z);have nF3a:¬F3 a:=λz=>(s3 a z).elim (n1 hm) λz=>by rw[nF2 a z] at ga;cases ga
 refine⟨λj sl ej=>?_,λb z=>?_,by simp[se.len]⟩
 ·by_cases hj:j=i
  ·subst hj
   have hlt:j<ρ.length:=by
    have:=(Kb.mp ej).1;simpa using this
   rw[Kz hlt] at ej;cases ej
   have tn:Tr K (upd H a o') (Sg (g.give F2 j)) (.nd hd' ds') (.own es r) (.ref a) (λb=>b=a\/F3 b):=by
    unfold Tr;refine⟨a,o',xs',F3,rfl,aG,ok',λ_=>nF3a,λh=>by (rw[hm'] at h;cases h),λb=>⟨λz=>z.imp (λz=>⟨hm',z⟩) id,λz=>z.imp (λz=>z.2) id⟩,t'.go (λb o2 hb e=>kb b o2 (λz=>?_) e) λ_ _ _ n=>n⟩;subst z;rcases hb with hb|hb
    ·exact hb (give_S.mpr (.inl (by rw[Sg,ga];simp)))
    ·exact nF3a hb
   refine⟨v,_,hv,λb z=>?_,h4 (upd H a o') (Sg (g.give F2 j)) _ _ (λb o2 hb e=>kb b o2 (λz=>?_) e) (λb o2 _ n z=>n (sub b z)) tn λb z1 z2=>?_⟩
   ·rcases z with(rfl|z)|z
    ·rw[bG (λz=>by rw[nF2 b z] at ga;cases ga)];exact ga
    ·by_cases z2:F2 b
     ·exact gP z2
     ·rw[bG z2];exact(s3 b z).elim (gF b) λz=>absurd z z2
    ·have:=gl b ((h1 b).mpr (.inr z));rw[bG (λz=>by rw[nF2 b z] at this;cases this)];exact this
   ·subst z;rcases hb with hb|hb
    ·exact hb ((ar b).mpr (.inl (by rw[Sg,ga];simp)))
    ·exact h2 b ((hF b).mpr (.inl ⟨hm,rfl⟩)) hb
   ·rcases z1 with rfl|z1
    ·exact h2 b ((hF b).mpr (.inl ⟨hm,rfl⟩)) z2
    ·rcases s3 b z1 with z|z
     ·exact h2 b ((hF b).mpr (.inr z)) z2
     ·have:=gl b ((h1 b).mpr (.inr z2));rw[nF2 b z] at this;cases this
  ·rw[Kv (Ne.symm hj)] at ej;obtain⟨w,Fj,e1,e2,e3⟩:=se.slot j sl ej;have gj:∀b,Fj b->g b=some (some j):=λb z=>bM (e2 b z);refine⟨w,Fj,e1,λb z=>?_,e3.go (λb o2 hb e=>kb b o2 (λz=>?_) e) λb o2 _ n z=>n (sub b z)⟩
   ·have:=gj b z;rw[bG (λz=>by rw[nF2 b z] at this;cases this)];exact this
   ·subst z;rcases hb with hb|hb
    ·exact hb ((ar b).mpr (.inl (by rw[Sg,ga];simp)))
    ·rw[gj b hb] at ga;cases ga;exact hj rfl
 ·by_cases hb:b=a
  ·exact⟨o',by rw[hb];exact aG,nt⟩
  ·obtain⟨o2,e2,n⟩:=se.mu b (sub b z);exact⟨o2,kb b o2 hb e2,n⟩
theorem Evo.give{i:Nat}{F2:Pr}(ev:Evo g0 H0 g H F)(s2:∀b,F2 b->F b)(ga:g a=some (some i)):Evo g0 H0 (g.give F2 i) (L2.upd H a o') (λ_=>False):=by
 have nF2:∀b,F2 b->g b=none:=λb z=>(ev.tmp b (s2 b z)).1;refine⟨λb o n e=>?_,λb=>⟨λe=>?_,λe=>?_⟩,λb j e=>?_,λ_ z=>z.elim,λb o e=>?_⟩
 ·rw[am (λz=>?_)]
  ·exact ev.keep b o n e
  ·subst z;rcases ev.new b i ga with⟨j,q⟩|q
   ·exact n j q
   ·rw[e] at q;cases q
 ·have:=(ev.out b).mp e;rw[bG (λz=>by rw[nF2 b z] at this;cases this)];exact this
 ·by_cases z:F2 b
  ·rw[gP z] at e;cases e
  ·rw[bG z] at e;exact(ev.out b).mpr e
 ·by_cases z:F2 b
  ·exact(ev.tmp b (s2 b z)).2
  ·rw[bG z] at e;exact ev.new b j e
 ·by_cases hb:b=a
  ·exact⟨o',by rw[hb];exact aG⟩
  ·obtain⟨o2,q⟩:=ev.dom b o e;exact⟨o2,by rw[am hb];exact q⟩
end
end J
namespace L2
open PySem PySem.Spec PyProof.Rows
section
variable {X:Cx}
end
end L2
namespace J
open PySem PySem.Spec L2
noncomputable def jY(m:Str)(es:List Ow)(r:Ow)(ds:List D)(as:List KD):Option (D×List D):=
 if m="append" then(match as with|[x]=>if es.length<=ds.length/\cw r x=true/\ds.length<100000 then some (.non,ds++[x.2]) else none|_=>none)
 else if m="pop" then(match as with
  |[(_,.int z)]=>if lc (.own es r)=true/\-(2^63)<=z/\z<2^63 then(match seqIndex? z ds.length with|some j=>(ds[j]?).map λd=>(d,ds.eraseIdx j)|none=>none) else none
  |_=>none)
 else none
noncomputable def Bq(m:Str):V->List V->Hp->VK->Prop:=
 if m="append" then p0 else if m="pop" then tD else λ_ _ _ _=>False
section
variable {K:Ka} {H:Hp} {g g0:Gh} {H0:Hp} {F F':Pr} {ρ:Ro} {σ:L2.St} {i:Nat} {k:Ow} {es:List Ow} {r:Ow} {ds:List D} {up:D->D} {a:Addr} {o:HO} {xs:List V}
theorem qA:g.give (λ_=>False) i=g:=by funext b;exact bG λz=>z
theorem TrL.snoc2:∀{ds:List D} {es:List Ow} {r:Ow} {us:List V} {F F2:Pr} {d:D} {v:V},es.length<=ds.length->TrL K H S ds es r us F->Tr K H S d r v F2->(∀b,F b->¬F2 b)->TrL K H S (ds++[d]) es r (us++[v]) (λb=>F b\/F2 b)
 |[],es,r,us,F,F2,d,v,hl,h,t,dj=>by
  have:es=[]:=L5.mp (Nat.le_zero.mp hl);subst this;exact TrL.snoc h t dj
 |e::ds,es,r,us,F,F2,d,v,hl,h,t,dj=>by
  unfold TrL at h;obtain⟨y,ys,F1,F3,rfl,hF,dj1,h1,h2⟩:=h;show TrL K H S (e::(ds++[d])) es r (y::(ys++[v])) _;unfold TrL
  refine⟨y,ys++[v],F1,λb=>F3 b\/F2 b,rfl,λb=>?_,λb z1 z2=>?_,h1,TrL.snoc2 (by cases es<;>simp at hl⊢;lia) h2 t λb z=>dj b ((hF b).mpr (.inr z))⟩
  ·show F b\/F2 b↔F1 b\/F3 b\/F2 b;rw[hF b,or_assoc]
  ·rcases z2 with z2|z2
   ·exact dj1 b z1 z2
   ·exact dj b ((hF b).mpr (.inl z1)) z2
theorem TrL.ofFlat:∀{ds:List D} {es:List Ow} {xs:List V},(∀e∈es,e=.fz)->RpL K H S ds xs->TrL K H S ds es .fz xs λ_=>False
 |[],_,_,_,h=>by unfold TrL;exact⟨h.nil_inv,λ_ z=>z⟩
 |d::ds,es,_,he,h=>by
  obtain⟨y,ys,rfl,r,t⟩:=h.cons_inv;unfold TrL
  refine⟨y,ys,_,_,rfl,λb=>⟨.inl,λz=>z.elim id id⟩,λ_ z=>z.elim,?_,TrL.ofFlat (λe q=>he e (by cases es with|nil=>cases q|cons a r=>exact .tail _ q)) t⟩
  have e:es.headD .fz=.fz:=by
   cases es with
   |nil=>rfl
   |cons a r=>exact he a (.head _)
  rw[e];exact Tr.fz r
theorem gQ{m:Str}{Q:VK}(h:jY m es r ds as=some (d',ds'))(nd:mi K H g F ρ σ i k es r .lst ds up a o xs F')(ev:Evo g0 H0 g H F)(se:SE K (g.plus F) ρ σ H)(ra:VRL K H g F as vs F)(q:∀v g' H' Fv,Evo g0 H0 g' H' Fv->SE K (g'.plus Fv) (ρ.set i (some ⟨false,k,up (.lst ds')⟩)) σ H'->VR1 K H' g' Fv .sh d' v Fv->Q v H'):Bq m (.ref a) vs H Q:=by
 have ho:o=.lst xs:=nd.ok;subst ho;have hF:∀b,F b->g b=none:=λb z=>(ev.tmp b z).1;have mm:MuOk H (Sx g F):=λb z=>se.mu b ((ar b).mpr z);have sx:∀b,Sg (g.plus F) b↔Sx g F b:=λb=>ar b
 -- behind the change
 have fin:∀{xs':List V} {F2 F3:Pr} {v:V},(∀b,F2 b->F b)->(∀b,F3 b->F' b\/F2 b)->TrL K H (Sg (g.give F2 i)) ds' es r xs' F3->Rp K (upd H a (.lst xs')) (Sg (g.give F2 i)) d' v->Q v (upd H a (.lst xs')):=λ{xs' F2 F3 v} s2 s3 t rv=>by
  refine q v (g.give F2 i) _ (λ_=>False) (ev.give s2 nd.own) ?_ ⟨λ_ z=>z,rv.weak λb z=>z.elim id λz=>z.elim⟩;rw[aW λ_ z=>z];exact nd.put (.lst xs') .lst ds' xs' F2 F3 rfl rfl (λ_ h=>by cases h) s2 s3 t
 have old:∀{F2:Pr},(∀b,F2 b->F b)->∀b o,H b=some o->¬Sg (g.plus F) b->¬Sg (g.give F2 i) b:=λs2 b o _ n z=>n ((ar b).mpr ((give_S.mp z).imp id (s2 b)))
 have flat:lc (.own es r)=true->(∀e∈es,e=.fz)/\r=.fz/\RpL K H (Sg g) ds xs:=λhf=>by
  obtain⟨he,hr⟩:=p7 hf;refine⟨he,hr,?_⟩;have:=nd.kids;rw[hr] at this;exact(this.flat he).2.weak λb z=>(ar b).mpr (.inl z)
 have rpU:∀{d:D} {v:V} {xs':List V},Rp K H (Sg g) d v->Rp K (upd H a (.lst xs')) (Sg g) d v:=λr=>r.go λb o n e=>⟨by rw[am (λz=>n (by rw[z,Sg,nd.own];simp))];exact e,n⟩;unfold jY at h;unfold Bq;split at h
 ·rename_i hm;rw[if_pos hm];split at h
  ·rename_i x;split at h
   ·rename_i hc;cases h;obtain⟨y,ys,F1,F2',rfl,hF1,dj,r1,rfl,hn⟩:=ra;have e1:∀b,F b↔F1 b:=λb=>⟨λz=>((hF1 b).mp z).elim id λz=>absurd z (hn b),λz=>(hF1 b).mpr (.inl z)⟩;obtain⟨F2,a1,a2⟩:=VR1.fit hc.2.1 mm (λb z=>hF b ((e1 b).mpr z)) (λb z=>(e1 b).mpr z) r1;refine⟨a,xs,y,rfl,rfl,nd.at_,by rw[nd.kids.len];exact Km hc.2.2 (a7 (Ki _)),?_⟩;refine fin (F2:=F2) (F3:=λb=>F' b\/F2 b) (λb z=>(e1 b).mpr (a1 b z)) (λb z=>z) (TrL.snoc2 hc.1 (nd.kids.go (λ_ _ _ e=>e) (old λb z=>(e1 b).mpr (a1 b z))) (a2 _ λb z=>?_) λb z1 z2=>?_) (by unfold Rp;rfl)
    ·rcases give_S.mp z with z|z
     ·exact .inr (.inl z)
     ·exact .inr (.inr (.inl z))
    ·have:=nd.lab b z1;rw[hF b ((e1 b).mpr (a1 b z2))] at this;cases this
   ·cases h
  ·cases h
 ·rename_i hm;rw[if_neg hm];split at h
  ·rename_i hm4;rw[if_pos hm4];split at h
   ·rename_i kz z;split at h
    ·rename_i hc;obtain⟨he,hr,rl⟩:=flat hc.1;subst hr;obtain⟨v,rfl,rv⟩:=ra.off.one;obtain rfl:=rv.rd.int;split at h
     ·rename_i j hj;obtain⟨dd,hd',e⟩:=aS h;cases e;obtain⟨y,ey,ry⟩:=rl.getD hd';refine⟨a,xs,z,j,y,rfl,rfl,nd.at_,hc.2.1,hc.2.2,by rw[rl.len];exact hj,ey,?_⟩;exact fin (F2:=λ_=>False) (F3:=λ_=>False) (λ_ z=>z.elim) (λ_ z=>z.elim) (by rw[qA];exact .ofFlat he (rl.erase _)) (by rw[qA];exact rpU ry)
     ·cases h
    ·cases h
   ·cases h
  ·cases h
end
noncomputable def mNames:List Str:=["append","pop"]
noncomputable def eW(m:Str)(i:Nat)(p:Option (Ow×D×(D->D)))(as:Option (List KD))(ρ:Ro):MR:=match p,as with
 |some (.own es r,.nd .lst ds,up),some as=>(match jY m es r ds as,ρ[i]? with
  |some (d',ds'),some (some ⟨false,k,_⟩)=>some (.sh,d',ρ.set i (some ⟨false,k,up (.lst ds')⟩))
  |_,_=>none)
 |_,_=>none
section
variable {X:Cx} {Γ:gz} {c:Cz}
theorem mj{m:Str}(hm:m∈mNames):∃id,Slot "list" m id/\typeOf (.builtin id)=pure (.type "method_descriptor")/\FE X id (Bq m):=by
 simp only[mNames,Kn,K1,or_false] at hm;rcases hm with rfl|rfl
 ·exact⟨_,PySem.F.slot_list_append,PySem.F.type_list_append,kY⟩
 ·exact⟨_,PySem.F.slot_list_pop,PySem.F.type_list_pop,tE⟩
theorem Br{i:Nat}{m:Str}{ap cp:Pos}{fp:Ro->Option (Ow×D×(D->D))}(hm:m∈mNames)(hp:nC X i fp b)(hb:fJ b=true)(hl:(ap.endLine==cp.line)=true):bt X (λρ=>eW m i (fp ρ) (some []) ρ) (.Call (.Attribute b m ap) [] [] cp):=by
 intro ρ kd d ρ' h g σ H Q se q;dsimp only[eW] at h;split at h
 ·rename_i es r ds up as ep ea;cases ea;split at h
  ·rename_i d' ds' k dd em ei;cases h;obtain⟨mid,s1,s2,s3⟩:=mj (X:=X) hm;refine aC (Aj PySem.F.plainAttrs_list s1 s2 s3 aA (gC hb) hl) (hp ρ _ _ _ ep g σ H _ se λv1 H1 v F k0 d0 sm e1 e2 e3 f1=>?_);rw[ei] at e1;cases e1;have se1:SE X.K (g.plus λ_=>False) ρ σ H1:=by rw[aW λ_ z=>z];exact se.same sm
   have eg:g.plus (λ_=>False)=g:=aW λ_ z=>z;obtain⟨a,o,xs,F',rfl,nd⟩:=FP.node (F:=λ_=>False) se1 (λ_ z=>z.elim) ei e2 (by rw[eg];exact e3) (by rw[eg];exact f1) rfl;have ho:o=.lst xs:=nd.ok;subst ho;exact⟨.inl ⟨rfl,xs,.of nd.at_⟩,gQ em nd (cK sm (λ_ z=>z.elim) λ_ z=>z.elim) se1 ⟨rfl,λ_ z=>z⟩ q⟩
  ·cases h
 ·cases h
theorem xI(h:ai e=true)(h':ai e'=true):((backTo cp (starEach [e,e'] env)).all (λx=>!x.1)&&(backToKw cp (keywordEach [] env)).all (λx=>x.1.isSome)
      && decide ([e,e'].length+([]:List Keyword).length+(if([]:List Keyword).isEmpty then 0 else 1)<30))=true:=by
  rw[ak h,ak h'];rfl
theorem Bs{i:Nat}{m:Str}{ap cp:Pos}{fp:Ro->Option (Ow×D×(D->D))}{fa:Ro->Option (List KD)}(hm:m∈mNames)(hp:nC X i fp b)(ha:iY X fa [e,e'])(hb:fJ b=true)(hn:ai e=true)(hn':ai e'=true)(hl:(ap.endLine==cp.line)=true):bt X (λρ=>eW m i (fp ρ) (fa ρ) ρ) (.Call (.Attribute b m ap) [e,e'] [] cp):=by
 intro ρ kd d ρ' h g σ H Q se q;dsimp only[eW] at h;split at h
 ·rename_i es r ds up as ep ea;split at h
  ·rename_i d' ds' k dd em ei;cases h;obtain⟨mid,s1,s2,s3⟩:=mj (X:=X) hm;refine aC (tB PySem.F.plainAttrs_list s1 s2 s3 aA dc (gC hb) (xI hn hn') hl (ak hn) (by rw[ak hn'];rfl)) (hp ρ _ _ _ ep g σ H _ se λv1 H1 v F k0 d0 sm e1 e2 e3 f1=>?_);rw[ei] at e1;cases e1;have eg:g.plus (λ_=>False)=g:=aW λ_ z=>z
   have sq:∃xs,SqL X.K H1 (match v1 with|.ref a=>a|_=>0) xs/\∃a,v1=.ref a:=by
    obtain⟨a,o,xs,F',rfl,nd⟩:=FP.node (F:=λ_=>False) (by rw[eg];exact se.same sm) (λ_ z=>z.elim) ei e2 (by rw[eg];exact e3) (by rw[eg];exact f1) rfl;have ho:o=.lst xs:=nd.ok;subst ho;exact⟨xs,.of nd.at_,a,rfl⟩
   obtain⟨xs0,sq1,a0,rfl⟩:=sq;refine⟨.inl ⟨rfl,xs0,sq1⟩,ha ρ as ea g σ H1 _ (se.same sm) λys H2 s2' r2=>?_⟩;obtain⟨Fy,y1,y2⟩:=r2;have sy:=(se.same sm).plus s2' y1 y2.dom;have hgy:∀b,Fy b->g b=none:=λb z=>eA (se.same sm).mu (y1 b z)
   have f3:FP X.K H2 (Sg (g.plus Fy)) k v F (.own es r) (.lst ds) (.ref a0) up:=by
    obtain⟨F1,Fr,q1,q2,q3,q4⟩:=f1;have k2:∀b o,H1 b=some o->¬Sg g b->¬Sg (g.plus Fy) b:=λb o e n z=>((ar b).mp z).elim n λz=>by rw[y1 b z] at e;cases e
    refine⟨F1,Fr,q1,q2,q3.go (λb o _ e=>s2' b o e) k2,λH' S' d1' F1' t1 t2 t3 t4=>q4 H' S' d1' F1' (λb o hb e=>t1 b o (hb.imp (λn=>k2 b o e n) id) (s2' b o e)) (λb o e n=>t2 b o (s2' b o e) (k2 b o e n)) t3 t4⟩
   obtain⟨a,o,xs,F',e4,nd⟩:=FP.node (F:=Fy) sy hgy ei e2 (λb z=>ca (e3 b z) λz2=>by have:=e3 b z;rw[hgy b z2] at this;cases this) f3 rfl;cases e4;exact gQ em nd (cK (sm.trans s2') (λb z=>sm.free (y1 b z)) hgy) sy y2 q
  ·cases h
 ·cases h
theorem Bt{i:Nat}{m:Str}{b e:Expr}{ap cp:Pos}{fp:Ro->Option (Ow×D×(D->D))}{fa:Ro->Option KD}(hm:m∈mNames)(hp:nC X i fp b)(ha:SndE X fa e)(hb:fJ b=true)(hn:ai e=true)(hl:(ap.endLine==cp.line)=true):bt X (λρ=>eW m i (fp ρ) (eJ (fa ρ) (some [])) ρ) (.Call (.Attribute b m ap) [e] [] cp):=by
 intro ρ kd d ρ' h g σ H Q se q;dsimp only[eW] at h;split at h
 ·rename_i es r ds up as ep ea;split at h
  ·rename_i d' ds' k dd em ei;cases h;obtain⟨mid,s1,s2,s3⟩:=mj (X:=X) hm;refine aC (tB PySem.F.plainAttrs_list s1 s2 s3 aA (bp aA cV (ak hn)) (gC hb) (ue hn) hl (ak hn) rfl) (hp ρ _ _ _ ep g σ H _ se λv1 H1 v F k0 d0 sm e1 e2 e3 f1=>?_);rw[ei] at e1;cases e1;unfold eJ at ea;split at ea
   ·rename_i x xs' ex exs;cases exs;cases ea;obtain⟨kx,dx⟩:=x;have eg:g.plus (λ_=>False)=g:=aW λ_ z=>z
    have sq:∃xs,SqL X.K H1 (match v1 with|.ref a=>a|_=>0) xs/\∃a,v1=.ref a:=by
     obtain⟨a,o,xs,F',rfl,nd⟩:=FP.node (F:=λ_=>False) (by rw[eg];exact se.same sm) (λ_ z=>z.elim) ei e2 (by rw[eg];exact e3) (by rw[eg];exact f1) rfl;have ho:o=.lst xs:=nd.ok;subst ho;exact⟨xs,.of nd.at_,a,rfl⟩
    obtain⟨xs0,sq1,a0,rfl⟩:=sq;refine⟨.inl ⟨rfl,xs0,sq1⟩,ha ρ kx dx ex g σ H1 _ (se.same sm) λy H2 s2' r2=>?_⟩;obtain⟨Fy,y1,y2⟩:=r2;have sy:=(se.same sm).plus s2' y1 y2.dom;have hgy:∀b,Fy b->g b=none:=λb z=>eA (se.same sm).mu (y1 b z);have f2':=f1.same s2'
    have f3:FP X.K H2 (Sg (g.plus Fy)) k v F (.own es r) (.lst ds) (.ref a0) up:=by
     obtain⟨F1,Fr,q1,q2,q3,q4⟩:=f1;have k2:∀b o,H1 b=some o->¬Sg g b->¬Sg (g.plus Fy) b:=λb o e n z=>((ar b).mp z).elim n λz=>by rw[y1 b z] at e;cases e
     refine⟨F1,Fr,q1,q2,q3.go (λb o _ e=>s2' b o e) k2,λH' S' d1' F1' t1 t2 t3 t4=>q4 H' S' d1' F1' (λb o hb e=>t1 b o (hb.imp (λn=>k2 b o e n) id) (s2' b o e)) (λb o e n=>t2 b o (s2' b o e) (k2 b o e n)) t3 t4⟩
    obtain⟨a,o,xs,F',e4,nd⟩:=FP.node (F:=Fy) sy hgy ei e2 (λb z=>ca (e3 b z) λz2=>by have:=e3 b z;rw[hgy b z2] at this;cases this) f3 rfl;cases e4;exact gQ em nd (cK (sm.trans s2') (λb z=>sm.free (y1 b z)) hgy) sy ⟨y,[],Fy,λ_=>False,rfl,λb=>⟨.inl,λz=>z.elim id λz=>z.elim⟩,λ_ _ z=>z,y2,rfl,λ_ z=>z⟩ q
   ·cases ea
  ·cases h
 ·cases h
noncomputable def nD(m:Str)(i:Nat)(o:Option (Option Sl))(a:MR):MR:=match o,a with
 |some (some ⟨false,.own _ _,.nd .lst _⟩),some (kd,d,ρ1)=>eW m i (jX ρ1[i]?) (some [(dC kd d,d)]) ρ1
 |_,_=>none
theorem Bu(O:aB X Γ c){i:Nat}{m x:Str}{p:Pos}{e:Expr}{ap cp:Pos}{fa:Ro->MR}(hm:m∈mNames)(hc:d3 c x=some i)(ha:bt X fa e)(hb:fJ (.Name x p)=true)(hn:ai e=true)(hl:(ap.endLine==cp.line)=true):bt X (λρ=>nD m i ρ[i]? (fa ρ)) (.Call (.Attribute (.Name x p) m ap) [e] [] cp):=by
 intro ρ kd d ρ' h g σ H Q se q;dsimp only[nD] at h;split at h
 ·rename_i es0 r0 ds0 kx dx ρ1 ei ex;obtain⟨mid,s1,s2,s3⟩:=mj (X:=X) hm;obtain⟨v,F,e1,e2,e3⟩:=se.slot i _ ei;have e3':=e3;unfold Tr at e3';obtain⟨a0,o0,xs0,F0',rfl,g1,q1,_⟩:=e3';have q1:o0=.lst xs0:=q1;subst q1;refine aC (tB PySem.F.plainAttrs_list s1 s2 s3 aA (bp aA cV (ak hn)) (gC hb) (ue hn) hl (ak hn) rfl) (fD O hc p e1 ⟨.inl ⟨rfl,xs0,.of g1⟩,ha ρ kx dx ρ1 ex g σ H _ se λy g1 H1 F1 ev se1 r1=>?_⟩);unfold eW at h;split at h
  ·rename_i es r ds up as ep ea;cases ea;split at h
   ·rename_i d' ds' k dd em ei1;cases h;have:jX ρ1[i]?=some (k,dd,id):=by rw[ei1];rfl
    rw[this] at ep;cases ep;obtain⟨w,Fi,w1,w2,w3⟩:=se1.slot i _ ei1;rw[e1] at w1;cases w1;obtain⟨a,o,xs,F',e4,nd⟩:=FP.node (F:=F1) se1 (λb z=>(ev.tmp b z).1) ei1 e1 w2 (.root w3) rfl;cases e4;exact gQ em nd ev se1 ⟨y,[],F1,λ_=>False,rfl,λb=>⟨.inl,λz=>z.elim id λz=>z.elim⟩,λ_ _ z=>z,r1.im se1.mu,rfl,λ_ z=>z⟩ q
   ·cases h
  ·cases h
 ·cases h
end
end J
namespace J
open PySem PySem.Spec L2
section
variable {X:Cx} {Γ:gz} {c:Cz}
end
end J
namespace J
open PySem PySem.Spec L2
noncomputable abbrev gR:Pr:=λ_=>False
noncomputable def frzI(i:Nat)(ρ:Ro):Ro:=match ρ[i]? with
 |some (some ⟨false,.own _ _,.nd hd ds⟩)=>if hd.mu=true then ρ.set i (some ⟨false,.own [] .fz,.nd hd ds⟩) else ρ
 |_=>ρ
noncomputable def frzN:List Nat->Ro->Ro
 |[],ρ=>ρ
 |i::is,ρ=>frzN is (if 1000<=i then frzI (i-1000) ρ else match ρ[i]? with|some (some ⟨false,k,d⟩)=>ρ.set i (some ⟨false,.fz,d⟩)|_=>ρ)
open Classical in
theorem SE.frzI(i:Nat)(se:SE K g ρ σ H):∃g',SE K g' (frzI i ρ) σ H/\Evo g H g' H gR:=by
 unfold J.frzI;split
 ·rename_i es r hd ds e;split
  ·rename_i hm;obtain⟨v,F0,e1,e2,e3⟩:=se.slot i _ e;have e3:Tr K H (Sg g) (.nd hd ds) (.own es r) v F0:=e3;unfold Tr at e3;obtain⟨a,o,xs,F',rfl,q1,q2,n1,n2,hF,t⟩:=e3;have lab:∀b,F' b->g b=some (some i):=λb z=>e2 b ((hF b).mpr (.inr z));have la:g a=some (some i):=e2 a ((hF a).mpr (.inl ⟨hm,rfl⟩))
   let g':Gh:=λb=>if F' b then none else g b
   have g1:∀b,¬F' b->g' b=g b:=λb h=>if_neg h;have g2:∀b,F' b->g' b=none:=λb h=>if_pos h
   have sub:∀b,Sg g' b->Sg g b/\¬F' b:=λb z=>by
    by_cases h:F' b
    ·exact absurd (g2 b h) z
    ·exact⟨by rw[Sg,<- g1 b h];exact z,h⟩
   refine⟨g',⟨λj sl ej=>?_,λb z=>se.mu b (sub b z).1,by rw[MQ];exact se.len⟩,⟨λ_ _ _ e=>e,λb=>⟨λz=>?_,λz=>?_⟩,λb j z=>.inl ⟨j,?_⟩,λ_ z=>z.elim,λ_ o e=>⟨o,e⟩⟩⟩
   ·by_cases hj:j=i
    ·subst hj;have hlt:j<ρ.length:=by have:=(Kb.mp ej).1;simpa using this
     rw[Kz hlt] at ej;cases ej;refine⟨.ref a,λb=>b=a,e1,λb z=>by rw[z,g1 a (n1 hm)];exact la,?_⟩;show Tr K H (Sg g') (.nd hd ds) (.own [] .fz) (.ref a) _;unfold Tr;exact⟨a,o,xs,λ_=>False,rfl,q1,q2,λ_ z=>z,(λh=>by rw[hm] at h;cases h),λb=>⟨λz=>.inl ⟨hm,z⟩,λz=>z.elim (λz=>z.2) λz=>z.elim⟩,.ofFz (t.rp sub)⟩
    ·rw[Kv (Ne.symm hj)] at ej;obtain⟨v,Fj,k1,k2,k3⟩:=se.slot j sl ej;refine⟨v,Fj,k1,λb z=>?_,k3.go (λ_ _ _ e=>e) λb o _ n z=>n (sub b z).1⟩;have:=k2 b z;rw[g1 b λh=>by rw[lab b h] at this;cases this;exact hj rfl];exact this
   ·rw[g1 b λh=>by rw[lab b h] at z;cases z];exact z
   ·by_cases h:F' b
    ·rw[g2 b h] at z;cases z
    ·rw[g1 b h] at z;exact z
   ·by_cases h:F' b
    ·rw[g2 b h] at z;cases z
    ·rw[g1 b h] at z;exact z
  ·exact⟨g,se,.refl g H⟩
 ·exact⟨g,se,.refl g H⟩
theorem SE.frz1{g:Gh}{ρ:Ro}{i:Nat}(se:SE K g ρ σ H)(e:ρ[i]?=some (some ⟨false,k,d⟩)):SE K (g.off i) (ρ.set i (some ⟨false,.fz,d⟩)) σ H/\Evo g H (g.off i) H gR:=by
 obtain⟨v,F0,e1,e2,e3⟩:=se.slot i _ e;have r:Rp K H (Sg ((g.off i).plus gR)) d v:=e3.rp λb z=>((ar b).mp z).elim (λz=>⟨(lj z).1,λz2=>(lj z).2 (e2 b z2)⟩) λz=>z.elim
 have:=oW (ρ':=ρ.set i (some ⟨false,.fz,d⟩)) (F:=gR) se (λ_ z=>z.elim) (by simp) λj sl e4=>(by
  by_cases hj:j=i
  ·subst hj
   have hlt:j<ρ.length:=by
    have:=(Kb.mp e4).1;simpa using this
   rw[Kz hlt] at e4;cases e4;exact .inr ⟨v,e1,rfl,r⟩
  ·rw[Kv (Ne.symm hj)] at e4;exact .inl ⟨hj,e4⟩)
 rw[aW λ_ z=>z] at this;exact⟨this,mh λ_ z=>z.elim⟩
theorem SE.frzN{H:Hp}:∀(is:List Nat) {g:Gh} {ρ:Ro},SE K g ρ σ H->∃g',SE K g' (frzN is ρ) σ H/\Evo g H g' H gR
 |[],g,ρ,se=>⟨g,se,.refl g H⟩
 |i::is,g,ρ,se=>by
  unfold J.frzN;by_cases hi:1000<=i
  ·rw[if_pos hi];obtain⟨g1,s1,e1⟩:=se.frzI (i-1000);obtain⟨g2,s2,e2⟩:=SE.frzN is s1;exact⟨g2,s2,jU e1 e2⟩
  rw[if_neg hi];split
  ·rename_i k d e;obtain⟨s1,e1⟩:=se.frz1 e;obtain⟨g2,s2,e2⟩:=SE.frzN is s1;exact⟨g2,s2,jU e1 e2⟩
  ·exact SE.frzN is se
inductive BP where
 |nm (i:Nat)
 |ix (b:BP) (e:IE)
 |fld (b:BP) (f:Str)
noncomputable def BP.slot:BP->Nat
 |.nm i=>i
 |.ix b _=>b.slot
 |.fld b _=>b.slot
noncomputable def ll(Γ:Nat->Option Fn):BP->Ro->Option (Ow×D×(D->D))
 |.nm i,ρ=>jX ρ[i]?
 |.ix b e,ρ=>nB (ll Γ b ρ) (af Γ e ρ)
 |.fld b f,ρ=>none
mutual
inductive ME where
 |p (e:IE)
 |mv (i:Nat)
 |fz (i:Nat)
 |io (f:Nat) (as:MAs)
 |fn (f:Nat) (as:hV)
 |blt (x:Str) (as:hV)
 |tup (k:Ow) (as:hV)
 |lst (k:Ow) (as:hV)
 |bin (op:Operator) (as:hV)
 |cmp (op:CmpOp) (as:hV)
 |ix (as:hV)
 |slh (as:hV)
 |ifx (t:MT) (a b:ME)
 |comp (r:Ow) (cap:List (Option Nat)) (tg:IT) (it:MI) (ts:MO) (elt:ME)
 |mut (m:Str) (b:BP) (as:fW)
 |mutM (m:Str) (i:Nat) (a:ME)
 |mutMs (m:Str) (i:Nat) (as:hV)
 |sdf (i:Nat) (k b:IE)
inductive MI where
 |p (it:II)
 |e (a:ME)
 |enm (a:ME)
 |rng (a:ME)
inductive MAs where
 |nil
 |ref (i:Nat) (r:MAs)
 |val (a:ME) (r:MAs)
inductive hV where
 |fin (a:ME) (r:fW)
 |cons (a:ME) (r:hV)
inductive MT where
 |p (e:IE)
 |cmp (op:CmpOp) (as:hV)
 |not (t:MT)
 |bool (op:BoolOp) (ts:FJ)
 |tru (a:ME)
 |vw (is:List Nat) (e:IE)
inductive FJ where
 |one (t:MT)
 |cons (t:MT) (r:FJ)
inductive MO where
 |non
 |som (t:MT)
end
noncomputable def oS(f:List KD->Option KD)(a:Option (List KD×Ro)):MR:=match a with
 |some (kds,ρ)=>(match f kds with|some (kd,d)=>some (kd,d,ρ)|none=>none)
 |none=>none
noncomputable def ze(op:CmpOp)(a:Option (List KD×Ro)):Option (Bool×Ro):=match a with
 |some ([x,y],ρ)=>(match bI op x.2 y.2 with|some b=>some (b,ρ)|none=>none)
 |_=>none
noncomputable def FK(a:Option KD)(ρ:Ro):MR:=match a with|some (kd,d)=>some (kd,d,ρ)|none=>none
noncomputable def Ho(a:Option Bool)(ρ:Ro):Option (Bool×Ro):=match a with|some b=>some (b,ρ)|none=>none
noncomputable def Bv(op:BoolOp)(a:Option (Bool×Ro))(r:Ro->Option (Bool×Ro)):Option (Bool×Ro):=match a with
 |some (x,ρ)=>if(op==.And)=x then r ρ else some (x,ρ)
 |none=>none
structure GG where
 fn:Nat->Option Fn
 fm:Nat->Option Fm
mutual
noncomputable def aP(Γ:GG):ME->Ro->MR
 |.p e,ρ=>FK (af Γ.fn e ρ) ρ
 |.mv i,ρ=>rT i ρ
 |.fz i,ρ=>rV i ρ
 |.io f as,ρ=>Bg (Γ.fm f) (dh Γ as ρ)
 |.fn f as,ρ=>(match Γ.fn f with|some φ=>oS (rR φ) (aY Γ as ρ)|none=>none)
 |.blt x as,ρ=>oS (dR x) (aY Γ as ρ)
 |.tup k as,ρ=>oS (λkds=>gB k (some kds)) (aY Γ as ρ)
 |.lst k as,ρ=>none
 |.bin op as,ρ=>oS (f2 (dZ op)) (aY Γ as ρ)
 |.cmp op as,ρ=>none
 |.ix as,ρ=>oS (f2 FI) (aY Γ as ρ)
 |.slh as,ρ=>oS (f2 oV) (aY Γ as ρ)
 |.ifx t a b,ρ=>none
 |.comp r cap tg it ts elt,ρ=>f7 r (cx Γ it ρ) (eV cap tg (jZ Γ ts) (aP Γ elt)) cap
 |.mut m b as,ρ=>eW m b.slot (ll Γ.fn b ρ) (aR Γ.fn as ρ) ρ
 |.mutM m i a,ρ=>nD m i ρ[i]? (aP Γ a ρ)
 |.mutMs m i as,ρ=>none
 |.sdf i k b,ρ=>none
noncomputable def cx(Γ:GG):MI->Ro->IR
 |.p it,ρ=>Bh (dU Γ.fn it ρ) ρ
 |.e a,ρ=>none
 |.enm a,ρ=>none
 |.rng a,ρ=>zc (gH (some (.sh,.int 0))) (aP Γ a ρ)
noncomputable def dh(Γ:GG):MAs->Ro->Option (List RA×Ro)
 |.nil,ρ=>some ([],ρ)
 |.ref i r,ρ=>qu i ρ[i]? (dh Γ r ρ)
 |.val a r,ρ=>qw (aP Γ a ρ) (dh Γ r)
noncomputable def aY(Γ:GG):hV->Ro->Option (List KD×Ro)
 |.fin a r,ρ=>fL (aP Γ a ρ) (aR Γ.fn r)
 |.cons a r,ρ=>fX (aP Γ a ρ) (aY Γ r)
noncomputable def bB(Γ:GG):MT->Ro->Option (Bool×Ro)
 |.p e,ρ=>Ho (ba Γ.fn e ρ) ρ
 |.vw is e,ρ=>none
 |.cmp op as,ρ=>ze op (aY Γ as ρ)
 |.not t,ρ=>none
 |.bool op ts,ρ=>none
 |.tru a,ρ=>none
noncomputable def zf(Γ:GG)(op:BoolOp):FJ->Ro->Option (Bool×Ro)
 |.one t,ρ=>bB Γ t ρ
 |.cons t r,ρ=>Bv op (bB Γ t ρ) (zf Γ op r)
noncomputable def jZ(Γ:GG):MO->Ro->Option (Bool×Ro)
 |.non,ρ=>some (true,ρ)
 |.som t,ρ=>bB Γ t ρ
end
section
theorem uM{Γ:GG}:aP Γ (.p e) ρ=FK (af Γ.fn e ρ) ρ:=rfl
theorem Bw:aP Γ (.mv i) ρ=rT i ρ:=rfl
theorem Bx:aP Γ (.fz i) ρ=rV i ρ:=rfl
theorem oX{Γ:GG}:aP Γ (.io f as) ρ=Bg (Γ.fm f) (dh Γ as ρ):=rfl
theorem oY{Γ:GG}:aP Γ (.fn f as) ρ=(match Γ.fn f with|some φ=>oS (rR φ) (aY Γ as ρ)|none=>none):=rfl
theorem xJ:aP Γ (.blt x as) ρ=oS (dR x) (aY Γ as ρ):=rfl
theorem xK:aP Γ (.tup k as) ρ=oS (λkds=>gB k (some kds)) (aY Γ as ρ):=rfl
theorem xL:aP Γ (.bin op as) ρ=oS (f2 (dZ op)) (aY Γ as ρ):=rfl
theorem By:aP Γ (.ix as) ρ=oS (f2 FI) (aY Γ as ρ):=rfl
theorem xM:aP Γ (.slh as) ρ=oS (f2 oV) (aY Γ as ρ):=rfl
theorem nE:aP Γ (.comp r cap tg it ts elt) ρ=f7 r (cx Γ it ρ) (eV cap tg (jZ Γ ts) (aP Γ elt)) cap:=rfl
theorem fF{Γ:GG}:aP Γ (.mut m b as) ρ=eW m b.slot (ll Γ.fn b ρ) (aR Γ.fn as ρ) ρ:=rfl
theorem uN:aP Γ (.mutM m i a) ρ=nD m i ρ[i]? (aP Γ a ρ):=rfl
end
theorem eC{f:Ro->MR}(h:∀ρ,f ρ=none):bt X f e:=λρ kd d ρ' hh=>by rw[h] at hh;cases hh
theorem nG{f:Ro->Option (Bool×Ro)}(h:∀ρ,f ρ=none):fK X f e:=λρ kd d hh=>by rw[h] at hh;cases hh
theorem qB{f:Ro->IR}(h:∀ρ,f ρ=none):iR X f tg e:=λρ bs ds ρ' hh=>by rw[h] at hh;cases hh
noncomputable def ln(f:Expr->Option ME)(g:Expr->Option IE):List Expr->Option hV
 |[]=>none
 |e::es=>if ai e then(match dL g es with
  |some r=>(f e).map λa=>.fin a r
  |none=>(match f e,ln f g es with|some a,some r=>some (.cons a r)|_,_=>none)) else none
noncomputable def zg(c:Cz)(f:Expr->Option ME):List Bool->List Expr->Option MAs
 |_,[]=>some .nil
 |true::fl,.Name x _::es=>(match d3 c x,zg c f fl es with|some i,some r=>some (.ref i r)|_,_=>none)
 |fl,e::es=>if ai e then(match f e,zg c f fl.tail es with|some a,some r=>some (.val a r)|_,_=>none) else none
noncomputable def uO(c:Cz)(f:Expr->Option ME)(it:Option II)(tg iter:Expr):Option MI:=match it with
 |some it=>some (.p it)
 |none=>match iter with
  |.Call (.Name x _) [a] [] _=>
   if x="range" then(if eM c.sc "range" && ai a then(f a).map .rng else none)
   else if x="enumerate" then(if eM c.sc "enumerate" && ai a&&iO tg then(f a).map .enm else none)
   else(f iter).map .e
  |_=>(f iter).map .e
noncomputable def Hq(f:Expr->Option MT):List Expr->Option FJ
 |[]=>none
 |[e]=>(f e).map .one
 |e::es=>match f e,Hq f es with|some a,some r=>some (.cons a r)|_,_=>none
noncomputable def zh(c:Cz)(f:Expr->Option IE):Nat->Expr->Option BP
 |0,_=>none
 |n+1,e=>match e with
  |.Name x _=>(d3 c x).map .nm
  |.Subscript a b _=>if cz b then(match zh c f n a,f b with|some p,some e=>some (.ix p e)|_,_=>none) else none
  |_=>none
noncomputable def Ei(m:Str)(b:Expr)(ap cp:Pos):Bool:=mNames.contains m&&fJ b&&(ap.endLine==cp.line)
noncomputable def Hr(fns:Nms)(c:Cz)(x:Str)(p:Pos):Option ME:=match fns.md p.line p.col with
 |none=>none
 |some true=>(d3 c x).map .mv
 |some false=>(d3 c x).map .fz
noncomputable def Hs(fns:Nms)(c:Cz)(fM:Expr->Option ME)(fE:Expr->Option IE)(x:Str)(as:List Expr):Option ME:=match as with
 |[]=>none
 |a::es=>if eM c.sc x&&(a::es).all ai then(match bF x fns.fns with
  |some i=>(match fns.io i with
   |some fl=>(zg c fM fl (a::es)).map (.io i)
   |none=>(ln fM fE (a::es)).map (.fn i))
  |none=>(ln fM fE (a::es)).map (.blt x)) else none
noncomputable def Bz(c:Cz)(fE:Expr->Option IE)(b:Expr)(m:Str)(ap cp:Pos)(e e2:Expr):Option ME:=if m="setdefault" then(match b with
 |.Name x p=>if fJ (.Name x p)=true/\ai e=true/\ai e2=true/\(ap.endLine==cp.line)=true then(match d3 c x,fE e,fE e2 with|some i,some k,some d=>some (.sdf i k d)|_,_,_=>none) else none
 |_=>none) else none
noncomputable def Ej(c:Cz)(fM:Expr->Option ME)(fE:Expr->Option IE)(b:Expr)(m:Str)(ap cp:Pos)(as:List Expr):Option ME:=match as with
 |[]=>if Ei m b ap cp then(zh c fE 6 b).map λp=>.mut m p .nil else none
 |e::es=>match es with
  |e2::es2=>(match es2 with
   |_::_=>none
   |[]=>match Bz c fE b m ap cp e e2 with
    |some r=>some r
    |none=>if Ei m b ap cp&&(ai e&&ai e2) then(match fE e with
    |some a1=>(match fE e2 with|some a2=>(zh c fE 6 b).map λp=>.mut m p (.cons a1 (.cons a2 .nil))|none=>none)
    |none=>(match b with|.Name x _=>(match d3 c x,ln fM fE [e,e2] with|some i,some as=>some (.mutMs m i as)|_,_=>none)|_=>none)) else none)
  |[]=>if Ei m b ap cp&&ai e then(match fE e with
   |some e'=>(zh c fE 6 b).map λp=>.mut m p (.cons e' .nil)
   |none=>(match b with|.Name x _=>(match d3 c x,fM e with|some i,some a=>some (.mutM m i a)|_,_=>none)|_=>none)) else none
noncomputable def Ht(fns:Nms)(c:Cz)(fM:Expr->Option ME)(fE:Expr->Option IE)(g:Expr)(as:List Expr)(ks:List Keyword)(cp:Pos):Option ME:=match ks with
 |_::_=>none
 |[]=>match g with
  |.Name x _=>Hs fns c fM fE x as
  |.Attribute b m ap=>Ej c fM fE b m ap cp as
  |_=>none
noncomputable def rX{α:Type}(k:CmpOp->hV->α)(fM:Expr->Option ME)(fE:Expr->Option IE)(a:Expr)(ops:List CmpOp)(bs:List Expr):Option α:=match ops with
 |[]=>none
 |op::ops=>match ops with
  |_::_=>none
  |[]=>match bs with
   |[]=>none
   |b::bs=>match bs with
    |_::_=>none
    |[]=>if behindInMarks op b then none else(ln fM fE [a,b]).map (k op)
noncomputable def jd(f:Expr->Option MT):List Expr->Option MO
 |[]=>some .non
 |[e]=>(f e).map .som
 |_=>none
noncomputable def rY(fns:Nms)(c:Cz)(fM:Cz->Expr->Option ME)(fE:Cz->Expr->Option IE)(fT:Cz->Expr->Option MT)(elt:Expr)(gs:List Comprehension)(scope:Scope)(p:Pos):Option ME:=match gs with
 |[]=>none
 |g::gs=>match gs with
  |_::_=>none
  |[]=>if g.is_async=0 then(if eh g.iter&&bP c scope then(match oe ⟨fU scope c.sc,au scope,gA scope⟩ 4 g.target,uO c (fM c) (A5 c (fE c) g.target g.iter) g.target g.iter,jd (fT ⟨fU scope c.sc,au scope,gA scope⟩) g.ifs,fM ⟨fU scope c.sc,au scope,gA scope⟩ elt with
    |some t,some it,some ts,some el=>some (.comp ((fns.an p.line p.col).getD .fz) (aK c scope) t it ts el)|_,_,_,_=>none) else none) else none
noncomputable def BA:Expr->Option Expr
 |.Slice none (some hi) none _=>some hi
 |_=>none
theorem xN(h:BA b=some hi):∃p,b=.Slice none (some hi) none p:=by
 unfold BA at h;split at h
 ·cases h;exact⟨_,rfl⟩
 ·cases h
mutual
noncomputable def cM(fns:Nms):Nat->Cz->Expr->Option ME
 |0,_,_=>none
 |n+1,c,e=>match cE fns n c e with
  |some ie=>some (.p ie)
  |none=>match e with
   |.Name x p=>Hr fns c x p
   |.Call g as ks cp=>Ht fns c (cM fns n c) (cE fns n c) g as ks cp
   |.Tuple es _ p=>(ln (cM fns n c) (cE fns n c) es).map (.tup (fns.kT p))
   |.List es p=>(ln (cM fns n c) (cE fns n c) es).map (.lst (fns.kL p))
   |.BinOp a op b _=>(ln (cM fns n c) (cE fns n c) [a,b]).map (.bin op)
   |.Compare a ops bs _=>rX ME.cmp (cM fns n c) (cE fns n c) a ops bs
   |.Subscript a b _=>if cz b then(ln (cM fns n c) (cE fns n c) [a,b]).map .ix else(match BA b with|some hi=>(ln (cM fns n c) (cE fns n c) [a,hi]).map .slh|none=>none)
   |.IfExp t a b _=>match sJ fns n c t,cM fns n c a,cM fns n c b with|some t,some a,some b=>some (.ifx t a b)|_,_,_=>none
   |.ListComp elt gs scope p=>rY fns c (cM fns n) (cE fns n) (sJ fns n) elt gs scope p
   |_=>none
noncomputable def sJ(fns:Nms):Nat->Cz->Expr->Option MT
 |0,_,_=>none
 |n+1,c,e=>match cT fns n c e with
  |some ie=>(match fns.vw e.pos.line e.pos.col with|[]=>some (.p ie)|i::is=>some (.vw (i::is) ie))
  |none=>match e with
   |.Compare a ops bs _=>rX MT.cmp (cM fns n c) (cE fns n c) a ops bs
   |.UnaryOp op a _=>(match op with|.Not=>(sJ fns n c a).map .not|_=>none)
   |.BoolOp op es _=>(Hq (sJ fns n c) es).map (.bool op)
   |.Call f as ks p=>(cM fns n c (.Call f as ks p)).map .tru
   |.Subscript a b p=>(cM fns n c (.Subscript a b p)).map .tru
   |.Name x p=>(cM fns n c (.Name x p)).map .tru
   |.Constant k j p=>(cM fns n c (.Constant k j p)).map .tru
   |_=>none
end
noncomputable def kN(fns:Nms)(Γ:GG):Str->Option (Ka->Sp):=λx=>(bF x fns.fns).bind λi=>(Γ.fm i).map λφ=>λK=>zb K φ
noncomputable abbrev cX(fns:Nms)(Γ:GG):gz:=cg fns Γ.fn (kN fns Γ)
section
variable {X:Cx} {c:Cz} (fns:Nms) (Γ:GG)
theorem oZ(O:aB X (cg fns Γ.fn fm) c){f:Expr->Option ME}{fe:Expr->Option IE}(hf:∀e a,f e=some a->bt X (aP Γ a) e)(hE:∀e ie,fe e=some ie->SndE X (af Γ.fn ie) e){tg iter:Expr}{it:MI}(h:uO c f (A5 c fe tg iter) tg iter=some it):iR X (cx Γ it) tg iter:=by
 have pl:∀{it:MI},(f iter).map MI.e=some it->iR X (cx Γ it) tg iter:=λh=>by
  obtain⟨a,ha,rfl⟩:=aS h
  first|(refine qB λρ=>?_;rw[cx];done)|(rw[show cx Γ (.e a)=λρ=>zc l8 (aP Γ a ρ) by funext ρ;rw[cx]];exact s_imE (hf _ _ ha))
 unfold uO at h;split at h
 ·rename_i it' hit;cases h
  first|(refine qB λρ=>?_;rw[cx];done)|(rw[show cx Γ (.p it')=λρ=>Bh (dU Γ.fn it' ρ) ρ by funext ρ;rw[cx]];exact(uF fns Γ.fn O hE hit).m)
 ·split at h
  ·rename_i x p a pos _;split at h
   ·rename_i hx;subst hx;split at h
    ·rename_i hg;rw[Ke] at hg;obtain⟨a',ha,rfl⟩:=aS h
     first|(refine qB λρ=>?_;rw[cx];done)|(rw[show cx Γ (.rng a')=λρ=>zc (gH (some (.sh,.int 0))) (aP Γ a' ρ) by funext ρ;rw[cx]];exact Eh O hg.1 hg.2 (hf _ _ ha))
    ·cases h
   ·split at h
    ·rename_i hx;subst hx;split at h
     ·rename_i hg;rw[Ke,Ke] at hg;obtain⟨a',ha,rfl⟩:=aS h
      first|(refine qB λρ=>?_;rw[cx];done)|(rw[show cx Γ (.enm a')=λρ=>zc m9 (aP Γ a' ρ) by funext ρ;rw[cx]];exact s_imEnm O hg.1.1 hg.1.2 hg.2 (hf _ _ ha))
     ·cases h
    ·exact pl h
  ·exact pl h
theorem dM(f:List KD->Option KD)(fa:Ro->Option (List KD×Ro)):(λρ=>oS f (fa ρ))=λρ=>(fa ρ).bind λp=>(f p.1).map λq=>(q.1,q.2,p.2):=by
 funext ρ;unfold oS
 cases fa ρ with
 |none=>rfl
 |some p=>
  obtain⟨kds,ρ'⟩:=p;dsimp only[K2]
  cases f kds with
  |none=>rfl
  |some q=>rfl
theorem BB(h:SndE X (af Γ.fn ie) e):bt X (aP Γ (.p ie)) e:=by
 have:=h.m
 rw[show(λρ=>(af Γ.fn ie ρ).map λp=>(p.1,p.2,ρ))=aP Γ (.p ie) by funext ρ;rw[uM];unfold FK;cases af Γ.fn ie ρ<;>rfl] at this
 exact this
theorem lp{f:Expr->Option ME}{g:Expr->Option IE}(hf:∀e a,f e=some a->bt X (aP Γ a) e)(hg:∀e a,g e=some a->SndE X (af Γ.fn a) e):∀{es:List Expr} {as:hV},ln f g es=some as->nv X (aY Γ as) es
 |[],as,h=>by cases h
 |e::es,as,h=>by
  unfold ln at h;split at h
  ·rename_i hn;split at h
   ·rename_i r hr;obtain⟨a,ha,rfl⟩:=aS h
    rw[show aY Γ (.fin a r)=λρ=>fL (aP Γ a ρ) (aR Γ.fn r) by funext ρ;conv=>lhs;rw[aY]]
    exact Bf hn (hf _ _ ha) (fC Γ.fn hg hr).1
   ·split at h
    ·rename_i a r ha hr;cases h
     rw[show aY Γ (.cons a r)=λρ=>fX (aP Γ a ρ) (aY Γ r) by funext ρ;conv=>lhs;rw[aY]]
     exact xC hn (hf _ _ ha) (lp hf hg hr)
    ·cases h
  ·cases h
theorem lq{f:Expr->Option ME}{g:Expr->Option IE}(hf:∀e a,f e=some a->bt X (aP Γ a) e)(hg:∀e a,g e=some a->SndE X (af Γ.fn a) e){a b:Expr}{as:hV}(h:ln f g [a,b]=some as):jW X (aY Γ as) a b:=by
 unfold ln at h;split at h
 ·rename_i hn;split at h
  ·rename_i r hr;obtain⟨a',ha,rfl⟩:=aS h;unfold dL dL at hr;split at hr
   ·split at hr
    ·rename_i b' r' hb' hr';cases hr;cases hr'
     rw[show aY Γ (.fin a' (.cons b' .nil))=λρ=>fL (aP Γ a' ρ) λρ=>eJ (af Γ.fn b' ρ) (some []) by
      funext ρ;simp only[aY,aR]
      try rfl]
     exact Bk (hf _ _ ha) (hg _ _ hb')
    ·cases hr
   ·cases hr
  ·split at h
   ·rename_i a' r ha hr;cases h;unfold ln at hr;split at hr
    ·split at hr
     ·rename_i r' hr';cases hr';obtain⟨b',hb,rfl⟩:=aS hr
      rw[show aY Γ (.cons a' (.fin b' .nil))=λρ=>fX (aP Γ a' ρ) λρ=>fL (aP Γ b' ρ) λ_=>some [] by
       funext ρ;simp only[aY,aR]
       try rfl]
      exact xH (hf _ _ ha) (hf _ _ hb)
     ·rename_i q;exact absurd q (by simp[dL])
    ·cases hr
   ·cases h
 ·cases h
theorem BC(O:aB X Γt c){f:Expr->Option ME}(hf:∀e a,f e=some a->bt X (aP Γ a) e):∀{fl:List Bool} {es:List Expr} {as:MAs},zg c f fl es=some as->iQ X (dh Γ as) es
 |fl,[],as,h=>by
  have:as=.nil:=by
   unfold zg at h;cases h;rfl
  subst this;rw[show dh Γ .nil=λρ=>some ([],ρ) by funext ρ;rw[dh]];exact Ea
 |fl,e::es,as,h=>by
  have val:∀{fl':List Bool} {as:MAs},(if ai e then(match f e,zg c f fl' es with|some a,some r=>some (MAs.val a r)|_,_=>none) else none)=some as->iQ X (dh Γ as) (e::es):=λh=>by
   split at h
   ·rename_i hn;split at h
    ·rename_i a r ha hr;cases h
     rw[show dh Γ (.val a r)=λρ=>qw (aP Γ a ρ) (dh Γ r) by funext ρ;conv=>lhs;rw[dh]]
     exact Ec hn (hf _ _ ha) (BC O hf hr)
    ·cases h
   ·cases h
  unfold zg at h;split at h
  ·rename_i q;cases q
  ·rename_i fl' x p es' q;cases q;split at h
   ·rename_i i r hi hr;cases h
    rw[show dh Γ (.ref i r)=λρ=>qu i ρ[i]? (dh Γ r ρ) by funext ρ;conv=>lhs;rw[dh]]
    exact Eb O hi (BC O hf hr)
   ·cases h
  ·rename_i fl' e' es' q;cases q;exact val h
theorem bH(a:Evo g H g1 H1 (λ_=>False))(b:Evo g1 H1 g2 H2 F2):Evo g H g2 H2 F2:=by
 have t:=a.trans (F1:=λ_=>False) (g2:=g2) (H2:=H2) (F2:=F2) (by rw[aW λ_ z=>z];exact b);have e1:g2.minus (λ_=>False)=g2:=by funext c;exact bJ λz=>z
 rw[e1] at t;exact t.drop λc z=>.inr z
theorem rZ(O:aB X Γt c){f:Expr->Option IE}(hf:∀e a,f e=some a->SndE X (af Γ.fn a) e):∀(n:Nat) {e:Expr} {b:BP},zh c f n e=some b->nC X b.slot (ll Γ.fn b) e
 |0,e,b,h=>by cases h
 |n+1,e,b,h=>by
  unfold zh at h;split at h
  ·rename_i x p;obtain⟨i,hi,rfl⟩:=aS h;exact Bo O hi p
  ·rename_i a b' p;split at h
   ·rename_i hp;split at h
    ·rename_i q e' hq he;cases h;exact Bp O (rZ O hf n hq) (hf _ _ he) hp
    ·cases h
   ·cases h
  ·cases h
theorem o3{m:Str}{ap cp:Pos}(h:Ei m b ap cp=true):m∈mNames/\fJ b=true/\(ap.endLine==cp.line)=true:=by
 simp only[Ei,Ke] at h;exact⟨by simpa using h.1.1,h.1.2,h.2⟩
theorem Hu{x:Str}(O:aB X (cX fns Γ) c)(h:Hr fns c x p=some a):bt X (aP Γ a) (.Name x p):=by
 unfold Hr at h;split at h
 ·cases h
 ·obtain⟨i,hi,rfl⟩:=aS h
  first|(exact eC λ_=>rfl)|(rw[show aP Γ (.mv i)=rT i from funext λ_=>rfl];exact Ef O hi p)
 ·obtain⟨i,hi,rfl⟩:=aS h
  first|(exact eC λ_=>rfl)|(rw[show aP Γ (.fz i)=rV i from funext λ_=>rfl];exact Eg O hi p)
theorem Ek(O:aB X (cX fns Γ) c){fM:Expr->Option ME}(hM:∀e a,fM e=some a->bt X (aP Γ a) e){x:Str}{p pos:Pos}{a':Expr}{es:List Expr}{fl:List Bool}{i:Nat}{a:ME}(h:(zg c fM fl (a'::es)).map (.io i)=some a)(h1:eM c.sc x=true)(h2:ai a'=true)(h3:es.all ai=true)(hi:bF x fns.fns=some i):bt X (aP Γ a) (.Call (.Name x p) (a'::es) [] pos):=by
 obtain⟨as,ha,rfl⟩:=aS h
 first
  |(exact eC λ_=>rfl)
  |(cases hφ:Γ.fm i with
   |none=>
    intro ρ kd d ρ' hh;rw[oX,hφ] at hh;cases hh
   |some φ=>
    rw[show aP Γ (.io i as)=λρ=>Bg (some φ) (dh Γ as ρ) by funext ρ;rw[oX,hφ]];refine Hn O (φ:=φ) ?_ h1 h2 h3 (BC Γ O hM ha);show kN fns Γ x=_;unfold kN;rw[hi,K2,hφ];rfl)
theorem Hv(O:aB X (cX fns Γ) c){fM:Expr->Option ME}{fE:Expr->Option IE}(hM:∀e a,fM e=some a->bt X (aP Γ a) e)(hE:∀e ie,fE e=some ie->SndE X (af Γ.fn ie) e){x:Str}{p:Pos}{as:List Expr}{pos:Pos}{a:ME}(h:Hs fns c fM fE x as=some a):bt X (aP Γ a) (.Call (.Name x p) as [] pos):=by
 cases as with
 |nil=>cases h
 |cons a' es=>
  dsimp only[Hs] at h;split at h
  ·rename_i hg;rw[Ke,Lq,Ke] at hg;split at h
   ·rename_i i hi;split at h
    ·rename_i fl hfl;exact Ek fns Γ O hM h hg.1 hg.2.1 hg.2.2 hi
    ·obtain⟨as,ha,rfl⟩:=aS h
     first
     |(exact eC λ_=>rfl)
     |cases hφ:Γ.fn i with
      |none=>
       intro ρ kd d ρ' hh;rw[oY,hφ] at hh;cases hh
      |some φ=>
       rw[show aP Γ (.fn i as)=λρ=>oS (rR φ) (aY Γ as ρ) by funext ρ;rw[oY,hφ],dM];refine(Hm O (φ:=φ) ?_ hg.1 hg.2.1 hg.2.2).m (lp Γ hM hE ha);show(bF x fns.fns).bind Γ.fn=_;rw[hi];exact hφ
   ·obtain⟨as,ha,rfl⟩:=aS h
    first|(exact eC λ_=>rfl)|(rw[show aP Γ (.blt x as)=λρ=>oS (dR x) (aY Γ as ρ) by exact funext λ_=>rfl,dM];exact(m8 O x a' es p pos (ce O hg.1) hg.2.1 hg.2.2).m (lp Γ hM hE ha))
  ·cases h
theorem BD(O:aB X (cX fns Γ) c){fE:Expr->Option IE}(hE:∀e ie,fE e=some ie->SndE X (af Γ.fn ie) e){b e e2:Expr}{m:Str}{ap cp:Pos}{a:ME}(h:Bz c fE b m ap cp e e2=some a):bt X (aP Γ a) (.Call (.Attribute b m ap) [e,e2] [] cp):=by
 unfold Bz at h;split at h
 ·rename_i hm;subst hm;split at h
  ·split at h
   ·rename_i hh;split at h
    ·rename_i i k d h1 h2 h3;cases h
     first|(exact eC λ_=>rfl)|(rw[show aP Γ (.sdf i k d)=λρ=>oSdf i (af Γ.fn k ρ) (af Γ.fn d ρ) ρ from funext λ_=>rfl];exact s_sdf O h1 hh.1 hh.2.1 hh.2.2.1 hh.2.2.2 (hE _ _ h2) (hE _ _ h3))
    ·cases h
   ·cases h
  ·cases h
 ·cases h
theorem Hw(O:aB X (cX fns Γ) c){fM:Expr->Option ME}{fE:Expr->Option IE}(hM:∀e a,fM e=some a->bt X (aP Γ a) e)(hE:∀e ie,fE e=some ie->SndE X (af Γ.fn ie) e){b:Expr}{m:Str}{ap cp:Pos}{as:List Expr}{a:ME}(h:Ej c fM fE b m ap cp as=some a):bt X (aP Γ a) (.Call (.Attribute b m ap) as [] cp):=by
 cases as with
 |nil=>
  dsimp only[Ej] at h;split at h
  ·rename_i hk;obtain⟨h1,h2,h3⟩:=o3 hk;obtain⟨p,hp,rfl⟩:=aS h
   first|(exact eC λ_=>rfl)|(rw[show ∀m,aP Γ (.mut m p .nil)=λρ=>eW m p.slot (ll Γ.fn p ρ) (some []) ρ by intro m;funext ρ;rw[fF,aR]];exact Br h1 (rZ Γ O hE _ hp) h2 h3)
  ·cases h
 |cons e es=>cases es with
  |cons e2 es2=>cases es2 with
   |cons _ _=>cases h
   |nil=>
    dsimp only[Ej] at h;split at h
    ·rename_i r hr;cases h;exact BD fns Γ O hE hr
    split at h
    ·rename_i hk;rw[Ke,Ke] at hk;obtain⟨h1,h2,h3⟩:=o3 hk.1;split at h
     ·rename_i a1 he1;split at h
      ·rename_i a2 he2;obtain⟨p,hp,rfl⟩:=aS h
       first|(exact eC λ_=>rfl)|(rw[show ∀m,aP Γ (.mut m p (.cons a1 (.cons a2 .nil)))=λρ=>eW m p.slot (ll Γ.fn p ρ) (eJ (af Γ.fn a1 ρ) (eJ (af Γ.fn a2 ρ) (some []))) ρ by intro m;funext ρ;rw[fF,aR,aR,aR]];exact Bs h1 (rZ Γ O hE _ hp) (l6 hk.2.1 (hE _ _ he1) (l6 hk.2.2 (hE _ _ he2) p9)) h2 hk.2.1 hk.2.2 h3)
      ·cases h
     ·split at h
      ·split at h
       ·rename_i i as hi ha;cases h
        first|(exact eC λ_=>rfl)|(rw[show ∀m,aP Γ (.mutMs m i as)=λρ=>oMutMs m i ρ[i]? (aY Γ as ρ) by intro m;exact funext λ_=>rfl];exact s_mutMs O h1 hi (lp Γ hM hE ha) h2 hk.2.1 hk.2.2 h3)
       ·cases h
      ·cases h
    ·cases h
  |nil=>
   dsimp only[Ej] at h;split at h
   ·rename_i hk;rw[Ke] at hk;obtain⟨h1,h2,h3⟩:=o3 hk.1;split at h
    ·rename_i e' he;obtain⟨p,hp,rfl⟩:=aS h
     first|(exact eC λ_=>rfl)|(rw[show ∀m,aP Γ (.mut m p (.cons e' .nil))=λρ=>eW m p.slot (ll Γ.fn p ρ) (eJ (af Γ.fn e' ρ) (some [])) ρ by intro m;funext ρ;rw[fF,aR,aR]];exact Bt h1 (rZ Γ O hE _ hp) (hE _ _ he) h2 hk.2 h3)
    ·split at h
     ·split at h
      ·rename_i i a' hi ha;cases h
       first|(exact eC λ_=>rfl)|(rw[show ∀m,aP Γ (.mutM m i a')=λρ=>nD m i ρ[i]? (aP Γ a' ρ) by intro m;exact funext λ_=>rfl];exact Bu O h1 hi (hM _ _ ha) h2 hk.2 h3)
      ·cases h
     ·cases h
   ·cases h
theorem Hx(O:aB X (cX fns Γ) c){fM:Expr->Option ME}{fE:Expr->Option IE}(hM:∀e a,fM e=some a->bt X (aP Γ a) e)(hE:∀e ie,fE e=some ie->SndE X (af Γ.fn ie) e){g:Expr}{as:List Expr}{ks:List Keyword}{pos:Pos}{a:ME}(h:Ht fns c fM fE g as ks pos=some a):bt X (aP Γ a) (.Call g as ks pos):=by
 cases ks with
 |cons _ _=>cases h
 |nil=>
  dsimp only[Ht] at h;split at h
  ·exact Hv fns Γ O hM hE h
  ·exact Hw fns Γ O hM hE h
  ·cases h
theorem qC{α:Type}{k:CmpOp->hV->α}{fM:Expr->Option ME}{fE:Expr->Option IE}{a:Expr}{ops:List CmpOp}{bs:List Expr}{r:α}(h:rX k fM fE a ops bs=some r):∃op b as,ops=[op]/\bs=[b]/\behindInMarks op b=false/\ln fM fE [a,b]=some as/\r=k op as:=by
 cases ops with
 |nil=>cases h
 |cons op ops=>cases ops with
  |cons _ _=>cases h
  |nil=>cases bs with
   |nil=>cases h
   |cons b bs=>cases bs with
    |cons _ _=>cases h
    |nil=>
     dsimp only[rX] at h;split at h
     ·cases h
     ·rename_i hm;obtain⟨as,ha,rfl⟩:=aS h;exact⟨op,b,as,rfl,rfl,by simpa using hm,ha,rfl⟩
theorem qD{fM:Cz->Expr->Option ME}{fE:Cz->Expr->Option IE}{fT:Cz->Expr->Option MT}{p:Pos}(h:rY fns c fM fE fT elt gs scope p=some a):∃tg iter ifs t it ts el,gs=[⟨tg,iter,ifs,0⟩]/\eh iter=true/\bP c scope=true/\oe ⟨fU scope c.sc,au scope,gA scope⟩ 4 tg=some t/\uO c (fM c) (A5 c (fE c) tg iter) tg iter=some it/\jd (fT ⟨fU scope c.sc,au scope,gA scope⟩) ifs=some ts/\fM ⟨fU scope c.sc,au scope,gA scope⟩ elt=some el/\a=.comp ((fns.an p.line p.col).getD .fz) (aK c scope) t it ts el:=by
 cases gs with
 |nil=>cases h
 |cons g gs=>cases gs with
  |cons _ _=>cases h
  |nil=>
   dsimp only[rY] at h;split at h
   ·rename_i h0;split at h
    ·rename_i hn;rw[Ke] at hn;split at h
     ·rename_i t it ts el ht hit hts hel;cases h
      cases g with
      |mk tg iter ifs as=>
       subst h0;exact⟨tg,iter,ifs,t,it,ts,el,rfl,hn.1,hn.2,ht,hit,hts,hel,rfl⟩
     ·cases h
    ·cases h
   ·cases h
theorem BE(O:aB X Γt c){op:CmpOp}{as:hV}{x b:Expr}{p:Pos}(hm:behindInMarks op b=false)(h:jW X (aY Γ as) x b):fK X (bB Γ (.cmp op as)) (.Compare x [op] [b] p):=by
  first
    |(refine nG λρ=>?_;rw[bB];done)
    | (have:=Bl (pos:=p) O hm h
       have e:bB Γ (.cmp op as)=λρ=>((aY Γ as ρ).bind λp=>(match p.1 with|[x,y]=>(bI op x.2 y.2).map λb=>(b,p.2)|_=>none)):=by
         funext ρ;rw[bB];unfold ze
         cases aY Γ as ρ with
         |none=>rfl
         |some p=>
           obtain⟨kds,ρ'⟩:=p;dsimp only[K2]
           match kds with
           |[]=>rfl
           |[_]=>rfl
           |[x,y]=>dsimp only;cases bI op x.2 y.2<;>rfl
           |_::_::_::_=>rfl
       rw[e];exact this)
theorem hZ{f:Expr->Option ME}(hM:∀e a,f e=some a->bt X (aP Γ a) e){e:Expr}{t:MT}(h:(f e).map MT.tru=some t)(hp:∀whole,isTrue e X.env whole=(do let v <- whole;standAt e.pos;holding [v] (truthy v))):fK X (bB Γ t) e:=by
 obtain⟨a',ha,rfl⟩:=aS h
 first|(refine nG λρ=>?_;rw[bB];done)|(rw[show bB Γ (.tru a')=λρ=>oTTru (aP Γ a' ρ) by funext ρ;conv=>lhs;rw[bB]];exact t_truM (hM _ _ ha) hp)
theorem nH{f:Expr->Option MT}(hf:∀e t,f e=some t->fK X (bB Γ t) e){o:List Expr}{io:MO}(h:jd f o=some io):jV X (jZ Γ io) o:=by
 unfold jd at h;split at h
 ·cases h;have e:jZ Γ .non=λρ=>some (true,ρ):=by funext ρ;rw[jZ]
  rw[e];exact Bi
 ·obtain⟨a,ha,rfl⟩:=aS h;have e:jZ Γ (.som a)=bB Γ a:=by funext ρ;rw[jZ]
  rw[e];exact Bj (hf _ _ ha)
 ·cases h
theorem gT:∀n:Nat,(∀X c,aB X (cX fns Γ) c->∀e a,cM fns n c e=some a->bt X (aP Γ a) e)/\(∀X c,aB X (cX fns Γ) c->∀e t,sJ fns n c e=some t->fK X (bB Γ t) e)
 |0=>⟨λX c O e a h=>by (cases(show(none:Option ME)=some a from h)),λX c O e a h=>by (cases(show(none:Option MT)=some a from h))⟩
 |n+1=>by
  obtain⟨ihM,ihT⟩:=gT n;have pure:=d6 (fm:=kN fns Γ) fns Γ.fn n;refine⟨λX c O e a h=>?_,λX c O e a h=>?_⟩
  ·have hE:=pure.1 X c O;have hM:=ihM X c O;have hT:=ihT X c O
   replace h:(match cE fns n c e with|some ie=>some (ME.p ie)|none=>_)=some a:=h
   split at h
   ·rename_i ie hi;cases h;exact BB Γ (hE _ _ hi)
   ·cases e with
    |Name x p=>exact Hu fns Γ O h
    |Call g as ks pos=>exact Hx fns Γ O hM hE h
    |Tuple es k p=>
     obtain⟨as,ha,rfl⟩:=aS (show(ln (cM fns n c) (cE fns n c) es).map (.tup (fns.kT p))=some a from h)
     first|(exact eC λ_=>rfl)|(rw[show ∀k,aP Γ (.tup k as)=λρ=>oS (λkds=>gB k (some kds)) (aY Γ as ρ) by intro k;exact funext λ_=>rfl,dM];exact n_tup.m (lp Γ hM hE ha))
    |List es p=>
     obtain⟨as,ha,rfl⟩:=aS (show(ln (cM fns n c) (cE fns n c) es).map (.lst (fns.kL p))=some a from h)
     first|(exact eC λ_=>rfl)|(rw[show ∀k,aP Γ (.lst k as)=λρ=>oS (λkds=>l7 k (some kds)) (aY Γ as ρ) by intro k;exact funext λ_=>rfl,dM];exact n_lst.m (lp Γ hM hE ha))
    |BinOp x op y p=>
     obtain⟨as,ha,rfl⟩:=aS (show(ln (cM fns n c) (cE fns n c) [x,y]).map (.bin op)=some a from h)
     first|(exact eC λ_=>rfl)|(rw[show ∀op,aP Γ (.bin op as)=λρ=>oS (f2 (dZ op)) (aY Γ as ρ) by intro k;exact funext λ_=>rfl,dM];exact n_bin.m (lq Γ hM hE ha))
    |Compare x ops bs p=>
     obtain⟨op,b,as,rfl,rfl,hm,ha,rfl⟩:=qC (show rX ME.cmp (cM fns n c) (cE fns n c) x ops bs=some a from h)
     first|(exact eC λ_=>rfl)|(rw[show ∀op,aP Γ (.cmp op as)=λρ=>oS (f2 λx y=>bV (bI op x.2 y.2)) (aY Γ as ρ) by intro k;exact funext λ_=>rfl,dM];exact(n_cmp O hm).m (lq Γ hM hE ha))
    |Subscript x b p=>
     dsimp only at h;split at h
     ·rename_i hp;obtain⟨as,ha,rfl⟩:=aS h
      first|(exact eC λ_=>rfl)|(rw[show aP Γ (.ix as)=λρ=>oS (f2 FI) (aY Γ as ρ) by exact funext λ_=>rfl,dM];exact(Hl O hp).m (lq Γ hM hE ha))
     ·split at h
      ·rename_i hi hhi;obtain⟨p2,rfl⟩:=xN hhi;obtain⟨as,ha,rfl⟩:=aS h
       first|(exact eC λ_=>rfl)|(rw[show aP Γ (.slh as)=λρ=>oS (f2 oV) (aY Γ as ρ) by exact funext λ_=>rfl,dM];exact n_slh.m (lq Γ hM hE ha))
      ·cases h
    |IfExp t x b p=>
     dsimp only at h;split at h
     ·rename_i t' a' b' ht ha hb;cases h
      first|(exact eC λ_=>rfl)|(rw[show aP Γ (.ifx t' a' b')=λρ=>oIfM (bB Γ t' ρ) (aP Γ a') (aP Γ b') by exact funext λ_=>rfl];exact s_ifM (hT _ _ ht) (hM _ _ ha) (hM _ _ hb))
     ·cases h
    |ListComp elt gs scope p=>
     obtain⟨tg,iter,ifs,t,it,ts,el,rfl,hn1,hn2,ht,hit,hts,hel,rfl⟩:=qD fns (show rY fns c (cM fns n) (cE fns n) (sJ fns n) elt gs scope p=some a from h);have CO:=fy O hn2
     first|(exact eC λ_=>rfl)|(rw[show ∀r cap,aP Γ (.comp r cap t it ts el)=λρ=>f7 r (cx Γ it ρ) (eV cap t (jZ Γ ts) (aP Γ el)) cap by intro r cap;exact funext λ_=>rfl];exact xG O hn2 hn1 (oZ fns Γ O hM hE hit) ht (λC s H ex=>nH Γ (ihT _ _ (CO C s H ex)) hts) (λC s H ex=>ihM _ _ (CO C s H ex) _ _ hel))
    |_=>cases h
  ·have hE:=pure.1 X c O;have hM:=ihM X c O;have hT:=ihT X c O
   replace h:(match cT fns n c e with|some ie=>(match fns.vw e.pos.line e.pos.col with|[]=>some (MT.p ie)|i::is=>some (MT.vw (i::is) ie))|none=>_)=some a:=h
   split at h
   ·rename_i ie hi;split at h
    ·cases h;have:=(pure.2 X c O _ _ hi).m
     rw[show(λρ=>(ba Γ.fn ie ρ).map λp=>(p,ρ))=bB Γ (.p ie) by funext ρ;rw[bB];unfold Ho;cases ba Γ.fn ie ρ<;>rfl] at this
     exact this
    ·rename_i i is _;cases h
     first|(refine nG λρ=>?_;rw[bB];done)|(rw[show bB Γ (.vw (i::is) ie)=λρ=>Ho (ba Γ.fn ie (frzN (i::is) ρ)) ρ by funext ρ;rw[bB]];exact t_vw (pure.2 X c O _ _ hi))
   ·cases e with
    |Compare x ops bs p=>
     obtain⟨op,b,as,rfl,rfl,hm,ha,rfl⟩:=qC (show rX MT.cmp (cM fns n c) (cE fns n c) x ops bs=some a from h);exact BE Γ O hm (lq Γ hM hE ha)
    |UnaryOp op x p=>cases op with
     |Not=>
      obtain⟨t,ht,rfl⟩:=aS (show(sJ fns n c x).map .not=some a from h)
      first|(refine nG λρ=>?_;rw[bB];done)|(rw[show bB Γ (.not t)=λρ=>match bB Γ t ρ with|some (b,ρ')=>some (!b,ρ')|none=>none by funext ρ;conv=>lhs;rw[bB]];exact t_notM (hT _ _ ht))
     |_=>cases h
    |BoolOp op es p=>
     obtain⟨ts,ht,rfl⟩:=aS (show(Hq (sJ fns n c) es).map (.bool op)=some a from h)
     first|(refine nG λρ=>?_;rw[bB];done)|(rw[show ∀op,bB Γ (.bool op ts)=zf Γ op ts by intro op;funext ρ;conv=>lhs;rw[bB]];exact λρ b ρ' h g σ H Q se q=>λpins s I=>w_boolM Γ hT _ _ ht ρ b ρ' h g σ H Q se q _ pins s I)
    |Call f as ks p=>exact hZ Γ hM (show(cM fns n c (.Call f as ks p)).map .tru=some a from h) (λ_=>rfl)
    |Subscript x b p=>exact hZ Γ hM (show(cM fns n c (.Subscript x b p)).map .tru=some a from h) (λ_=>rfl)
    |Name x p=>exact hZ Γ hM (show(cM fns n c (.Name x p)).map .tru=some a from h) (λ_=>rfl)
    |Constant k j p=>exact hZ Γ hM (show(cM fns n c (.Constant k j p)).map .tru=some a from h) (λ_=>rfl)
    |_=>cases h
end
end J
namespace J
open PySem PySem.Spec L2
inductive Res where
 |nx (ρ:Ro)|rt (kd:Kd) (d:D) (ρ:Ro)|ct (ρ:Ro)|bk (ρ:Ro)
noncomputable def PinOk(pn:List Nat)(σ σ':L2.St):Prop:=∀i∈pn,σ'[i]?=σ[i]?
noncomputable def EndM(K:Ka)(pn:List Nat)(g:Gh)(H:Hp)(σ:L2.St)(Dn:iW):Res->Prop
 |.nx ρ'=>∀σ' g' H',Evo g H g' H' gR->SE K g' ρ' σ' H'->PinOk pn σ σ'->Dn.nx σ' H'
 |.rt kd d ρ'=>∀v σ' g' H' F,Evo g H g' H' F->SE K (g'.plus F) ρ' σ' H'->PinOk pn σ σ'->VR1 K H' g' F kd d v F->Dn.rt v H'
 |.ct ρ'=>∀σ' g' H',Evo g H g' H' gR->SE K g' ρ' σ' H'->PinOk pn σ σ'->Dn.ct σ' H'
 |.bk ρ'=>∀σ' g' H',Evo g H g' H' gR->SE K g' ρ' σ' H'->PinOk pn σ σ'->Dn.bk σ' H'
noncomputable def El(X:Cx)(st:List Stmt):TS:=λDn σ H=>∀pins s,Inv X pins σ H s->wpAny (model X.prog X.w) X.A (execs st X.env) (SP X pins Dn) X.xe s
noncomputable def FL(X:Cx)(st:Stmt):TS:=λDn σ H=>∀pins s,Inv X pins σ H s->wpAny (model X.prog X.w) X.A (exec st X.env) (SP X pins Dn) X.xe s
theorem gU:PSs X st (El X st):=λpins s σ H D I h=>h pins s I
theorem Hy:PS X st (FL X st):=λpins s σ H D I h=>h pins s I
theorem cq{t:TS}(p:PS X st t){Dn:iW}{σ:L2.St}{H:Hp}(h:t Dn σ H):FL X st Dn σ H:=λpins s I=>p pins s σ H Dn I h
theorem uP{t:TS}(p:PSs X st t){Dn:iW}{σ:L2.St}{H:Hp}(h:t Dn σ H):El X st Dn σ H:=λpins s I=>p pins s σ H Dn I h
noncomputable def di(X:Cx)(pn:List Nat)(f:Ro->Option Res)(st:Stmt):Prop:=∀ρ r,f ρ=some r->∀g σ H Dn,SE X.K g ρ σ H->EndM X.K pn g H σ Dn r->FL X st Dn σ H
noncomputable def i0(X:Cx)(pn:List Nat)(f:Ro->Option Res)(st:List Stmt):Prop:=∀ρ r,f ρ=some r->∀g σ H Dn,SE X.K g ρ σ H->EndM X.K pn g H σ Dn r->El X st Dn σ H
section
variable {K:Ka} {H H' H1:Hp} {g g' g1:Gh} {F F1 F2:Pr} {ρ:Ro} {σ σ' σ1:L2.St} {pn:List Nat}
theorem PinOk.refl:PinOk pn σ σ:=λ_ _=>rfl
theorem PinOk.trans(a:PinOk pn σ σ1)(b:PinOk pn σ1 σ2):PinOk pn σ σ2:=λi h=>(b i h).trans (a i h)
theorem PinOk.set{i:Nat}(h:i∉pn):PinOk pn σ (σ.set i v):=λj hj=>Kv λz=>h (by rw[z];exact hj)
theorem EndM.from(h:EndM K pn g H σ Dn r)(ev:Evo g H g1 H1 gR)(pk:PinOk pn σ σ1):EndM K pn g1 H1 σ1 Dn r:=by
 cases r with
 |nx ρ'=>exact λσ' g' H' e s p=>h σ' g' H' (bH ev e) s (pk.trans p)
 |rt kd d ρ'=>exact λv σ' g' H' F e s p r=>h v σ' g' H' F (bH ev e) s (pk.trans p) r
 |ct ρ'=>exact λσ' g' H' e s p=>h σ' g' H' (bH ev e) s (pk.trans p)
 |bk ρ'=>exact λσ' g' H' e s p=>h σ' g' H' (bH ev e) s (pk.trans p)
theorem Em{i:Nat}{S:Pr}(ev:Evo g H g1 H1 F)(se:SE K (g1.plus F) ρ σ H1)(hF:∀b,F b↔F1 b\/F2 b)(dj:∀b,F1 b->¬F2 b)(hS:∀b,Sx g1 F b->S b)(t:Tr K H1 S d k v F1) :
  Evo g H (g1.give F1 i) H1 F2/\SE K ((g1.give F1 i).plus F2) (ρ.set i (some ⟨false,k,d⟩)) (σ.set i (some v)) H1/\∀b,Sx (g1.give F1 i) F2 b↔Sx g1 F b:=by
 have n1:∀b,F1 b->g1 b=none:=λb z=>(ev.tmp b ((hF b).mpr (.inl z))).1
 have hs:∀b,Sx (g1.give F1 i) F2 b↔Sx g1 F b:=λb=>by
  unfold Sx;rw[hF b];constructor
  ·rintro (z|z)
   ·exact(give_S.mp z).imp id .inl
   ·exact .inr (.inr z)
  ·rintro (z|z|z)
   ·exact .inl (give_S.mpr (.inl z))
   ·exact .inl (give_S.mpr (.inr z))
   ·exact .inr z
 have hp:∀b,Sg ((g1.give F1 i).plus F2) b↔Sx g1 F b:=λb=>(ar b).trans (hs b);have sub:∀b,Sg ((g1.give F1 i).plus F2) b->Sg (g1.plus F) b:=λb z=>(ar b).mpr ((hp b).mp z);refine⟨⟨ev.keep,λb=>⟨λe=>?_,λe=>?_⟩,λb j e=>?_,λb z=>?_,ev.dom⟩,⟨λj sl e=>?_,λb z=>se.mu b (sub b z),by simp[se.len]⟩,hs⟩
 ·have:=(ev.out b).mp e;rw[bG (λz=>by rw[n1 b z] at this;cases this)];exact this
 ·by_cases z:F1 b
  ·rw[gP z] at e;cases e
  ·rw[bG z] at e;exact(ev.out b).mpr e
 ·by_cases z:F1 b
  ·exact(ev.tmp b ((hF b).mpr (.inl z))).2
  ·rw[bG z] at e;exact ev.new b j e
 ·have:=ev.tmp b ((hF b).mpr (.inr z));exact⟨by rw[bG λz1=>dj b z1 z];exact this.1,this.2⟩
 ·by_cases hj:j=i
  ·subst hj
   have hlt:j<ρ.length:=by
    have:=(Kb.mp e).1;simpa using this
   rw[Kz hlt] at e;cases e;refine⟨v,F1,Kz (by rw[<- se.len];exact hlt),λb z=>ca (gP z) (dj b z),t.go (λ_ _ _ e=>e) λb o _ n z=>n (hS b ((hp b).mp z))⟩
  ·rw[Kv (Ne.symm hj)] at e⊢;obtain⟨w,Fj,e1,e2,e3⟩:=se.slot j sl e;refine⟨w,Fj,e1,λb z=>?_,e3.go (λ_ _ _ e=>e) λb o _ n z=>n (sub b z)⟩;have q:=bM (e2 b z);have nF:¬F b:=λz2=>by rw[(ev.tmp b z2).1] at q;cases q
   refine ca ?_ λz2=>nF ((hF b).mpr (.inr z2));rw[bG λz2=>nF ((hF b).mpr (.inl z2))];exact q
noncomputable def xO:Kd->Ow
 |.fr k=>k
 |_=>.fz
theorem VR1.tr(hb:bW kd=false)(h:VR1 K H g F kd d v F):Tr K H (Sx g F) d (xO kd) v F:=by
 cases kd with
 |sh=>
  have e:F=gR:=by funext b;exact propext ⟨h.1 b,λz=>z.elim⟩
  rw[show xO .sh=.fz from rfl];have:=Tr.fz h.2;rw[e] at this⊢;exact this
 |fr k=>exact h
 |bo i k=>cases hb
end
noncomputable def eD:Expr->Bool
 |.ListComp ..|.SetComp ..|.DictComp ..=>false
 |_=>true
theorem je{n:Nat}(h:eD e=true):swapsWith e t n env=pure false:=by
 cases e<;>first|rfl|cases h
noncomputable def uQ:Expr->Bool
 |.Tuple ..=>false
 |_=>true
theorem j0{k:Nat}{n:Nat}:swapsWithSole [.Tuple es k tp] e n env=pure false:=by
 cases e<;>rfl
theorem nI{k:Nat}(h:uQ e=true):swappedStores [.Tuple es k tp] e env=pure none:=by
 cases e<;>first|rfl|cases h
noncomputable def o5(pn:List Nat)(i:Nat)(a:MR):Option Res:=match a with
 |some (kd,d,ρ1)=>if bW (dC kd d)=true\/i∈pn then none else some (.nx (ρ1.set i (some ⟨false,xO (dC kd d),d⟩)))
 |none=>none
section
variable {X:Cx} {Γ:gz} {c:Cz} {pn:List Nat}
theorem j3{g g1:Gh}{σ:L2.St}{i:Nat}{Dn:iW}(h:o5 pn i (some (kd,d,ρ1))=some r)(q:EndM K pn g H σ Dn r)(ev:Evo g H g1 H1 F)(se:SE K (g1.plus F) ρ1 σ H1)(vr:VR1 K H1 g1 F kd d v F):Dn.nx (σ.set i (some v)) H1:=by
 unfold o5 at h;dsimp only at h;split at h
 ·cases h
 ·rename_i hb;cases h;rw[not_or] at hb;have vr1:=vr.im se.mu;obtain⟨c1,c2,_⟩:=Em (i:=i) (F2:=gR) ev se (λb=>⟨.inl,λz=>z.elim id λz=>z.elim⟩) (λ_ _ z=>z) (λ_ z=>z) (vr1.tr (by simpa using hb.1));exact q _ _ H1 c1 (by rw[aW λ_ z=>z] at c2;exact c2) (PinOk.set hb.2)
theorem En(O:aB X Γ c){f:Ro->MR}{x:Str}{i:Nat}{e:Expr}{p pos:Pos}(hl:lY c x=true)(hi:bF x c.N=some i)(hn:eD e=true)(hf:bt X f e):di X pn (λρ=>o5 pn i (f ρ)) (.Assign [.Name x p] e pos):=by
 intro ρ r h g σ H Dn se q;have l:=jG O hl
 cases hf':f ρ with
 |none=>dsimp only at h;rw[hf'] at h;cases h
 |some w=>
  obtain⟨kd,d,ρ1⟩:=w;dsimp only at h;rw[hf'] at h;exact cq (sW (i:=i) (by rw[O.N];exact O.nd) (by rw[O.N];exact bd hi) l.1 aA (je hn) l.2) (hf ρ kd d ρ1 hf' g σ H _ se λv g1 H1 F ev se1 vr=>j3 h q ev se1 vr)
noncomputable def BF:List Nat->sS
 |[]=>zV
 |i::is=>sT (jo i) (BF is)
noncomputable def nJ:List Nat->List D->List Ow->Ow->Ro->Ro
 |i::is,d::ds,es,r,ρ=>nJ is ds es.tail r (ρ.set i (some ⟨false,es.headD r,d⟩))
 |_,_,_,_,ρ=>ρ
theorem gW{H H1:Hp}{Q:L2.St->Hp->Prop}:∀{is:List Nat} {ds:List D} {es:List Ow} {r:Ow} {vs:List V} {g1:Gh} {F S:Pr} {ρ:Ro} {σ:L2.St},is.length=ds.length->(∀i∈is,i∉pn)->Evo g H g1 H1 F->SE K (g1.plus F) ρ σ H1->(∀b,Sx g1 F b->S b)->TrL K H1 S ds es r vs F->PinOk pn σ0 σ->
  (∀g2 σ2,Evo g H g2 H1 gR->SE K g2 (nJ is ds es r ρ) σ2 H1->PinOk pn σ0 σ2->Q σ2 H1)->BF is vs σ H1 Q
 |[],[],es,r,vs,g1,F,S,ρ,σ,hl,hp,ev,se,hS,t,pk,q=>by
  unfold TrL at t;have e:F=gR:=by funext b;exact propext ⟨t.2 b,λz=>z.elim⟩
  subst e;exact⟨t.1,q g1 σ ev (by rw[aW λ_ z=>z] at se;exact se) pk⟩
 |[],_::_,_,_,_,_,_,_,_,_,hl,_,_,_,_,_,_,_=>by simp at hl
 |_::_,[],_,_,_,_,_,_,_,_,hl,_,_,_,_,_,_,_=>by simp at hl
 |i::is,d::ds,es,r,vs,g1,F,S,ρ,σ,hl,hp,ev,se,hS,t,pk,q=>by
  unfold TrL at t;obtain⟨y,ys,F1,F2,rfl,hF,dj,t1,t2⟩:=t;obtain⟨c1,c2,c3⟩:=Em (i:=i) ev se hF dj hS t1;exact⟨y,ys,rfl,gW (by simpa using hl) (λj hj=>hp j (Kp _ hj)) c1 c2 (λb z=>hS b ((c3 b).mp z)) t2 (pk.trans (PinOk.set (hp i KA))) q⟩
noncomputable def iA(kd:Kd)(ds:List D):Option (List Ow×Ow):=match kd with
 |.sh=>some ([],.fz)
 |.fr (.own es r)=>some (es,r)
 |.fr .fz=>some ([],.fz)
 |.bo _ _=>if wR ds=true then some ([],.fz) else none
theorem VR1.parts{H:Hp}{F:Pr}(hh:hd=.tup\/hd=.lst)(hk:iA kd ds=some (es,r))(m:MuOk H (Sx g F))(h:VR1 K H g F kd (.nd hd ds) v F):∃a o xs F',v=.ref a/\H a=some o/\eL K o hd xs/\(∀b,F' b->F b)/\TrL K H (Sx g F) ds es r xs F':=by
 have fl:∀{d:List D} {xs:List V},RpL K H (Sx g F) d xs->TrL K H (Sx g F) d [] .fz xs gR:=λh=>.ofFlat (λe z=>by cases z) h
 cases kd with
 |sh=>
  cases hk;obtain⟨a,o,xs,rfl,_,g1,q1,rl⟩:=h.2.nd;exact⟨a,o,xs,gR,rfl,g1,q1,λ_ z=>z.elim,fl rl⟩
 |fr k=>
  cases k with
  |fz=>
   cases hk;obtain⟨a,o,xs,rfl,_,g1,q1,rl⟩:=(Tr.fz_inv h).2.nd;exact⟨a,o,xs,gR,rfl,g1,q1,λ_ z=>z.elim,fl rl⟩
  |own es' r'=>
   cases hk;have h':Tr K H (Sx g F) (.nd hd ds) (.own es r) v F:=h;unfold Tr at h';obtain⟨a,o,xs,F',rfl,g1,q1,_,_,hF,t⟩:=h';exact⟨a,o,xs,F',rfl,g1,q1,λb z=>(hF b).mpr (.inr z),t⟩
 |bo i k=>
  simp only[iA] at hk;split at hk
  ·rename_i hi;cases hk;obtain⟨a,o,xs,rfl,_,g1,q1,rl⟩:=h.rd.nd;exact⟨a,o,xs,gR,rfl,g1,q1,λ_ z=>z.elim,fl (rl.im m hi)⟩
  ·cases hk
noncomputable def uR(pn:List Nat)(is:List Nat)(a:MR):Option Res:=match a with
 |some (kd,.nd .tup ds,ρ1)=>(match iA kd ds with|some (es,r)=>if is.length=ds.length/\(is.all λi=>!pn.contains i)=true then some (.nx (nJ is ds es r ρ1)) else none|none=>none)
 |some (kd,.nd .lst ds,ρ1)=>(match iA kd ds with|some (es,r)=>if is.length=ds.length/\(is.all λi=>!pn.contains i)=true then some (.nx (nJ is ds es r ρ1)) else none|none=>none)
 |_=>none
noncomputable def uS(c:Cz):List Expr->Option (List Nat)
 |[]=>some []
 |.Name x _::r=>if lY c x then(match bF x c.N,uS c r with|some i,some is=>some (i::is)|_,_=>none) else none
 |_=>none
theorem qE(O:aB X Γ c):∀{es:List Expr} {is:List Nat},uS c es=some is->zT X es (BF is)/\(assignEach es X.env).length=is.length/\(assignEach es X.env).findIdx? (·.1)=none
 |[],is,h=>by cases h;exact⟨pR,rfl,rfl⟩
 |e::es,is,h=>by
  cases e with
  |Name x p=>
   unfold uS at h;split at h
   ·rename_i hl;split at h
    ·rename_i i is' hi his;cases h;have l:=jG O hl;obtain⟨g1,g2,g3⟩:=qE O his;refine⟨mH (pQ (i:=i) (by rw[O.N];exact O.nd) (by rw[O.N];exact bd hi) l.1 l.2) g1,?_,?_⟩
     ·show(assignEach es X.env).length+1=_;rw[g2];rfl
     ·show((false,assign (.Name x p) X.env)::assignEach es X.env).findIdx? (·.1)=none;rw[KU];simp[g3]
    ·cases h
   ·cases h
  |_=>cases h
theorem Eo(O:aB X Γ c){f:Ro->MR}{es:List Expr}{is:List Nat}{k:Nat}{e:Expr}{tp pos:Pos}(hf:bt X f e)(h1:uS c es=some is)(hn:uQ e=true):di X pn (λρ=>uR pn is (f ρ)) (.Assign [.Tuple es k tp] e pos):=by
 intro ρ r h g σ H Dn se q;obtain⟨g1,g2,g3⟩:=qE O h1
 have pin:(is.all λi=>!pn.contains i)=true->∀i∈is,i∉pn:=λh i hi=>by
  have:=KO.mp h i hi;simpa using this
 dsimp only[uR] at h;split at h
 ·rename_i kd ds ρ1 he;split at h
  ·rename_i ks r0 hk;split at h
   ·rename_i hl;cases h;refine cq (lI aA (sU O.calm g1 g2 g3) j0 (nI hn)) (hf ρ _ _ _ he g σ H _ se λv g' H1 F ev se1 vr=>?_);obtain⟨a,o,xs,F',rfl,ga,qa,sF,t⟩:=vr.parts (.inl rfl) hk λb z=>se1.mu b ((ar b).mpr z);cases(show o=_ from qa);refine⟨a,xs,rfl,.of ga,by rw[t.len,hl.1],gW hl.1 (pin hl.2) (ev.drop sF) (se1.drop sF λb z=>(ev.tmp b z).1) (λb z=>z.imp id (sF b)) t PinOk.refl λg2 σ2 e2 s2 p2=>q σ2 g2 H1 e2 s2 p2⟩
   ·cases h
  ·cases h
 ·rename_i kd ds ρ1 he;split at h
  ·rename_i ks r0 hk;split at h
   ·rename_i hl;cases h;refine cq (lI aA (Au O.calm g1 g2 g3) j0 (nI hn)) (hf ρ _ _ _ he g σ H _ se λv g' H1 F ev se1 vr=>?_);obtain⟨a,o,xs,F',rfl,ga,qa,sF,t⟩:=vr.parts (.inr rfl) hk λb z=>se1.mu b ((ar b).mpr z);cases(show o=_ from qa);refine⟨a,xs,rfl,.of ga,by rw[t.len,hl.1],gW hl.1 (pin hl.2) (ev.drop sF) (se1.drop sF λb z=>(ev.tmp b z).1) (λb z=>z.imp id (sF b)) t PinOk.refl λg2 σ2 e2 s2 p2=>q σ2 g2 H1 e2 s2 p2⟩
   ·cases h
  ·cases h
 ·cases h
noncomputable def uT(a:MR):Option Res:=match a with
 |some (kd,d,ρ1)=>if bW (dC kd d)=true then none else some (.rt (dC kd d) d ρ1)
 |none=>none
theorem Ep{f:Ro->MR}(hf:bt X f e):di X pn (λρ=>uT (f ρ)) (.Return (some e) pos):=by
 intro ρ r h g σ H Dn se q;dsimp only[uT] at h;split at h
 ·rename_i kd d ρ1 he;split at h
  ·cases h
  ·cases h;exact cq (zS aA) (hf ρ _ _ _ he g σ H _ se λv g1 H1 F ev se1 vr=>q v σ g1 H1 F ev se1 PinOk.refl (vr.im se1.mu))
 ·cases h
noncomputable def uU(a:MR):Option Res:=match a with
 |some (_,_,ρ1)=>some (.nx ρ1)
 |none=>none
theorem Er{f:Ro->MR}(hn:eD e=true)(hf:bt X f e):di X pn (λρ=>uU (f ρ)) (.Expr e pos):=by
 intro ρ r h g σ H Dn se q;dsimp only[uU] at h;split at h
 ·rename_i kd d ρ1 he;cases h;refine cq (wl aA (je hn)) (hf ρ _ _ _ he g σ H _ se λv g1 H1 F ev se1 vr=>q σ g1 H1 (ev.drop λ_ z=>z.elim) ?_ PinOk.refl);have:=se1.drop (F2:=gR) (λ_ z=>z.elim) λb z=>(ev.tmp b z).1;rw[aW λ_ z=>z] at this;exact this
 ·cases h
theorem Es{x:Str}{j:Nat}:di X pn (λρ=>some (.nx ρ)) (.Expr (.Constant (.str x) j pos) pos'):=by
 intro ρ r h g σ H Dn se q;cases h;exact cq zR (q σ g H (.refl g H) se PinOk.refl)
noncomputable def uV(t:Option (Bool×Ro))(a b:Ro->Option Res):Option Res:=match t with
 |some (true,ρ)=>a ρ
 |some (false,ρ)=>b ρ
 |none=>none
theorem Et{ft:Ro->Option (Bool×Ro)}(ht:fK X ft t)(ha:i0 X pn fa a)(hb:i0 X pn fb b):di X pn (λρ=>uV (ft ρ) fa fb) (.If t a b pos):=by
 intro ρ r h g σ H Dn se q;dsimp only[uV] at h;split at h
 ·rename_i ρ1 e;exact cq (yQ gx gU gU) (ht ρ _ _ e g σ H _ se λg1 H1 ev se1=>tI (ha ρ1 r h g1 σ H1 Dn se1 (q.from ev PinOk.refl)))
 ·rename_i ρ1 e;exact cq (yQ gx gU gU) (ht ρ _ _ e g σ H _ se λg1 H1 ev se1=>tH (hb ρ1 r h g1 σ H1 Dn se1 (q.from ev PinOk.refl)))
 ·cases h
noncomputable def uW(a:Option Res)(b:Ro->Option Res):Option Res:=match a with
 |some (.nx ρ)=>b ρ
 |r=>r
theorem Eu:i0 X pn (λρ=>some (.nx ρ)) []:=by
 intro ρ r h g σ H Dn se q;cases h;exact uP wj (q σ g H (.refl g H) se PinOk.refl)
theorem BG{fa fb:Ro->Option Res}(ha:di X pn fa s)(hb:i0 X pn fb st):i0 X pn (λρ=>uW (fa ρ) fb) (s::st):=by
 intro ρ r h g σ H Dn se q;dsimp only at h;refine uP (sR Hy gU) ?_
 cases e:fa ρ with
 |none=>rw[e] at h;cases h
 |some ra=>
  rw[e] at h
  cases ra with
  |nx ρ1=>exact ha ρ _ e g σ H _ se λσ1 g1 H1 ev se1 pk=>hb ρ1 r h g1 σ1 H1 Dn se1 (q.from ev pk)
  |rt kd d ρ1=>cases h;exact ha ρ _ e g σ H _ se q
  |ct ρ1=>cases h;exact ha ρ _ e g σ H _ se q
  |bk ρ1=>cases h;exact ha ρ _ e g σ H _ se q
theorem BH:di X pn (λρ=>some (.nx ρ)) (.Pass pos):=by
 intro ρ r h g σ H Dn se q;cases h;exact cq wk (q σ g H (.refl g H) se PinOk.refl)
end
noncomputable def nK(c:Cz)(x y a:Str)(px py:Pos):Bool:=decide (a≠"__debug__")&&decide (c.sc.names.lookup x=some .local)&&decide (c.sc.names.lookup y=some .local)&&decide (x≠y)&&(py.line==px.line)&&decide (c.sc.kind=.function)
theorem uX{env:Env}{x y a b:Str}{px py pt pa pb pt2:Pos}{kt k2}(hx:env.scope.names.lookup x=some .local)(hy:env.scope.names.lookup y=some .local)(hxy:x≠y)(hl:(py.line==px.line)=true)(hk:env.scope.kind=.function)(ha:a≠"__debug__") :
  swappedStores [.Tuple [.Name x px,.Name y py] kt pt] (.Tuple [.Name a pa,.Name b pb] k2 pt2) env=pure (some [x,y]):=by
 have e1:env.kindOf x=some .local:=hx;have e2:env.kindOf y=some .local:=hy;have e3:env.blockKind=.function:=by unfold Env.blockKind;rw[hk];rfl
 have e4:([x,y]:List Str).eraseDups.length=2:=by
  have:(y==x)=false:=beq_eq_false_iff_ne.mpr (Ne.symm hxy);simp[List.eraseDups_cons,this]
 have hl':py.line=px.line:=eq_of_beq hl;unfold swappedStores;have e0:(Expr.Name x px).pos=px:=rfl;simp only[e0,List.head?_cons,LM,ML,KS,L8,KL,List.filterMap_nil,e1,e2,e3,hl',beq_self_eq_true,Bool.and_self,if_true];rw[if_neg (by decide),if_neg (by simp),if_neg (by rw[e4];decide),if_neg (c:=[Expr.Name a pa,Expr.Name b pb].all (foldedForSure 8)=true) (λz=>Bool.noConfusion (show false=true from z)),if_neg (c:=[Expr.Name a pa,Expr.Name b pb].all (constantsAlone 8)=true) (λz=>ha (eq_of_beq (LN.mp (show((a==("__debug__":Str))&&_)=true from z)).1))]
noncomputable def uY(pn:List Nat)(i j:Nat)(a:Option (List KD))(ρ:Ro):Option Res:=match a with
 |some [x,y]=>if(mz x.1 x.2=true/\mz y.1 y.2=true)/\i≠j/\i∉pn/\j∉pn then some (.nx (nJ [i,j] [x.2,y.2] [] .fz ρ)) else none
 |_=>none
section
variable {X:Cx} {Γ:gz} {c:Cz} {pn:List Nat}
theorem Ev(O:aB X Γ c){fa:Ro->Option (List KD)}{x y a b:Str}{px py pt pa pb pt2 pos:Pos}{kt k2}{i j:Nat}(ha:iY X fa [.Name a pa,.Name b pb])(hi:bF x c.N=some i)(hj:bF y c.N=some j)(hp:nK c x y a px py=true) :
  di X pn (λρ=>uY pn i j (fa ρ) ρ) (.Assign [.Tuple [.Name x px,.Name y py] kt pt] (.Tuple [.Name a pa,.Name b pb] k2 pt2) pos):=by
 intro ρ r h g σ H Dn se q;simp only[nK,Ke,decide_eq_true_eq] at hp;obtain⟨⟨⟨⟨⟨h0,h1⟩,h2⟩,h3⟩,h4⟩,h5⟩:=hp;rw[<- O.sc] at h1 h2 h5;dsimp only[uY] at h;split at h
 ·rename_i k1 k2 he;split at h
  ·rename_i hh;cases h;refine cq (zX (i:=i) (j:=j) O.calm (by rw[O.N];exact O.nd) (by rw[O.N];exact bd hi) (by rw[O.N];exact bd hj) hh.2.1 h1 h2 dc (uX h1 h2 h3 h4 h5 h0)) ?_;refine ha ρ _ he g σ H _ se λvs H1 s1 r1=>?_;have rl:=r1.sh (by simp[hh.1.1,hh.1.2]) se.mu s1;obtain⟨v,ys,rfl,rv,rl2⟩:=rl.cons_inv;obtain⟨w,zs,rfl,rw',rl3⟩:=rl2.cons_inv;cases rl3.nil_inv;refine⟨v,w,rfl,?_⟩
   have run:=gW (pn:=pn) (K:=X.K) (g:=g) (H:=H) (H1:=H1) (σ0:=σ) (Q:=λσ' H'=>Dn.nx σ' H') (is:=[i,j]) (ds:=[k1.2,k2.2]) (es:=[]) (r:=.fz) (vs:=[v,w]) (g1:=g) (F:=gR) (S:=Sg g) (ρ:=ρ) (σ:=σ) rfl (λz hz=>by
     rcases Kn.mp hz with rfl|hz
     ·exact hh.2.2.1
     ·rw[K0.mp hz];exact hh.2.2.2) ⟨λb o _ e=>s1 b o e,λ_=>Iff.rfl,λb i e=>.inl ⟨i,e⟩,λ_ z=>z.elim,λb o e=>⟨o,s1 b o e⟩⟩ (by rw[aW λ_ z=>z];exact se.same s1) (λb z=>z.elim id λz=>z.elim) (.ofFz (.cons rv (.cons rw' .nil))) PinOk.refl λg2 σ2 e2 s2 p2=>q σ2 g2 H1 e2 s2 p2
   obtain⟨_,_,e1,_,_,e2,_,z⟩:=run;cases e1;cases e2;exact z
  ·cases h
 ·cases h
end
end J
namespace J
open PySem PySem.Spec L2
open Classical in
noncomputable def Gh.lend(g:Gh)(bs:List Nat):Gh:=λb=>if ∃i∈bs,g b=some (some i) then some none else g b
open Classical in
noncomputable def Gh.unlend(g' g:Gh)(bs:List Nat):Gh:=λb=>if ∃i∈bs,g b=some (some i) then g b else g' b
noncomputable def clrN:List Nat->Ro->Ro
 |[],ρ=>ρ
 |i::is,ρ=>clrN is (ρ.set i none)
noncomputable def sK:List Nat->Ro->Ro->Ro
 |[],_,ρ'=>ρ'
 |i::is,ρ,ρ'=>sK is ρ (ρ'.set i (ρ[i]?).join)
section
variable {K:Ka} {H H' H1:Hp} {g g' g1:Gh} {F:Pr} {ρ ρ':Ro} {σ σ':L2.St} {bs:List Nat}
theorem o6(b:Addr):Sg (g.lend bs) b↔Sg g b:=by
 unfold Gh.lend Sg;dsimp only;by_cases h:∃i∈bs,g b=some (some i)
 ·rw[if_pos h];obtain⟨i,_,e⟩:=h;simp[e]
 ·rw[if_neg h]
theorem jf{j:Nat}(h:g.lend bs b=some (some j)):g b=some (some j)/\j∉bs:=by
 unfold Gh.lend at h;split at h
 ·cases h
 ·rename_i n;exact⟨h,λz=>n ⟨j,z,h⟩⟩
theorem qF{i:Nat}(hi:i∈bs)(h:g b=some (some i)):g.lend bs b=some none:=by
 unfold Gh.lend;rw[if_pos ⟨i,hi,h⟩]
theorem jg(h:∀i∈bs,g b≠some (some i)):g.lend bs b=g b:=by
 unfold Gh.lend;rw[if_neg λ⟨i,hi,e⟩=>h i hi e]
theorem j4:∀{is:List Nat} {ρ:Ro},(clrN is ρ).length=ρ.length
 |[],_=>rfl
 |i::is,ρ=>by unfold clrN;rw[j4];simp
theorem iB:∀{is:List Nat} {ρ:Ro} {j:Nat} {sl:Sl},(clrN is ρ)[j]?=some (some sl)->ρ[j]?=some (some sl)/\j∉is
 |[],_,_,_,h=>⟨h,by simp⟩
 |i::is,ρ,j,sl,h=>by
  unfold clrN at h;obtain⟨h1,h2⟩:=iB h
  have hne:j≠i:=λz=>by
   subst z
   have hlt:j<ρ.length:=by
    have:=(Kb.mp h1).1;simpa using this
   rw[Kz hlt] at h1;cases h1
  rw[Kv (Ne.symm hne)] at h1;exact⟨h1,by simp[hne,h2]⟩
theorem qG:∀{is:List Nat} {ρ ρ':Ro},(sK is ρ ρ').length=ρ'.length
 |[],_,_=>rfl
 |i::is,ρ,ρ'=>by unfold sK;rw[qG];simp
theorem nL:∀{is:List Nat} {ρ ρ':Ro} {j:Nat} {sl:Sl},(sK is ρ ρ')[j]?=some (some sl)->(j∈is/\ρ[j]?=some (some sl))\/(j∉is/\ρ'[j]?=some (some sl))
 |[],_,_,_,_,h=>.inr ⟨by simp,h⟩
 |i::is,ρ,ρ',j,sl,h=>by
  unfold sK at h;rcases nL h with⟨h1,h2⟩|⟨h1,h2⟩
  ·exact .inl ⟨Kp _ h1,h2⟩
  ·by_cases hj:j=i
   ·subst hj
    have hlt:j<ρ'.length:=by
     have:=(Kb.mp h2).1;simpa using this
    rw[Kz hlt] at h2;refine .inl ⟨KA,?_⟩;have:(ρ[j]?).join=some sl:=by simpa using h2
    cases q:ρ[j]? with
    |none=>rw[q] at this;cases this
    |some o=>rw[q] at this;have:o=some sl:=this;rw[this]
   ·rw[Kv (Ne.symm hj)] at h2;exact .inr ⟨by simp[hj,h1],h2⟩
theorem SE.clrN(h:SE K g ρ σ H)(is:List Nat):SE K g (clrN is ρ) σ H:=⟨λi sl e=>h.slot i sl (iB e).1,h.mu,by rw[j4];exact h.len⟩
theorem SE.lend(h:SE K g ρ σ H)(bs:List Nat):SE K (g.lend bs) (J.clrN bs ρ) σ H:=by
 refine⟨λi sl e=>?_,λb z=>h.mu b ((o6 b).mp z),by rw[j4];exact h.len⟩;obtain⟨e1,hn⟩:=iB e;obtain⟨v,F,q1,q2,q3⟩:=h.slot i sl e1;refine⟨v,F,q1,λb z=>?_,q3.go (λ_ _ _ e=>e) λb o _ n z=>n ((o6 b).mp z)⟩;have:=q2 b z;rw[jg λj hj e=>by rw[this] at e;cases e;exact hn hj];exact this
theorem lr(h:∃i∈bs,g b=some (some i)):g'.unlend g bs b=g b:=by unfold Gh.unlend;rw[if_pos h]
theorem dr(h:¬∃i∈bs,g b=some (some i)):g'.unlend g bs b=g' b:=by unfold Gh.unlend;rw[if_neg h]
theorem iS(h:SE K g ρ σ H)(ev:Evo (g.lend bs) H g' H' F)(se:SE K (g'.plus F) ρ' σ' H')(pk:PinOk bs σ σ') :
  Evo g H (g'.unlend g bs) H' F/\SE K ((g'.unlend g bs).plus F) (sK bs ρ ρ') σ' H'/\∀b,Sg (g'.unlend g bs) b->Sg g' b:=by
 have ho:∀b,(∃i∈bs,g b=some (some i))->g' b=some none:=λb ⟨i,hi,e⟩=>(ev.out b).mp (qF hi e)
 have sub:∀b,Sg (g'.unlend g bs) b->Sg g' b:=λb z=>by
  by_cases q:∃i∈bs,g b=some (some i)
  ·rw[Sg,ho b q];simp
  ·rw[Sg,dr q] at z;exact z
 have subp:∀b,Sg ((g'.unlend g bs).plus F) b->Sg (g'.plus F) b:=λb z=>(ar b).mpr (((ar b).mp z).imp (sub b) id);have hFn:∀b,F b->¬∃i∈bs,g b=some (some i):=λb z q=>by have:=ho b q;rw[(ev.tmp b z).1] at this;cases this
 refine⟨⟨λb o n e=>ev.keep b o (λi q=>n i (jf q).1) e,λb=>⟨λe=>?_,λe=>?_⟩,λb j e=>?_,λb z=>?_,ev.dom⟩,⟨λj sl e=>?_,λb z=>se.mu b (subp b z),by rw[qG];exact se.len⟩,sub⟩
 ·have n:¬∃i∈bs,g b=some (some i):=λ⟨i,_,q⟩=>by rw[e] at q;cases q
  rw[dr n];exact(ev.out b).mp (by rw[jg λi hi q=>n ⟨i,hi,q⟩];exact e)
 ·by_cases q:∃i∈bs,g b=some (some i)
  ·rw[lr q] at e;exact e
  ·rw[dr q] at e;have:=(ev.out b).mpr e;rw[jg λi hi z=>q ⟨i,hi,z⟩] at this;exact this
 ·by_cases q:∃i∈bs,g b=some (some i)
  ·obtain⟨i,_,q⟩:=q;exact .inl ⟨i,q⟩
  ·rw[dr q] at e;exact(ev.new b j e).imp (λ⟨j,z⟩=>⟨j,(jf z).1⟩) id
 ·have t:=ev.tmp b z;exact⟨by rw[dr (hFn b z)];exact t.1,t.2.imp (λ⟨j,z⟩=>⟨j,(jf z).1⟩) id⟩
 ·rcases nL e with⟨hj,e1⟩|⟨hj,e1⟩
  ·obtain⟨v,Fj,q1,q2,q3⟩:=h.slot j sl e1;refine⟨v,Fj,by rw[pk j hj];exact q1,λb z=>?_,q3.go (λb o hb e=>ev.keep b o (λi q=>?_) e) λb o e n z=>?_⟩
   ·have:∃i∈bs,g b=some (some i):=⟨j,hj,q2 b z⟩;exact ca (by rw[lr this];exact q2 b z) λz2=>hFn b z2 this
   ·obtain⟨q,hn⟩:=jf q;rcases hb with hb|hb
    ·exact hb (by rw[Sg,q];simp)
    ·rw[q2 b hb] at q;cases q;exact hn hj
   ·have gn:g b=none:=by
     cases q:g b with
     |none=>rfl
     |some x=>exact absurd (by rw[Sg,q];simp) n
    obtain⟨f1,f2⟩:=ev.froz e (by rw[jg λi _ z=>by rw[gn] at z;cases z];exact gn);rcases(ar b).mp z with z|z
    ·exact sub b z f1
    ·exact f2 z
  ·obtain⟨v,Fj,q1,q2,q3⟩:=se.slot j sl e1;refine⟨v,Fj,q1,λb z=>?_,q3.go (λ_ _ _ e=>e) λb o _ n z=>n (subp b z)⟩;have q:=bM (q2 b z);refine ca ?_ λz2=>by rw[(ev.tmp b z2).1] at q;cases q
   rw[dr λz2=>by rw[ho b z2] at q;cases q];exact q
theorem VR1.unlend(hb:bW kd=false)(sub:∀b,Sg g b->Sg g' b)(h:VR1 K H g' F kd d v F):VR1 K H g F kd d v F:=by
 have k2:∀b,Sx g F b->Sx g' F b:=λb z=>z.imp (sub b) id
 cases kd with
 |sh=>exact⟨h.1,h.2.weak k2⟩
 |fr k=>exact Tr.go (λ_ _ _ e=>e) (λb o _ n z=>n (k2 b z)) h
 |bo i k=>cases hb
theorem xP{s:Src}(hp:s.P K g H1)(hf:s.from g H bs)(ev:Evo (g.lend bs) H1 gi Hi gR):s.P K gi Hi:=by
 have fz:∀b o,H1 b=some o->¬Sg g b->Hi b=some o/\¬Sg gi b:=λb o e n=>by
  have n':g.lend bs b=none:=by
   cases q:g.lend bs b with
   |none=>rfl
   |some x=>exact absurd ((o6 b).mp (by rw[Sg,q];simp)) n
  obtain⟨f1,f2⟩:=ev.froz e n';exact⟨ev.keep b o (λi q=>by rw[n'] at q;cases q) e,λz=>z f1⟩
 refine Src.mono (g:=g) (H:=H1) (λb o e n=>(fz b o e n).2) (λb o hb e=>?_) (λa e=>hf.from_t e) hp;rcases hb with hb|hb
 ·exact(fz b o e hb).1
 ·rcases hf.from_l hb with hf|⟨i,hm,hf⟩
  ·exact(fz b o e (by rw[Sg,hf];simp)).1
  ·exact ev.keep b o (λj q=>by rw[qF hm hf] at q;cases q) e
end
noncomputable def cP(pn fg:List Nat)(tg:IT)(fb:Ro->Option Res):List D->Ro->Option Res
 |[],ρ=>some (.nx (clrN fg ρ))
 |d::ds,ρ=>match nh tg d with
  |some ps=>if(ps.all λp=>!pn.contains p.1)=true then(match fb (setAll ps (clrN fg ρ)) with
   |some (.nx ρ2)=>cP pn fg tg fb ds ρ2
   |some (.ct ρ2)=>cP pn fg tg fb ds ρ2
   |some (.bk ρ2)=>some (.nx (clrN fg ρ2))
   |some (.rt k d ρ2)=>some (.rt k d ρ2)
   |none=>none) else none
  |none=>none
noncomputable def zi(J:It)(g:TG)(tb:TS):TS:=λD σ H1=>∃W:Nat->Nat->L2.St->Hp->Prop,(∃m,W 0 m σ H1)/\∀i m σ H,W i m σ H->
 (J.stop i H/\D.nx σ H)\/(J.go i H/\∃N:L2.St->Hp->Prop,(∀σ' H',N σ' H'->∃m',m'<m/\W (i+1) m' σ' H')/\∀x H',J.yld i H x H'->g x σ H' λσ2 H2=>tb { D with nx:=N,ct:=N,bk:=D.nx } σ2 H2)
section
variable {X:Cx} {Γ:gz} {c:Cz} {pn:List Nat}
theorem uZ{ps:List (Nat×D)}(h:RpP K H S ps vs)(hp:(ps.all λp=>!pn.contains p.1)=true):PinOk pn σ (ip vs σ):=λi hi=>jc h λp hp' z=>by
 have:=KO.mp hp p hp';rw[z] at this;simp[hi] at this
theorem nM(O:aB X Γ c){fg:List Nat}{fb:Ro->Option Res}{tg:Expr}{t:IT}{n:Nat}{body:List Stmt}(htg:oe c n tg=some t)(hb:i0 X pn fb body){jj:It}{src:Src}{ds:List D}{g g0:Gh}{bs:List Nat}{H H1:Hp}{Dn:iW}{ρ:Ro}{σ:L2.St}{r:Res}
  (se:SE X.K (g.lend bs) ρ σ H1) (jt:gE X.K jj src ds) (sp:src.P X.K g H1) (sf:src.from g H bs) (h:cP pn fg t fb ds ρ=some r) (q:EndM X.K pn (g.lend bs) H1 σ Dn r) :
  zi jj (wG X tg) (El X body) Dn σ H1:=by
 refine⟨λi m σ' H'=>m=ds.length-i/\i<=ds.length/\∃ρ' g',SE X.K g' ρ' σ' H'/\Evo (g.lend bs) H1 g' H' gR/\PinOk pn σ σ'/\cP pn fg t fb (ds.drop i) ρ'=some r,
  ⟨ds.length,by simp,KJ _,ρ,g.lend bs,se,.refl _ _,PinOk.refl,by simpa using h⟩,?_⟩
 rintro i m σ' H' ⟨rfl,hi',ρ',g',se',ev',pk',hrest⟩
 obtain⟨j1,j2⟩:=jt i g' H' (xP sp sf ev') se'.mu;by_cases hlt:i<ds.length
 ·have hd:ds[i]?=some ds[i]:=Kg hlt;obtain⟨go,yl⟩:=j2 _ hd;rw[Ll hlt] at hrest;unfold cP at hrest;split at hrest
  ·rename_i ps hps;split at hrest
   ·rename_i hpn;refine .inr ⟨go,λσ2 H2=>ds.length-(i+1)=ds.length-(i+1)/\i+1<=ds.length/\∃ρ' g',SE X.K g' ρ' σ2 H2/\Evo (g.lend bs) H1 g' H2 gR/\PinOk pn σ σ2/\cP pn fg t fb (ds.drop (i+1)) ρ'=some r,λσ2 H2 hN=>⟨ds.length-(i+1),by lia,hN⟩,λx H2 hy=>?_⟩;obtain⟨s2,rx⟩:=yl x H2 hy;refine tV (qh O n htg) (i9 hps rx λvs hvs=>?_);have se2:=SE.setAll hvs ((se'.clrN fg).same s2);have ev2:Evo (g.lend bs) H1 g' H2 gR:=bH ev' (cK s2 (λ_ z=>z.elim) λ_ z=>z.elim);have pk2:=pk'.trans (uZ (σ:=σ') hvs hpn);split at hrest
    ·rename_i ρ2 hbody;exact hb _ _ hbody g' _ H2 _ se2 λσ4 g4 H4 ev4 se4 pk4=>⟨rfl,hlt,ρ2,g4,se4,bH ev2 ev4,pk2.trans pk4,hrest⟩
    ·rename_i ρ2 hbody;exact hb _ _ hbody g' _ H2 _ se2 λσ4 g4 H4 ev4 se4 pk4=>⟨rfl,hlt,ρ2,g4,se4,bH ev2 ev4,pk2.trans pk4,hrest⟩
    ·rename_i ρ2 hbody;cases hrest;exact hb _ _ hbody g' _ H2 _ se2 λσ4 g4 H4 ev4 se4 pk4=>q σ4 g4 H4 (bH ev2 ev4) (se4.clrN fg) (pk2.trans pk4)
    ·rename_i k d ρ2 hbody;cases hrest;exact hb _ _ hbody g' _ H2 _ se2 λv σ4 g4 H4 F4 ev4 se4 pk4 r4=>q v σ4 g4 H4 F4 (bH ev2 ev4) se4 (pk2.trans pk4) r4
    ·cases hrest
   ·cases hrest
  ·cases hrest
 ·have e:i=ds.length:=by lia
  subst e;rw[MN] at hrest;cases hrest;exact .inl ⟨j1 (Ki _),q σ' g' H' ev' (se'.clrN fg) pk'⟩
noncomputable def nN(bs:List Nat)(ρ:Ro)(r:Option Res):Option Res:=match r with
 |some (.nx ρ')=>some (.nx (sK bs ρ ρ'))
 |some (.rt k d ρ')=>if bW k=true then none else some (.rt k d (sK bs ρ ρ'))
 |_=>none
noncomputable def nO(pn fg:List Nat)(tg:IT)(fb:List Nat->Ro->Option Res)(it:IR):Option Res:=match it with
 |some (bs,ds,ρ)=>nN bs ρ (cP (pn++bs) fg tg (fb (pn++bs)) ds (clrN bs ρ))
 |none=>none
theorem PinOk.left{a b:List Nat}(h:PinOk (a++b) σ σ'):PinOk a σ σ':=λi hi=>h i (Lk _ hi)
theorem PinOk.right{a b:List Nat}(h:PinOk (a++b) σ σ'):PinOk b σ σ':=λi hi=>h i (Ky _ hi)
theorem BI(O:aB X Γ c)(hp:PassesOwn (model X.prog X.w) X.A X.env X.xe){fg:List Nat}{fi:Ro->IR}{fb:List Nat->Ro->Option Res}{tg iter:Expr}{t:IT}{n:Nat}{body:List Stmt}{pos:Pos}(htg:oe c n tg=some t)(hi:iR X fi tg iter)(hb:∀pn,i0 X pn (fb pn) body)(hs:eh iter=true) :
  di X pn (λρ=>nO pn fg t fb (fi ρ)) (.For tg iter body [] pos):=by
 intro ρ r h g σ H Dn se q;dsimp only[nO] at h;split at h
 ·rename_i bs ds ρ0 hit;refine cq (z4 hp O.calm wU wV gU (fA hs)) (hi ρ bs ds ρ0 hit g σ H _ se λjj src g1 H1 ev1 se1 jt sp sf=>?_);have q1:=q.from ev1 PinOk.refl;show zi jj (wG X tg) (El X body) Dn σ H1;unfold nN at h;split at h
  ·rename_i ρ' hf;cases h;refine nM (g0:=g1) O htg (hb _) (se1.lend bs) jt sp sf hf λσ' g' H' ev se' pk=>?_;obtain⟨c1,c2,_⟩:=iS (F:=gR) se1 ev (by rw[aW λ_ z=>z];exact se') pk.right;exact q1 σ' _ H' c1 (by rw[aW λ_ z=>z] at c2;exact c2) pk.left
  ·rename_i k d ρ' hf;split at h
   ·cases h
   ·rename_i hk;cases h;refine nM (g0:=g1) O htg (hb _) (se1.lend bs) jt sp sf hf λv σ' g' H' F ev se' pk vr=>?_;obtain⟨c1,c2,c3⟩:=iS se1 ev se' pk.right;exact q1 v σ' _ H' F c1 c2 pk.left (vr.unlend (by simpa using hk) c3)
  ·cases h
 ·cases h
noncomputable def iC(fg:List Nat)(ft:Ro->Option (Bool×Ro))(fb:Ro->Option Res):Nat->Ro->Option Res
 |0,_=>none
 |n+1,ρ=>match ft (clrN fg ρ) with
  |some (false,ρ1)=>some (.nx ρ1)
  |some (true,ρ1)=>(match fb ρ1 with
   |some (.nx ρ2)=>iC fg ft fb n ρ2
   |some (.ct ρ2)=>iC fg ft fb n ρ2
   |some (.bk ρ2)=>some (.nx (clrN fg ρ2))
   |some (.rt k d ρ2)=>some (.rt k d ρ2)
   |none=>none)
  |none=>none
theorem Ew(hp:PassesOwn (model X.prog X.w) X.A X.env X.xe){fg:List Nat}{ft:Ro->Option (Bool×Ro)}{fb:Ro->Option Res}{t:Expr}{body:List Stmt}{pos:Pos}(ht:fK X ft t)(hb:i0 X pn fb body)(n:Nat):di X pn (iC fg ft fb n) (.While t body [] pos):=by
 intro ρ r h g σ H Dn se q;refine cq (sX hp gx gU) ⟨λm σ' H'=>∃ρ' g',SE X.K g' ρ' σ' H'/\Evo g H g' H' gR/\PinOk pn σ σ'/\iC fg ft fb m ρ'=some r,⟨n,ρ,g,se,.refl g H,PinOk.refl,h⟩,?_⟩
 rintro m σ' H' ⟨ρ',g',se',ev',pk',hr⟩
 cases m with
 |zero=>cases hr
 |succ m=>
  unfold iC at hr;split at hr
  ·rename_i ρ1 e;cases hr
   exact ht _ _ _ e g' σ' H' _ (se'.clrN fg) λg1 H1 ev1 se1=>by
    rw[if_neg (by decide)];exact q σ' g1 H1 (bH ev' ev1) se1 pk'
  ·rename_i ρ1 e;refine ht _ _ _ e g' σ' H' _ (se'.clrN fg) λg1 H1 ev1 se1=>?_;rw[if_pos rfl];refine⟨λσ2 H2=>∃ρ2 g2,SE X.K g2 ρ2 σ2 H2/\Evo g H g2 H2 gR/\PinOk pn σ σ2/\iC fg ft fb m ρ2=some r,λσ2 H2 hN=>⟨m,Ly m,hN⟩,?_⟩;have ev2:=bH ev' ev1;split at hr
   ·rename_i ρ2 hbody;exact hb _ _ hbody g1 σ' H1 _ se1 λσ4 g4 H4 ev4 se4 pk4=>⟨ρ2,g4,se4,bH ev2 ev4,pk'.trans pk4,hr⟩
   ·rename_i ρ2 hbody;exact hb _ _ hbody g1 σ' H1 _ se1 λσ4 g4 H4 ev4 se4 pk4=>⟨ρ2,g4,se4,bH ev2 ev4,pk'.trans pk4,hr⟩
   ·rename_i ρ2 hbody;cases hr;exact hb _ _ hbody g1 σ' H1 _ se1 λσ4 g4 H4 ev4 se4 pk4=>q σ4 g4 H4 (bH ev2 ev4) (se4.clrN fg) (pk'.trans pk4)
   ·rename_i k d ρ2 hbody;cases hr;exact hb _ _ hbody g1 σ' H1 _ se1 λv σ4 g4 H4 F4 ev4 se4 pk4 r4=>q v σ4 g4 H4 F4 (bH ev2 ev4) se4 (pk'.trans pk4) r4
   ·cases hr
  ·cases hr
theorem Ex{f:Ro->Option Res}(is:List Nat)(h:di X pn f st):di X pn (λρ=>f (frzN is ρ)) st:=by
 intro ρ r hr g σ H Dn se q;obtain⟨g',s1,e1⟩:=SE.frzN is se;exact h _ r hr g' σ H Dn s1 (q.from e1 PinOk.refl)
noncomputable def Hz(op:Operator)(i j:Int):Option D:=match op with
 |.Add=>some (.int (i+j))
 |.Sub=>some (.int (i-j))
 |.Mod=>if 0<j then some (.int (i%j)) else none
 |.RShift=>if 0<=j then some (.int (i / 2^j.toNat)) else none
 |.BitAnd=>some (.int (Builtin.bitAnd i j))
 |.BitOr=>some (.int (Builtin.bitOr i j))
 |.BitXor=>some (.int (Builtin.bitXor i j))
 |_=>none
noncomputable def HA(op:Operator)(i j:Str):Option D:=match op with
 |.Add=>if i.length+j.length<=100000 then some (.str (i++j)) else none
 |_=>none
noncomputable def xQ(op:Operator)(x y:D):Option D:=match x with
 |.int i=>(match y with|.int j=>Hz op i j|_=>none)
 |.str i=>(match y with|.str j=>HA op i j|_=>none)
 |_=>none
noncomputable def iT:D->Option V
 |.int i=>some (.int i)
 |.str x=>some (.str x)
 |.bl b=>some (.bl b)
 |.non=>some .non
 |_=>none
theorem u0(h:iT d=some v):Rp K H S d v:=by
 cases d<;>first|(cases h;unfold Rp;rfl)|cases h
theorem nP(h:iT d=some v)(r:Rp K H S d u):u=v:=by
 cases d<;>first|(cases h;unfold Rp at r;exact r)|cases h
theorem r6(h:xQ op x y=some z):∃u v w,iT x=some u/\iT y=some v/\iT z=some w:=by
 cases x with
 |int i=>cases y with
  |int j=>cases op<;>first|(cases h;exact⟨_,_,_,rfl,rfl,rfl⟩)|(obtain⟨_,e⟩:=n9 h;cases e;exact⟨_,_,_,rfl,rfl,rfl⟩)|cases h
  |_=>cases h
 |str i=>cases y with
  |str j=>cases op<;>first|(obtain⟨_,e⟩:=n9 h;cases e;exact⟨_,_,_,rfl,rfl,rfl⟩)|cases h
  |_=>cases h
 |_=>cases h
noncomputable def HB(op:Operator):V->V->Hp->VK->Prop:=λx y H Q=>∃dx dy dz u,iT dx=some x/\iT dy=some y/\xQ op dx dy=some dz/\iT dz=some u/\Q u H
theorem BJ(op:Operator):Jh X op (HB op):=by
 intro pins s σ H x y v u Q I rx ry h;obtain⟨dx,dy,dz,w,hx,hy,hd,hz,q⟩:=h
 cases dx with
 |int i=>cases dy with
  |int j=>cases op with
   |Add=>cases hd;cases hx;cases hy;cases hz;exact wo pins s σ H _ _ v u Q I rx ry ⟨_,_,rfl,rfl,q⟩
   |Sub=>cases hd;cases hx;cases hy;cases hz;exact wq pins s σ H _ _ v u Q I rx ry ⟨_,_,rfl,rfl,q⟩
   |Mod=>obtain⟨hl,e⟩:=n9 hd;cases e;cases hx;cases hy;cases hz;exact wt pins s σ H _ _ v u Q I rx ry ⟨_,_,rfl,rfl,hl,q⟩
   |RShift=>obtain⟨hl,e⟩:=n9 hd;cases e;cases hx;cases hy;cases hz;exact wu pins s σ H _ _ v u Q I rx ry ⟨_,_,rfl,rfl,hl,q⟩
   |BitAnd=>cases hd;cases hx;cases hy;cases hz;exact wv pins s σ H _ _ v u Q I rx ry ⟨_,_,rfl,rfl,q⟩
   |BitOr=>cases hd;cases hx;cases hy;cases hz;exact Ad pins s σ H _ _ v u Q I rx ry ⟨_,_,rfl,rfl,q⟩
   |BitXor=>cases hd;cases hx;cases hy;cases hz;exact ww pins s σ H _ _ v u Q I rx ry ⟨_,_,rfl,rfl,q⟩
   |_=>cases hd
  |_=>cases hd
 |str i=>cases dy with
  |str j=>cases op with
   |Add=>obtain⟨hl,e⟩:=n9 hd;cases e;cases hx;cases hy;cases hz;exact mK pins s σ H _ _ v u Q I rx ry ⟨_,_,rfl,rfl,a7 hl,q⟩
   |_=>cases hd
  |_=>cases hd
 |_=>cases hd
noncomputable def u3(pn:List Nat)(i:Nat)(op:Operator)(o:Option (Option Sl))(a:MR):Option Res:=match o,a with
 |some (some s),some (_,dy,ρ1)=>if i∈pn then none else(match xQ op s.d dy with|some dz=>some (.nx (ρ1.set i (some (CB dz))))|none=>none)
 |_,_=>none
theorem Ey(O:aB X Γ c){f:Ro->MR}{x:Str}{i:Nat}{op:Operator}{e:Expr}{p pos:Pos}(hl:lY c x=true)(hi:bF x c.N=some i)(hf:bt X f e):di X pn (λρ=>u3 pn i op ρ[i]? (f ρ)) (.AugAssign (.Name x p) op e pos):=by
 intro ρ r h g σ H Dn se q;have l:=jG O hl;dsimp only[u3] at h;split at h
 ·rename_i sl ky dy ρ1 hs he;split at h
  ·cases h
  ·rename_i hp;split at h
   ·rename_i dz hd;cases h;obtain⟨ux,uy,uz,ax,ay,az⟩:=r6 hd;obtain⟨v,F0,e1,e2,e3⟩:=se.slot i _ hs;have ev:=nP ax e3.rd;subst ev;refine cq (zY (i:=i) (by rw[O.N];exact O.nd) (by rw[O.N];exact bd hi) l.1 aA (BJ op) l.2) ⟨_,e1,hf ρ _ _ _ he g σ H _ se λy g1 H1 F ev1 se1 r1=>?_⟩;have ey:=nP ay r1.rd;subst ey;refine⟨_,_,dz,uz,ax,ay,hd,az,?_⟩;have se2:=se1.drop (F2:=gR) (λ_ z=>z.elim) λb z=>(ev1.tmp b z).1;rw[aW λ_ z=>z] at se2;exact q _ g1 H1 (ev1.drop λ_ z=>z.elim) (se2.set i (u0 az)) (PinOk.set hp)
   ·cases h
 ·cases h
end
end J
namespace J
open PySem PySem.Spec L2
section
variable {X:Cx} {Γ:gz} {c:Cz} {pn:List Nat}
end
end J
namespace J
open PySem PySem.Spec L2
theorem mn{κ:Type}[DecidableEq κ]{v:V}:∀(kvs:List (κ×V)) (k:κ) (j:Nat),(kvs.map (·.1)).Nodup->kvs.findIdx? (λkv=>decide (kv.1=k))=some j->(kvs.map (λkv=>if kv.1=k then(kv.1,v) else kv)).map (·.2)=(kvs.map (·.2)).set j v
 |[],k,j,_,h=>by simp at h
 |(a,b)::r,k,j,hn,h=>by
  rw[KU] at h;rw[KM,KR] at hn;by_cases e:a=k
  ·subst e;simp at h;subst h
   have:r.map (λkv=>if kv.1=a then(kv.1,v) else kv)=r:=by
    conv=>rhs;rw[<- List.map_id r]
    refine Lg λkv hk=>?_;rw[if_neg λz=>hn.1 (KW.mpr ⟨kv,hk,z⟩)];rfl
   simp[this]
  ·simp only[e,decide_false] at h;obtain⟨j',h',rfl⟩:=aS (by simpa using h);have:=mn (v:=v) r k j' hn.2 h';simp only[KM,e,if_false,Mu,this]
theorem qH{κ:Type}[DecidableEq κ]{v:V}(kvs:List (κ×V))(k:κ):(kvs.map (λkv=>if kv.1=k then(kv.1,v) else kv)).map (·.1)=kvs.map (·.1):=by
 rw[KH];refine Lg λkv _=>?_;simp only[Function.comp]
 split<;>rfl
theorem cQ{κ:Type}[DecidableEq κ]{kvs:List (κ×V)}{k:κ}:(kvs.any λkv=>decide (kv.1=k))=(kvs.findIdx? λkv=>decide (kv.1=k)).isSome:=by
 rw[Ml]
theorem iE{α β:Type}{f:α->β}:∀{l:List α},(l.map f).Nodup->l.Nodup
 |[],_=>.nil
 |a::l,h=>by
  rw[KM,KR] at h;exact KR.mpr ⟨λz=>h.1 (LQ z),iE h.2⟩
theorem xR{H:Hp}{t:Nat}{ks:List DK}{xs:List V}{k:DK}{y v:V}(g:H a=some o)(q:eL K o (.dic t ks) xs)(h:kG d=some k)(r:Rp K H S d y)(hk:rH t k=true)(hz:xs.length<sizeLine) :
  (∀j,bN ks k=some j->ks.Nodup->∃o':Nat->HO,DPut H a y v (λe=>upd H a (o' e))/\∀e,(∀xs,o' e≠.tup xs)/\eL K (o' e) (.dic t ks) (xs.set j v))/\(bN ks k=none->∃o':Nat->HO,DPut H a y v (λe=>upd H a (o' e))/\∀e,(∀xs,o' e≠.tup xs)/\eL K (o' e) (.dic t (ks++[k])) (xs++[v])):=by
 rcases q with⟨rfl,kvs,rfl,e1,e2⟩|⟨m,rfl,kvs,ep,rfl,e1,e2⟩
 ·rcases jE h r with⟨x,rfl,rfl⟩|⟨ys,b,rfl,rfl,gb⟩
  ·have e3:bN ks (.inl x)=kvs.findIdx? λkv=>decide (kv.1=x):=by
    unfold bN;rw[e1,Ls];congr 1;funext p;simp[Sum.inl.injEq]
   have hl:kvs.length<sizeLine:=by rw[e2] at hz;simpa using hz
   have dp:=DPut.k (k:=x) (v:=v) g hl;refine⟨λj hj hn=>⟨λ_=>.dK (c9 kvs x v),dp,λ_=>⟨(λxs h=>by cases h),.inl ⟨rfl,_,rfl,?_,?_⟩⟩⟩,λhj=>⟨λ_=>.dK (c9 kvs x v),dp,λ_=>⟨(λxs h=>by cases h),.inl ⟨rfl,_,rfl,?_,?_⟩⟩⟩⟩
   ·rw[e3] at hj;unfold c9;rw[cQ,hj,if_pos (by rfl),e1];have:=congrArg (K6 (Sum.inl:aI->DK)) (qH (v:=v) kvs x);simp only[KH] at this⊢;exact this.symm
   ·rw[e3] at hj;unfold c9;rw[cQ,hj,if_pos (by rfl),e2]
    have hn':(kvs.map (·.1)).Nodup:=by
     rw[e1] at hn;have:kvs.map (λp=>(Sum.inl p.1:DK))=(kvs.map (·.1)).map Sum.inl:=by rw[KH];rfl
     rw[this] at hn;exact iE hn
    exact(mn kvs x j hn' hj).symm
   ·rw[e3] at hj;unfold c9;rw[cQ,hj,if_neg (by simp),e1];simp
   ·rw[e3] at hj;unfold c9;rw[cQ,hj,if_neg (by simp),e2];simp
  ·cases hk
 ·rcases jE h r with⟨x,rfl,rfl⟩|⟨ys,b,rfl,rfl,gb⟩
  ·cases hk
  ·have e3:bN ks (.inr ys)=kvs.findIdx? λkv=>decide (kv.1=ys):=by
    unfold bN;rw[e1,Ls];congr 1;funext p;simp[Sum.inr.injEq]
   have hl:kvs.length<sizeLine:=by rw[e2] at hz;simpa using hz
   have dp:=DPut.t (k:=ys) (v:=v) g (gb m hk) hl;refine⟨λj hj hn=>⟨λe=>.dT m e (c9 kvs ys v),dp,λe=>⟨(λxs h=>by cases h),.inr ⟨m,rfl,_,e,rfl,?_,?_⟩⟩⟩,λhj=>⟨λe=>.dT m e (c9 kvs ys v),dp,λe=>⟨(λxs h=>by cases h),.inr ⟨m,rfl,_,e,rfl,?_,?_⟩⟩⟩⟩
   ·rw[e3] at hj;unfold c9;rw[cQ,hj,if_pos (by rfl),e1];have:=congrArg (K6 (Sum.inr:List (aI ⊕ List aI)->DK)) (qH (v:=v) kvs ys);simp only[KH] at this⊢;exact this.symm
   ·rw[e3] at hj;unfold c9;rw[cQ,hj,if_pos (by rfl),e2]
    have hn':(kvs.map (·.1)).Nodup:=by
     rw[e1] at hn;have:kvs.map (λp=>(Sum.inr p.1:DK))=(kvs.map (·.1)).map Sum.inr:=by rw[KH];rfl
     rw[this] at hn;exact iE hn
    exact(mn kvs ys j hn' hj).symm
   ·rw[e3] at hj;unfold c9;rw[cQ,hj,if_neg (by simp),e1];simp
   ·rw[e3] at hj;unfold c9;rw[cQ,hj,if_neg (by simp),e2];simp
section
variable {K:Ka} {H:Hp} {S:Pr}
theorem TrL.setAt:∀{ds:List D} {es:List Ow} {r:Ow} {xs:List V} {F F2:Pr} {j:Nat} {d:D} {v:V},TrL K H S ds es r xs F->j<ds.length->Tr K H S d (es.getD j r) v F2->(∀b,F b->¬F2 b)->∃F3:Pr,(∀b,F3 b->F b\/F2 b)/\TrL K H S (ds.set j d) es r (xs.set j v) F3
 |[],_,_,_,_,_,_,_,_,_,hj,_,_=>by simp at hj
 |d0::ds,es,r,xs,F,F2,0,d,v,h,hj,t,dj=>by
  unfold TrL at h;obtain⟨y,ys,F1,F3,rfl,hF,dj1,h1,h2⟩:=h;refine⟨λb=>F2 b\/F3 b,λb z=>z.elim .inr λz=>.inl ((hF b).mpr (.inr z)),?_⟩;show TrL K H S (d::ds) es r (v::ys) _;unfold TrL
  exact⟨v,ys,F2,F3,rfl,λb=>Iff.rfl,λb z1 z2=>dj b ((hF b).mpr (.inr z2)) z1,by cases es<;>simpa using t,h2⟩
 |d0::ds,es,r,xs,F,F2,j+1,d,v,h,hj,t,dj=>by
  unfold TrL at h;obtain⟨y,ys,F1,F3,rfl,hF,dj1,h1,h2⟩:=h
  have eg:es.tail.getD j r=es.getD (j+1) r:=by cases es<;>simp
  obtain⟨F4,a1,a2⟩:=TrL.setAt (j:=j) (d:=d) (v:=v) (F2:=F2) h2 (by simpa using hj) (by rw[eg];exact t) λb z=>dj b ((hF b).mpr (.inr z));refine⟨λb=>F1 b\/F4 b,λb z=>z.elim (λz=>.inl ((hF b).mpr (.inl z))) λz=>(a1 b z).imp (λz=>(hF b).mpr (.inr z)) id,?_⟩;show TrL K H S (d0::ds.set j d) es r (y::ys.set j v) _;unfold TrL;refine⟨y,_,F1,F4,rfl,λb=>Iff.rfl,λb z1 z2=>?_,h1,a2⟩;rcases a1 b z2 with z|z
  ·exact dj1 b z1 z
  ·exact dj b ((hF b).mpr (.inl z1)) z
end
noncomputable def gX(es:List Ow)(r:Ow)(hd:Hd)(ds:List D)(dx:D)(x:KD):Option (Hd×List D):=match hd with
 |.lst=>(match dx with|.int z=>(match iK ds.length z with|some j=>if cw (es.getD j r) x=true then some (.lst,ds.set j x.2) else none|none=>none)|_=>none)
 |.dic t ks=>(match kG dx with
  |some k=>if rH t k=true/\ds.length<100000 then(match bN ks k with
   |some j=>if cw (es.getD j r) x=true/\ks.Nodup/\j<ds.length then some (.dic t ks,ds.set j x.2) else none
   |none=>if es.length<=ds.length/\cw r x=true then some (.dic t (ks++[k]),ds++[x.2]) else none) else none
  |none=>none)
 |_=>none
noncomputable def r8(i:Nat)(fp:Ro->Option (Ow×D×(D->D)))(fk:Ro->Option KD)(a:MR):Option Res:=match a with
 |some (kd,d,ρ1)=>(match fp ρ1,fk ρ1,ρ1[i]? with
  |some (.own es r,.nd hd ds,up),some (_,dx),some (some ⟨false,k,_⟩)=>(match gX es r hd ds dx (dC kd d,d) with
   |some (hd',ds')=>some (.nx (ρ1.set i (some ⟨false,k,up (.nd hd' ds')⟩)))
   |none=>none)
  |_,_,_=>none)
 |none=>none
theorem lu{n:Nat}:swapsWithSole [.Subscript o b sp] e n env=pure false:=by
 cases e<;>rfl
theorem qI:swappedStores [.Subscript o b sp] e env=pure none:=by
 cases e<;>rfl
section
variable {X:Cx} {Γ:gz} {c:Cz} {pn:List Nat}
theorem nQ{H H0:Hp}{g g0:Gh}{ρ:Ro}{i:Nat}{up:D->D}{xs:List V}{x:KD}{Dn:iW}(hpd:gX es r hd ds dx x=some (hd',ds'))(nd:mi K H g F ρ σ i k es r hd ds up a o xs F')(ev:Evo g0 H0 g H F)(se:SE K (g.plus F) ρ σ H)(vr:VR1 K H g F x.1 x.2 v F)(ry:Rp K H S dx y)(q:EndM K pn g0 H0 σ Dn (.nx (ρ.set i (some ⟨false,k,up (.nd hd' ds')⟩)))) :
  (∃z j,hd=.lst/\y=.int z/\o=.lst xs/\H a=some o/\iK xs.length z=some j/\Dn.nx σ (upd H a (.lst (xs.set j v))))\/((∃t ks,hd=.dic t ks)/\∃F4,DPut H a y v F4/\∀e,Dn.nx σ (F4 e)):=by
 have hF:∀b,F b->g b=none:=λb z=>(ev.tmp b z).1;have mm:MuOk H (Sx g F):=λb z=>se.mu b ((ar b).mpr z);have sub:∀(F2:Pr),(∀b,F2 b->F b)->∀b,Sg (g.give F2 i) b->Sg (g.plus F) b:=λF2 s2 b z=>(ar b).mpr ((give_S.mp z).imp id (s2 b))
 have fin:∀{kc:Ow},cw kc x=true->∃F2:Pr,(∀b,F2 b->F b)/\Tr K H (Sg (g.give F2 i)) x.2 kc v F2/\(∀b,F' b->¬F2 b):=λ{kc} hf=>by
  obtain⟨F2,a1,a2⟩:=VR1.fit (p:=x) hf mm hF (λb z=>z) vr;refine⟨F2,a1,a2 _ λb z=>?_,λb z1 z2=>by have:=nd.lab b z1;rw[hF b (a1 b z2)] at this;cases this⟩;exact(give_S.mp z).elim (λz=>.inr (.inl z)) λz=>.inr (.inr (.inl z))
 have out:∀{o':HO} {F2:Pr},(∀b,F2 b->F b)->SE K (g.give F2 i) (ρ.set i (some ⟨false,k,up (.nd hd' ds')⟩)) σ (upd H a o')->Dn.nx σ (upd H a o'):=λ{o' F2} s2 s=>q σ _ _ (ev.give s2 nd.own) s PinOk.refl;unfold gX at hpd;split at hpd
 ·split at hpd
  ·rename_i z;split at hpd
   ·rename_i j hj;split at hpd
    ·rename_i hf;cases hpd;obtain⟨F2,b1,b2,b3⟩:=fin hf;have ho:o=.lst xs:=nd.ok;have hlen:=nd.kids.len;have hj':j<ds.length:=(lN hj).2.1;obtain⟨F3,c1,c2⟩:=(nd.kids.go (S':=Sg (g.give F2 i)) (λ_ _ _ e=>e) λb o _ n z=>n (sub F2 b1 b z)).setAt hj' b2 b3;exact .inl ⟨z,j,rfl,ry.int,ho,nd.at_,by rw[hlen];exact hj,out b1 (nd.put (.lst (xs.set j v)) .lst _ _ F2 F3 rfl rfl (λxs h=>by cases h) b1 c1 c2)⟩
    ·cases hpd
   ·cases hpd
  ·cases hpd
 ·rename_i t ks;split at hpd
  ·rename_i kk hk;split at hpd
   ·rename_i hfk;have hlen:=nd.kids.len;obtain⟨p1,p2⟩:=xR (v:=v) nd.at_ nd.ok hk ry hfk.1 (by rw[hlen];exact Km hfk.2 (a7 (Ki _)));split at hpd
    ·rename_i j hj;split at hpd
     ·rename_i hf;cases hpd;obtain⟨o',d1,d2⟩:=p1 j hj hf.2.1;obtain⟨F2,b1,b2,b3⟩:=fin hf.1;obtain⟨F3,c1,c2⟩:=(nd.kids.go (S':=Sg (g.give F2 i)) (λ_ _ _ e=>e) λb o _ n z=>n (sub F2 b1 b z)).setAt hf.2.2 b2 b3;exact .inr ⟨⟨t,ks,rfl⟩,_,d1,λe=>out b1 (nd.put (o' e) (.dic t ks) _ _ F2 F3 rfl (d2 e).2 (d2 e).1 b1 c1 c2)⟩
     ·cases hpd
    ·rename_i hj;split at hpd
     ·rename_i hf;cases hpd;obtain⟨o',d1,d2⟩:=p2 hj;obtain⟨F2,b1,b2,b3⟩:=fin hf.2;have c2:=TrL.snoc2 hf.1 (nd.kids.go (S':=Sg (g.give F2 i)) (λ_ _ _ e=>e) λb o _ n z=>n (sub F2 b1 b z)) b2 b3;exact .inr ⟨⟨t,ks,rfl⟩,_,d1,λe=>out b1 (nd.put (o' e) (.dic t (ks++[kk])) _ _ F2 _ rfl (d2 e).2 (d2 e).1 b1 (λb z=>z) c2)⟩
     ·cases hpd
   ·cases hpd
  ·cases hpd
 ·cases hpd
theorem Ez(O:aB X Γ c){f:Ro->MR}{i:Nat}{fp:Ro->Option (Ow×D×(D->D))}{fk:Ro->Option KD}{b k e:Expr}{sp pos:Pos}(hf:bt X f e)(hp:nC X i fp b)(hk:SndE X fk k)(hpl:cz k=true)(hn:eD e=true):di X pn (λρ=>r8 i fp fk (f ρ)) (.Assign [.Subscript b k sp] e pos):=by
 intro ρ r h g σ H Dn se q;dsimp only[r8] at h;split at h
 ·rename_i kd d ρ1 he;split at h
  ·rename_i es r0 hd ds up kx dx kk d0 ep ek ei;split at h
   ·rename_i hd' ds' hpd;cases h
    have mu:hd.mu=true:=by
     cases hd with
     |tup=>simp[gX] at hpd
     |_=>rfl
    have core:∀v g1 H1 F,Evo g H g1 H1 F->SE X.K (g1.plus F) ρ1 σ H1->VR1 X.K H1 g1 F kd d v F->∀v1 H2 w Fi k' d',Same H1 H2->ρ1[i]?=some (some ⟨false,k',d'⟩)->σ[i]?=some (some w)->(∀b,Fi b->(g1.plus F) b=some (some i))->FP X.K H2 (Sg (g1.plus F)) k' w Fi (.own es r0) (.nd hd ds) v1 up->∀y H3,Same H2 H3->VR X.K (g1.plus F) H2 H3 kx dx y->
      ∃a o xs F',v1=.ref a/\mi X.K H3 g1 F ρ1 σ i kk es r0 hd ds up a o xs F'/\((∃z j,hd=.lst/\y=.int z/\o=.lst xs/\H3 a=some o/\iK xs.length z=some j/\Dn.nx σ (upd H3 a (.lst (xs.set j v))))\/((∃t ks,hd=.dic t ks)/\∃F4,DPut H3 a y v F4/\∀e,Dn.nx σ (F4 e))):=by
     intro v g1 H1 F ev se1 vr v1 H2 w Fi k' d' s2 ei' ew lb fp1 y H3 s3 ry;rw[ei] at ei';cases ei';have rS:=s2.trans s3;have se3:=se1.same rS;have ev3:Evo g H g1 H3 F:=⟨λb o n e=>rS _ _ (ev.keep b o n e),ev.out,ev.new,ev.tmp,λb o e=>let ⟨o',q1⟩:=ev.dom b o e;⟨o',rS _ _ q1⟩⟩;obtain⟨a,o,xs,F',rfl,nd⟩:=FP.node se3 (λb z=>(ev.tmp b z).1) ei ew lb (fp1.same s3) mu;exact⟨a,o,xs,F',rfl,nd,nQ (x:=(dC kd d,d)) hpd nd ev3 se3 ((vr.im se1.mu).go rS λ_ _ _ z=>z) ry.rd q⟩
    cases hd with
    |lst=>
     refine cq (lI aA (sV aA aA mP (by intro v;cases k<;>first|rfl|cases hpl)) lu qI) ?_
     refine hf ρ _ _ _ he g σ H _ se λv g1 H1 F ev se1 vr=>hp ρ1 _ _ _ ep (g1.plus F) σ H1 _ se1 λv1 H2 w Fi k' d' s2 ei' ew lb fp1=>hk ρ1 _ _ ek (g1.plus F) σ H2 _ (se1.same s2) λy H3 s3 ry=>?_;obtain⟨a,o,xs,F',rfl,nd,fin⟩:=core v g1 H1 F ev se1 vr v1 H2 w Fi k' d' s2 ei' ew lb fp1 y H3 s3 ry;rcases fin with⟨z,j,_,rfl,rfl,g3,hj,fin⟩|⟨⟨t,ks,z⟩,_⟩
     ·exact⟨a,xs,z,j,rfl,rfl,g3,hj,fin⟩
     ·cases z
    |dic t ks=>
     refine cq (wK (by have:=O.tab.units;lia) aA aA aA (je hn)) ?_;refine hf ρ _ _ _ he g σ H _ se λv g1 H1 F ev se1 vr=>hp ρ1 _ _ _ ep (g1.plus F) σ H1 _ se1 λv1 H2 w Fi k' d' s2 ei' ew lb fp1=>hk ρ1 _ _ ek (g1.plus F) σ H2 _ (se1.same s2) λy H3 s3 ry=>?_;obtain⟨a,o,xs,F',rfl,nd,fin⟩:=core v g1 H1 F ev se1 vr v1 H2 w Fi k' d' s2 ei' ew lb fp1 y H3 s3 ry;rcases fin with⟨z,j,zz,_⟩|⟨_,H4,d1,fin⟩
     ·cases zz
     ·exact⟨a,H4,rfl,d1,fin⟩
    |tup=>cases mu
    |obj c ns=>simp[gX] at hpd
   ·cases h
  ·cases h
 ·cases h
noncomputable def lw(i:Nat)(o:Option (Option Sl))(a:Option (List KD×Ro)):Option Res:=match o,a with
 |some (some _),some ([x,y],ρ1)=>(match ρ1[i]? with
  |some (some ⟨false,.own es r,.nd .lst ds⟩)=>(match gX es r .lst ds y.2 (dC x.1 x.2,x.2) with
   |some (hd',ds')=>some (.nx (ρ1.set i (some ⟨false,.own es r,.nd hd' ds'⟩)))
   |none=>none)
  |_=>none)
 |_,_=>none
theorem BK(O:aB X Γ c){fa:Ro->Option (List KD×Ro)}{i:Nat}{z:Str}{k e:Expr}{sp pos p:Pos}(ha:jW X fa e k)(hz:d3 c z=some i)(hpl:cz k=true)(hn:eD e=true):di X pn (λρ=>lw i ρ[i]? (fa ρ)) (.Assign [.Subscript (.Name z p) k sp] e pos):=by
 intro ρ r h g σ H Dn se q;dsimp only[lw] at h;split at h
 ·rename_i sl x y ρ1 e0 he;split at h
  ·rename_i es r0 ds ei;split at h
   ·rename_i hd' ds' hpd;cases h;obtain⟨w0,_,ew,_,_⟩:=se.slot i sl e0
    refine cq (lI aA (sV aA aA L2.mP (by intro v;cases k<;>first|rfl|cases hpl)) lu qI) ?_
    refine cC (ha ρ _ _ he g σ H (λvs H3=>∃v y',vs=[v,y']/\∃a xs z j,w0=.ref a/\y'=.int z/\H3 a=some (.lst xs)/\iK xs.length z=some j/\Dn.nx σ (upd H3 a (.lst (xs.set j v)))) se λvs g1 H3 F ev se1 vr=>?_) λv H1 h1=>fD O hz p ew (cC h1 λy' H3 h3=>?_)
    ·unfold VRL at vr;obtain⟨v,ys,Fa,Fb,rfl,hF,dj,v1,v2⟩:=vr;unfold VRL at v2;obtain⟨y',ys2,Fc,Fd,rfl,hF2,dj2,v3,v4⟩:=v2;unfold VRL at v4;obtain⟨rfl,hn4⟩:=v4;have sFa:∀b,Fa b->F b:=λb z=>(hF b).mpr (.inl z);have ev2:=ev.drop sFa;have se2:=se1.drop sFa λb z=>(ev.tmp b z).1;obtain⟨w1,Fi,e1,e2,e3⟩:=se2.slot i _ ei;rw[ew] at e1;cases e1;obtain⟨a,o,xs,F',rfl,nd⟩:=FP.node se2 (λb z=>(ev2.tmp b z).1) ei ew e2 (FP.root e3) rfl;have v1':VR1 X.K H3 g1 Fa x.1 x.2 v Fa:=v1.go (Same.refl H3) λb o _ z=>sFa b z;have core:=nQ (x:=(dC x.1 x.2,x.2)) hpd nd ev2 se2 (v1'.im se2.mu) v3.rd q;rcases core with⟨z,j,_,e5,e6,e7,e8,fin⟩|⟨⟨t,ks,z⟩,_⟩
     ·subst e6;exact⟨v,y',rfl,a,xs,z,j,rfl,e5,e7,e8,fin⟩
     ·cases z
    ·obtain⟨v0,y0,e,rest⟩:=h3;cases e;obtain⟨a,xs,z,j,e1,e2,e3,e4,e5⟩:=rest;exact⟨a,xs,z,j,e1,e2,e3,e4,e5⟩
   ·cases h
  ·cases h
 ·cases h
end
end J
namespace J
open PySem PySem.Spec L2
mutual
inductive IS where
 |asg (i:Nat) (a:ME)
 |unp (is:List Nat) (a:ME)
 |aug (i:Nat) (op:Operator) (a:ME)
 |put (b:BP) (k:IE) (a:ME)
 |putF (c:Str) (b:BP) (f:Str) (a:ME)
 |putM (i:Nat) (as:hV)
 |par (i j:Nat) (es:fW)
 |ret (a:ME)
 |retN
 |ifs (t:MT) (a b:bX)
 |fo (fg:List Nat) (tg:IT) (it:MI) (b:bX)
 |wh (fg:List Nat) (t:MT) (b:bX)
 |pas
 |brk
 |cnt
 |exp (a:ME)
 |pre (is:List Nat) (s:IS)
 |fap (i x:Nat) (v:Int)
 |stk
inductive bX where
 |nil
 |cons (s:IS) (r:bX)
end
mutual
noncomputable def dN(Γ:GG)(N:Nat):IS->List Nat->Ro->Option Res
 |.asg i a,pn,ρ=>o5 pn i (aP Γ a ρ)
 |.unp is a,pn,ρ=>uR pn is (aP Γ a ρ)
 |.aug i op a,pn,ρ=>u3 pn i op ρ[i]? (aP Γ a ρ)
 |.put b k a,_,ρ=>r8 b.slot (ll Γ.fn b) (af Γ.fn k) (aP Γ a ρ)
 |.putF c b f a,_,ρ=>none
 |.putM i as,_,ρ=>lw i ρ[i]? (aY Γ as ρ)
 |.par i j es,pn,ρ=>uY pn i j (aR Γ.fn es ρ) ρ
 |.ret a,_,ρ=>uT (aP Γ a ρ)
 |.retN,_,ρ=>none
 |.ifs t a b,pn,ρ=>uV (bB Γ t ρ) (aH Γ N a pn) (aH Γ N b pn)
 |.fo fg tg it b,pn,ρ=>nO pn fg tg (aH Γ N b) (cx Γ it ρ)
 |.wh fg t b,pn,ρ=>iC fg (bB Γ t) (aH Γ N b pn) N ρ
 |.pas,_,ρ=>some (.nx ρ)
 |.brk,_,ρ=>none
 |.cnt,_,ρ=>none
 |.exp a,_,ρ=>uU (aP Γ a ρ)
 |.pre is s,pn,ρ=>dN Γ N s pn (frzN is ρ)
 |.fap i x v,pn,ρ=>none
 |.stk,_,_=>none
noncomputable def aH(Γ:GG)(N:Nat):bX->List Nat->Ro->Option Res
 |.nil,_,ρ=>some (.nx ρ)
 |.cons s r,pn,ρ=>uW (dN Γ N s pn ρ) (aH Γ N r pn)
end
section
theorem xS{N:Nat}:dN Γ N (.asg i a) pn ρ=o5 pn i (aP Γ a ρ):=rfl
theorem xT{N:Nat}:dN Γ N (.unp is a) pn ρ=uR pn is (aP Γ a ρ):=rfl
theorem xU{N:Nat}:dN Γ N (.aug i op a) pn ρ=u3 pn i op ρ[i]? (aP Γ a ρ):=rfl
theorem xV{Γ:GG}{N:Nat}:dN Γ N (.put b k a) z0 ρ=r8 b.slot (ll Γ.fn b) (af Γ.fn k) (aP Γ a ρ):=rfl
theorem u4{N:Nat}:dN Γ N (.putM i as) z0 ρ=lw i ρ[i]? (aY Γ as ρ):=rfl
theorem xW{Γ:GG}{N:Nat}:dN Γ N (.par i j es) pn ρ=uY pn i j (aR Γ.fn es ρ) ρ:=rfl
theorem xX{N:Nat}:dN Γ N (.ret a) z0 ρ=uT (aP Γ a ρ):=rfl
theorem qJ{N:Nat}:dN Γ N (.ifs t a b) pn ρ=uV (bB Γ t ρ) (aH Γ N a pn) (aH Γ N b pn):=rfl
theorem o8{N:Nat}:dN Γ N (.fo fg tg it b) pn ρ=nO pn fg tg (aH Γ N b) (cx Γ it ρ):=rfl
theorem BL{N:Nat}:dN Γ N (.wh fg t b) pn ρ=iC fg (bB Γ t) (aH Γ N b pn) N ρ:=rfl
theorem xY{N:Nat}:dN Γ N (.exp a) z0 ρ=uU (aP Γ a ρ):=rfl
theorem xZ{N:Nat}:dN Γ N (.pre is s) pn ρ=dN Γ N s pn (frzN is ρ):=rfl
end
theorem eX{f:Ro->Option Res}(h:∀ρ,f ρ=none):di X pn f e:=λρ r hh=>by rw[h] at hh;cases hh
structure An where
 fg:Nat->List Nat:=λ_=>[]
 pz:Nat->List Nat:=λ_=>[]
 fa:Nat->Bool:=λ_=>false
 sk:Nat->Bool:=λ_=>false
noncomputable def o9(f:Stmt->Option IS):List Stmt->Option bX
 |[]=>some .nil
 |s::r=>match f s,o9 f r with|some a,some b=>some (.cons a b)|_,_=>none
noncomputable def pc:Stmt->Nat
 |.Assign _ _ p=>p.line
 |.AugAssign _ _ _ p=>p.line
 |.Return _ p=>p.line
 |.Expr _ p=>p.line
 |.If _ _ _ p=>p.line
 |.For _ _ _ _ p=>p.line
 |.While _ _ _ p=>p.line
 |.Raise _ _ p=>p.line
 |.Try _ _ _ _ p=>p.line
 |.Delete _ p=>p.line
 |_=>0
noncomputable def qK:Expr->Bool
 |.ListComp _ gs _ _=>(match gs with|[]=>false|g::gs=>(match gs with|[]=>g.is_async==0|_::_=>false))
 |_=>false
noncomputable def zj(l:List Nat)(s:Option IS):Option IS:=match l,s with
 |[],s=>s
 |l,some s=>some (.pre l s)
 |_,none=>none
noncomputable def zk:Expr->Bool
 |.Constant (.str _) _ _=>true
 |_=>false
noncomputable def zl(f:Str):List (Str×List Str)->Option Str
 |[]=>none
 |(c,fs)::r=>if f∈fs then some c else zl f r
noncomputable def zm(fns:Nms)(f:Str):Option Str:=match zl f fns.cls with
 |some c=>(match fns.cls.lookup c with|some fs=>if f∈fs then some c else none|none=>none)
 |none=>none
noncomputable def x3(e:Expr):Option (Str×Pos):=match e with|.Name x p=>some (x,p)|_=>none
theorem qL{p:Str×Pos}(h:x3 e=some p):e=.Name p.1 p.2:=by
 cases e with
 |Name x q=>cases h;rfl
 |_=>cases h
noncomputable def EA(es:List Expr):Option ((Str×Pos)×Str×Pos):=match es with
 |[]=>none
 |a::es=>match es with
  |[]=>none
  |b::es=>match es with
   |_::_=>none
   |[]=>(x3 a).bind λx=>(x3 b).map λy=>(x,y)
theorem u5{p:(Str×Pos)×Str×Pos}(h:EA es=some p):es=[.Name p.1.1 p.1.2,.Name p.2.1 p.2.2]:=by
 cases es with
 |nil=>cases h
 |cons a es=>cases es with
  |nil=>cases h
  |cons b es=>cases es with
   |cons _ _=>cases h
   |nil=>
    obtain⟨x,e1,h⟩:=Lf.mp (show(x3 a).bind _=some p from h);obtain⟨y,e2,rfl⟩:=aS h;rw[qL e1,qL e2]
noncomputable def EB(e:Expr):Option ((Str×Pos)×Str×Pos):=match e with|.Tuple vs _ _=>EA vs|_=>none
theorem ya{p:(Str×Pos)×Str×Pos}(h:EB e=some p):∃k q,e=.Tuple [.Name p.1.1 p.1.2,.Name p.2.1 p.2.2] k q:=by
 cases e with
 |Tuple vs k q=>exact⟨k,q,by rw[u5 (show EA vs=some p from h)]⟩
 |_=>cases h
noncomputable def EC(fns:Nms)(m:Nat)(c:Cz)(es:List Expr)(e:Expr):Option IS:=(EA es).bind λt=>(EB e).bind λv=>
 if nK c t.1.1 t.2.1 v.1.1 t.1.2 t.2.2 then(bF t.1.1 c.N).bind λi=>(bF t.2.1 c.N).bind λj=>(dL (cE fns (m+1) c) [.Name v.1.1 v.1.2,.Name v.2.1 v.2.2]).map λes=>.par i j es else none
theorem yb{m:Nat}{c:Cz}(h:EC fns m c es e=some a):∃x y z w px py pz pw k p i j ies,es=[.Name x px,.Name y py]/\e=.Tuple [.Name z pz,.Name w pw] k p/\nK c x y z px py=true/\bF x c.N=some i/\bF y c.N=some j/\dL (cE fns (m+1) c) [.Name z pz,.Name w pw]=some ies/\a=.par i j ies:=by
 obtain⟨t,e1,h⟩:=Lf.mp (show(EA es).bind _=some a from h);obtain⟨v,e2,h⟩:=Lf.mp h;obtain⟨k,q,e3⟩:=ya e2;by_cases hp:nK c t.1.1 t.2.1 v.1.1 t.1.2 t.2.2=true
 ·rw[if_pos hp] at h;obtain⟨i,h1,h⟩:=Lf.mp h;obtain⟨j,h2,h⟩:=Lf.mp h;obtain⟨ies,h3,e4⟩:=aS h;exact⟨_,_,_,_,_,_,_,_,k,q,i,j,ies,u5 e1,e3,hp,h1,h2,h3,e4⟩
 ·rw[if_neg hp] at h;cases h
noncomputable def zn(fns:Nms)(m:Nat)(c:Cz)(b k e:Expr):Option IS:=match b with
 |.Name z _=>(match d3 c z,ln (cM fns (m+1) c) (cE fns (m+1) c) [e,k] with|some i,some as=>some (.putM i as)|_,_=>none)
 |_=>none
noncomputable def CG(fns:Nms)(m:Nat)(c:Cz)(ts:List Expr)(e:Expr):Option IS:=match ts with
 |[]=>none
 |t::ts=>match ts with
  |_::_=>none
  |[]=>match t with
   |.Name x _=>if lY c x&&(eD e||qK e) then(match bF x c.N,cM fns (m+1) c e with|some i,some a=>some (.asg i a)|_,_=>none) else none
   |.Tuple es _ _=>if uQ e then(match uS c es,cM fns (m+1) c e with|some is,some a=>some (.unp is a)|_,_=>none) else EC fns m c es e
   |.Subscript b k _=>if cz k&&eD e then(match zh c (cE fns (m+1) c) 6 b,cE fns (m+1) c k,cM fns (m+1) c e with|some b,some k,some a=>some (.put b k a)|_,_,_=>zn fns m c b k e) else none
   |.Attribute b z _=>if eD e then(match zm fns z,zh c (cE fns (m+1) c) 6 b,cM fns (m+1) c e with|some cl,some b,some a=>some (.putF cl b z a)|_,_,_=>none) else none
   |_=>none
noncomputable def HC(fns:Nms)(m:Nat)(c:Cz)(t:Expr)(op:Operator)(e:Expr):Option IS:=match t with
 |.Name x _=>if lY c x then(match bF x c.N,cM fns (m+1) c e with|some i,some a=>some (.aug i op a)|_,_=>none) else none
 |_=>none
noncomputable def ED(c:Cz)(tg iter:Expr)(body:List Stmt):Option IS:=none
noncomputable def Jt(fns:Nms)(an:An)(m:Nat)(c:Cz)(rec:List Stmt->Option bX)(tg iter:Expr)(body els:List Stmt)(p:Pos):Option IS:=match els with
 |_::_=>none
 |[]=>if an.fa p.line then ED c tg iter body else if eh iter then(match oe c 4 tg,uO c (cM fns (m+1) c) (A5 c (cE fns (m+1) c) tg iter) tg iter,rec body with|some t,some it,some b=>some (.fo (an.fg p.line) t it b)|_,_,_=>none) else none
noncomputable def CH(fns:Nms)(an:An)(m:Nat)(c:Cz)(rec:List Stmt->Option bX):Stmt->Option IS
 |.Assign ts e _=>CG fns m c ts e
 |.AugAssign t op e _=>HC fns m c t op e
 |.Return e _=>(match e with|some e=>(cM fns (m+1) c e).map .ret|none=>some .retN)
 |.Expr e _=>if zk e then some .pas else if eD e then(cM fns (m+1) c e).map .exp else none
 |.If t a b _=>(match sJ fns (m+1) c t,rec a,rec b with|some t,some a,some b=>some (.ifs t a b)|_,_,_=>none)
 |.For tg iter body els p=>Jt fns an m c rec tg iter body els p
 |.While t body els p=>(match els with|_::_=>none|[]=>(match sJ fns (m+1) c t,rec body with|some t,some b=>some (.wh (an.fg p.line) t b)|_,_=>none))
 |.Pass _=>some .pas
 |.Break _=>some .brk
 |.Continue _=>some .cnt
 |_=>none
noncomputable def cS(fns:Nms)(an:An)(m:Nat)(c:Cz):Nat->Stmt->Option IS
 |0,_=>none
 |n+1,s=>if an.sk (pc s)=true then some .stk else zj (an.pz (pc s)) (CH fns an m c (o9 (cS fns an m c n)) s)
noncomputable abbrev cB(fns:Nms)(an:An)(m:Nat)(c:Cz)(n:Nat):List Stmt->Option bX:=o9 (cS fns an m c n)
section
variable {X:Cx} {c:Cz} (fns:Nms) (Γ:GG)
theorem r9{x:Str}{n:Nat}:∃b:Bool,swapsWith (.ListComp elt [⟨tg,iter,ifs,0⟩] scope cp) (some (.Name x p)) n env=pure b:=⟨_,rfl⟩
theorem BM(O:aB X (cX fns Γ) c){m i:Nat}{x:Str}{e:Expr}{a:ME}{p pos:Pos}(hl:lY c x=true)(hi:bF x c.N=some i)(hc:qK e=true)(ha:cM fns (m+1) c e=some a):di X pn (λρ=>o5 pn i (aP Γ a ρ)) (.Assign [.Name x p] e pos):=by
 have hs:∃elt tg iter ifs scope cp,e=.ListComp elt [⟨tg,iter,ifs,0⟩] scope cp:=by
  cases e with
  |ListComp elt gs scope cp=>cases gs with
   |nil=>cases hc
   |cons g gs=>cases gs with
    |cons _ _=>cases hc
    |nil=>
     cases g with
     |mk tg iter ifs as=>
      have h0:as=0:=eq_of_beq (show(as==0)=true from hc);subst h0;exact⟨_,_,_,_,_,_,rfl⟩
  |_=>cases hc
 obtain⟨elt,tg,iter,ifs,scope,cp,rfl⟩:=hs;have l:=jG O hl;have hf:=(gT fns Γ (m+1)).1 X c O _ _ ha;intro ρ r h g σ H Dn se q
 cases hf':aP Γ a ρ with
 |none=>dsimp only at h;rw[hf'] at h;cases h
 |some w=>
  obtain⟨kd,d,ρ1⟩:=w;dsimp only at h;rw[hf'] at h;obtain⟨b,hb⟩:=r9 (elt:=elt) (tg:=tg) (iter:=iter) (ifs:=ifs) (scope:=scope) (cp:=cp) (p:=p) (x:=x) (n:=pos.line) (env:=X.env)
  cases b with
  |false=>exact cq (sW (i:=i) (by rw[O.N];exact O.nd) (by rw[O.N];exact bd hi) l.1 aA hb l.2) (hf ρ kd d ρ1 hf' g σ H _ se λv g1 H1 F ev se1 vr=>j3 h q ev se1 vr)
  |true=>
   have fin:∀{hck:bP c scope=true} {hns:eh iter=true},ib (wI X tg iter) (λv σ H Q=>∀C s H0 ex,wG (aQ X (au scope) scope C s H0 ex) tg v σ H Q) (λσ H Q=>∀C s H0 ex,CC (aQ X (au scope) scope C s H0 ex) ifs σ H Q) (λσ H Q=>∀C s H0 ex,wE (aQ X (au scope) scope C s H0 ex) elt σ H Q) (aK c scope) σ H (λv H1=>jo i v σ H1 Dn.nx)->FL X (.Assign [.Name x p] (.ListComp elt [⟨tg,iter,ifs,0⟩] scope cp) pos) Dn σ H:=λ{hck hns} ht=>
    cq (tU (N':=au scope) (cap:=aK c scope) O.calm (fV O hck) wU
     (λC s H0 ex pins s' σ' H' v u Q' I r hh=>wV pins s' σ' H' v u Q' I r (hh C s H0 ex)) (λC s H0 ex pins s' σ' H' Q' I hh=>hh C s H0 ex pins s' I) (λC s H0 ex pins s' σ' H' Q' I hh=>hh C s H0 ex pins s' I) (fA hns)
     (by rw[O.N];exact O.nd) (by rw[O.N];exact bd hi) l.1 l.2 hb) ht
   have post:∀v g' H' F,Evo g H g' H' F->SE X.K (g'.plus F) ρ1 σ H'->VR1 X.K H' g' F kd d v F->jo i v σ H' Dn.nx:=λv g1 H1 F ev se1 vr=>j3 h q ev se1 vr
   cases hce:cE fns m c (.ListComp elt [⟨tg,iter,ifs,0⟩] scope cp) with
   |some ie=>
    have ha2:some (ME.p ie)=some a:=by rw[<- ha];show _=(match cE fns m c _ with|some ie=>some (ME.p ie)|none=>_);rw[hce]
    cases ha2
    cases m with
    |zero=>cases(show(none:Option IE)=some _ from hce)
    |succ m=>
     have hie:D7 fns c (cE fns m) (cT fns m) elt [⟨tg,iter,ifs,0⟩] scope cp=some ie:=hce;unfold D7 at hie;dsimp only at hie;rw[if_pos rfl] at hie;split at hie
     ·rename_i hn;rw[Ke] at hn;split at hie
      ·rename_i t it ts el ht hit hts hel;cases hie;have pure:=d6 (fm:=kN fns Γ) fns Γ.fn m;have CO:=fy O hn.2
       have hv:af Γ.fn (.comp ((fns.an cp.line cp.col).getD Ow.fz) (aK c scope) t it ts el) ρ=some (kd,d)/\ρ1=ρ:=by
        rw[uM] at hf';unfold FK at hf';split at hf'
        ·rename_i e';cases hf';exact⟨e',rfl⟩
        ·cases hf'
       obtain⟨hv,rfl⟩:=hv;rw[nr] at hv
       exact fin (hck:=hn.2) (hns:=hn.1) (ul O hn.2 (uF fns Γ.fn O (pure.1 X c O) hit) ht (λC s H ex=>qr Γ.fn (pure.2 _ _ (CO C s H ex)) hts) (λC s H ex=>pure.1 _ _ (CO C s H ex) _ _ hel) hv se λv H' s ⟨F,h1,h2⟩=>
        post v g H' F (cK s h1 λb z=>eA se.mu (h1 b z)) (se.plus s h1 h2.dom) h2)
      ·cases hie
     ·cases hie
   |none=>
    have ha2:rY fns c (cM fns m) (cE fns m) (sJ fns m) elt [⟨tg,iter,ifs,0⟩] scope cp=some a:=by
     replace ha:(match cE fns m c (.ListComp elt [⟨tg,iter,ifs,0⟩] scope cp) with|some ie=>some (ME.p ie)|none=>rY fns c (cM fns m) (cE fns m) (sJ fns m) elt [⟨tg,iter,ifs,0⟩] scope cp)=some a:=ha
     rw[hce] at ha;exact ha
    obtain⟨tg',iter',ifs',t,it,ts,el,hq,hn1,hn2,ht,hit,hts,hel,rfl⟩:=qD fns ha2;cases hq;have pure:=d6 (fm:=kN fns Γ) fns Γ.fn m;have CO:=fy O hn2;rw[nE] at hf'
    first|(cases hf';done)|exact fin (hck:=hn2) (hns:=hn1) (qz O hn2 (oZ fns Γ O ((gT fns Γ m).1 X c O) (pure.1 X c O) hit) ht (λC s H ex=>nH Γ ((gT fns Γ m).2 _ _ (CO C s H ex)) hts) (λC s H ex=>(gT fns Γ m).1 _ _ (CO C s H ex) _ _ hel) hf' se post)
theorem mq{f:Stmt->Option IS}{N:Nat}(hf:∀s a,f s=some a->∀pn,di X pn (dN Γ N a pn) s):∀{st:List Stmt} {b:bX},o9 f st=some b->∀pn,i0 X pn (aH Γ N b pn) st
 |[],b,h,pn=>by
  cases h;rw[show aH Γ N .nil pn=λρ=>some (.nx ρ) by funext ρ;rw[aH]];exact Eu
 |s::st,b,h,pn=>by
  unfold o9 at h;split at h
  ·rename_i a r ha hr;cases h
   rw[show aH Γ N (.cons a r) pn=λρ=>uW (dN Γ N a pn ρ) (aH Γ N r pn) by funext ρ;conv=>lhs;rw[aH]]
   exact BG (hf s a ha pn) (mq hf hr pn)
  ·cases h
theorem HD(O:aB X (cX fns Γ) c){m N:Nat}{ts:List Expr}{e:Expr}{pos:Pos}{a:IS}(h:CG fns m c ts e=some a)(pn:List Nat):di X pn (dN Γ N a pn) (.Assign ts e pos):=by
 have hM:=(gT fns Γ (m+1)).1 X c O;have hE:=(d6 (fm:=kN fns Γ) fns Γ.fn (m+1)).1 X c O
 cases ts with
 |nil=>cases h
 |cons t ts=>cases ts with
  |cons _ _=>cases h
  |nil=>cases t with
   |Name x p=>
    dsimp only[CG] at h;split at h
    ·rename_i hl;rw[Ke,Lr] at hl;split at h
     ·rename_i i a' hi ha;cases h;rw[show dN Γ N (.asg i a') pn=λρ=>o5 pn i (aP Γ a' ρ) from funext λ_=>rfl];rcases hl.2 with hc|hc
      ·exact En O hl.1 hi hc (hM _ _ ha)
      ·exact BM fns Γ O hl.1 hi hc ha
     ·cases h
    ·cases h
   |Tuple es k p=>
    dsimp only[CG] at h;split at h
    ·rename_i hn;split at h
     ·rename_i is a' his ha;cases h
      first|(exact eX λ_=>rfl)|(rw[show dN Γ N (.unp is a') pn=λρ=>uR pn is (aP Γ a' ρ) from funext λ_=>rfl];exact Eo O (hM _ _ ha) his hn)
     ·cases h
    ·obtain⟨x,y,z,w,px,py,pz,pw,k2,p2,i,j,ies,rfl,rfl,hp,h1,h2,h3,rfl⟩:=yb h
     first|(exact eX λ_=>rfl)|(rw[show dN Γ N (.par i j ies) pn=λρ=>uY pn i j (aR Γ.fn ies ρ) ρ from funext λ_=>rfl];exact Ev O (fC Γ.fn hE h3).1 h1 h2 hp)
   |Subscript b k p=>
    dsimp only[CG] at h;split at h
    ·rename_i hn;rw[Ke] at hn;split at h
     ·rename_i b' k' a' hb hk ha;cases h
      first|(exact eX λ_=>rfl)|(rw[show dN Γ N (.put b' k' a') pn=λρ=>r8 b'.slot (ll Γ.fn b') (af Γ.fn k') (aP Γ a' ρ) from funext λ_=>rfl];exact Ez O (hM _ _ ha) (rZ Γ O hE _ hb) (hE _ _ hk) hn.1 hn.2)
     ·unfold zn at h;split at h
      ·split at h
       ·rename_i i as hi has;cases h
        first|(exact eX λ_=>rfl)|(rw[show dN Γ N (.putM i as) pn=λρ=>lw i ρ[i]? (aY Γ as ρ) from funext λ_=>rfl];exact BK O (lq Γ hM hE has) hi hn.1 hn.2)
       ·cases h
      ·cases h
    ·cases h
   |Attribute b z p=>
    dsimp only[CG] at h;split at h
    ·rename_i hn;split at h
     ·rename_i cl b' a' hcl hb ha;cases h
      have hok:∀C,LL X.K mainGlobals cl=some (some (.ref C))->Cls X.K C/\lK X.K C z:=λC hC=>by
       unfold zm at hcl;split at hcl
       ·split at hcl
        ·rename_i fs hfs;split at hcl
         ·rename_i hz;cases hcl;obtain⟨h1,h2⟩:=O.tab.cf cl fs C hfs hC;exact⟨h1,h2 z hz⟩
         ·cases hcl
        ·cases hcl
       ·cases hcl
      first|(exact eX λ_=>rfl)|(rw[show dN Γ N (.putF cl b' z a') pn=λρ=>oPutF b'.slot cl z (ll Γ.fn b') (aP Γ a' ρ) from funext λ_=>rfl];exact s_putF hok (hM _ _ ha) (rZ Γ O hE _ hb) (je hn))
     ·cases h
    ·cases h
   |_=>cases h
theorem HE(O:aB X (cX fns Γ) c){m N:Nat}{t:Expr}{op:Operator}{e:Expr}{pos:Pos}{a:IS}(h:HC fns m c t op e=some a)(pn:List Nat):di X pn (dN Γ N a pn) (.AugAssign t op e pos):=by
 have hM:=(gT fns Γ (m+1)).1 X c O
 cases t with
 |Name x p=>
  dsimp only[HC] at h;split at h
  ·rename_i hl;split at h
   ·rename_i i a' hi ha;cases h
    first|(exact eX λ_=>rfl)|(rw[show ∀op,dN Γ N (.aug i op a') pn=λρ=>u3 pn i op ρ[i]? (aP Γ a' ρ) by intro op;exact funext λ_=>rfl];exact Ey O hl hi (hM _ _ ha))
   ·cases h
  ·cases h
 |_=>cases h
theorem BN(O:aB X Γt c)(hp:PassesOwn (model X.prog X.w) X.A X.env X.xe){N:Nat}{tg iter:Expr}{body:List Stmt}{pos:Pos}{a:IS}(h:ED c tg iter body=some a)(pn:List Nat):di X pn (dN Γ N a pn) (.For tg iter body [] pos):=by cases h
theorem u6(O:aB X (cX fns Γ) c)(hp:PassesOwn (model X.prog X.w) X.A X.env X.xe){an:An}{m N:Nat}:∀(n:Nat) {s:Stmt} {a:IS},cS fns an m c n s=some a->∀pn,di X pn (dN Γ N a pn) s
 |0,s,a,h,pn=>by cases h
 |n+1,s,a,h,pn=>by
  have hM:=(gT fns Γ (m+1)).1 X c O;have hT:=(gT fns Γ (m+1)).2 X c O;have hE:=(d6 (fm:=kN fns Γ) fns Γ.fn (m+1)).1 X c O;have hB:∀{st:List Stmt} {b:bX},o9 (cS fns an m c n) st=some b->∀pn,i0 X pn (aH Γ N b pn) st:=λh=>mq Γ (λs a h=>u6 O hp n h) h
  have main:∀{a:IS},CH fns an m c (o9 (cS fns an m c n)) s=some a->di X pn (dN Γ N a pn) s:=λ{a} h=>by
   cases s with
   |Assign ts e pos=>exact HD fns Γ O h pn
   |AugAssign t op e pos=>exact HE fns Γ O h pn
   |Return e pos=>cases e with
    |some e=>
     obtain⟨a',ha,rfl⟩:=aS (show(cM fns (m+1) c e).map .ret=some a from h)
     first|(exact eX λ_=>rfl)|(rw[show dN Γ N (.ret a') pn=λρ=>uT (aP Γ a' ρ) from funext λ_=>rfl];exact Ep (hM _ _ ha))
    |none=>
     cases h
     first|(exact eX λ_=>rfl)|(rw[show dN Γ N .retN pn=λρ=>some (.rt .sh .non ρ) from funext λ_=>rfl];exact s_retN)
   |Expr e pos=>
    dsimp only[CH] at h;split at h
    ·rename_i hd;cases h;rw[show dN Γ N .pas pn=λρ=>some (.nx ρ) from funext λ_=>rfl];unfold zk at hd;split at hd
     ·exact Es
     ·cases hd
    ·split at h
     ·rename_i hn;obtain⟨a',ha,rfl⟩:=aS h
      first|(exact eX λ_=>rfl)|(rw[show dN Γ N (.exp a') pn=λρ=>uU (aP Γ a' ρ) from funext λ_=>rfl];exact Er hn (hM _ _ ha))
     ·cases h
   |If t x y pos=>
    dsimp only[CH] at h;split at h
    ·rename_i t' a' b' ht ha hb;cases h
     first|(exact eX λ_=>rfl)|(rw[show dN Γ N (.ifs t' a' b') pn=λρ=>uV (bB Γ t' ρ) (aH Γ N a' pn) (aH Γ N b' pn) by exact funext λ_=>rfl];exact Et (hT _ _ ht) (hB ha pn) (hB hb pn))
    ·cases h
   |For tg iter body els pos=>cases els with
    |cons _ _=>cases h
    |nil=>
     dsimp only[CH,Jt] at h;split at h
     ·exact BN Γ O hp h pn
     ·split at h
      ·rename_i hn;split at h
       ·rename_i t' it' b' ht hit hb;cases h
        first|(exact eX λ_=>rfl)|(rw[show ∀fg,dN Γ N (.fo fg t' it' b') pn=λρ=>nO pn fg t' (aH Γ N b') (cx Γ it' ρ) by intro fg;exact funext λ_=>rfl];exact BI O hp ht (oZ fns Γ O hM hE hit) (hB hb) hn)
       ·cases h
      ·cases h
   |While t body els pos=>cases els with
    |cons _ _=>cases h
    |nil=>
     dsimp only[CH] at h;split at h
     ·rename_i t' b' ht hb;cases h
      first|(exact eX λ_=>rfl)|(rw[show ∀fg,dN Γ N (.wh fg t' b') pn=iC fg (bB Γ t') (aH Γ N b' pn) N by intro fg;exact funext λ_=>rfl];exact Ew hp (hT _ _ ht) (hB hb pn) N)
     ·cases h
   |Pass pos=>
    cases h
    first|(exact eX λ_=>rfl)|(rw[show dN Γ N .pas pn=λρ=>some (.nx ρ) from funext λ_=>rfl];exact BH)
   |Break pos=>
    cases h
    first|(exact eX λ_=>rfl)|(rw[show dN Γ N .brk pn=λρ=>some (.bk ρ) from funext λ_=>rfl];exact s_brk)
   |Continue pos=>
    cases h
    first|(exact eX λ_=>rfl)|(rw[show dN Γ N .cnt pn=λρ=>some (.ct ρ) from funext λ_=>rfl];exact s_cont)
   |_=>cases h
  unfold cS at h;by_cases hk:an.sk (pc s)=true
  ·rw[if_pos hk] at h;cases h;exact eX λρ=>rfl
  rw[if_neg hk] at h;unfold zj at h;split at h
  ·exact main h
  ·rename_i a' ha _;cases h
   first|(exact eX λ_=>rfl)|(rw[show ∀l,dN Γ N (.pre l a') pn=λρ=>dN Γ N a' pn (frzN l ρ) by intro l;exact funext λ_=>rfl];exact Ex _ (main ha))
  ·cases h
end
end J
namespace J
open PySem PySem.Spec L2
noncomputable def Le{α:Type}(a b:Option α):Prop:=∀r,a=some r->b=some r
theorem Le.refl{α:Type}(a:Option α):Le a a:=λ_ h=>h
structure TabF(P:Program)(w:World)(K:Ka)(mg:Str->Option Value)(base:Heap)(Γ:gz)(k:Nat):Prop where
 fn:∀x φ,Γ.fn x=some φ->(∃f fd ps,FnOk P w K mg base p4 k f fd ps (v9 K φ)/\mg x=some (.ref f)/\K3 K (.ref f)=true/\Binds K fd ps []/\(x==("__debug__":Str))=false)\/
  False
 cf:∀c fs C,Γ.cf c=some fs->LL K mainGlobals c=some (some (.ref C))->Cls K C/\∀a∈fs,lK K C a
 fm:∀x sp,Γ.fm x=some sp->∃f fd ps,FnOk P w K mg base p4 k f fd ps (sp K)/\mg x=some (.ref f)/\K3 K (.ref f)=true/\Binds K fd ps []/\(x==("__debug__":Str))=false
 bl:∀x∈aJ,mg x=none
 cst:∀x d,Γ.cst x=some d->∃u v,mg x=some u/\RelV v u/\(∀H S,Rp K H S d v)/\(x==("__debug__":Str))=false
noncomputable def nR(k:Nat)(ks:List jb):Ro:=ks.map CD++List.replicate (k-ks.length) none
noncomputable def FM(d:D):jb:=(.fz,d)
noncomputable def nS(r:Option Res):Option KD:=match r with
 |some (.rt kd d _)=>if bW kd=true then none else some (kd,d)
 |some (.nx _)=>some (.sh,.non)
 |_=>none
noncomputable def bT(Γ:GG)(N m k:Nat)(body:bX)(ds:List D):Option KD:=if ds.length=m then nS (aH Γ N body [] (nR k (ds.map FM))) else none
noncomputable def outs(m:Nat)(pn:List Nat)(ρ:Ro):List (Option jb):=(Kh m).map λj=>if j∈pn then(match ρ[j]? with|some (some ⟨false,k,d⟩)=>some (k,d)|_=>none) else none
noncomputable def j5(m:Nat)(pn:List Nat)(r:Option Res):Option (Kd×D×List (Option jb)):=match r with
 |some (.rt kd d ρ)=>if bW kd=true then none else some (kd,d,outs m pn ρ)
 |some (.nx ρ)=>some (.sh,.non,outs m pn ρ)
 |_=>none
noncomputable def i3(Γ:GG)(N m k:Nat)(pn:List Nat)(body:bX)(ks:List jb):Option (Kd×D×List (Option jb)):=if ks.length=m then j5 m pn (aH Γ N body pn (nR k ks)) else none
noncomputable def bL(fns:Nms)(an:An)(n:Nat)(N:List Str)(st:Stmt):Option bX:=cB fns an n ⟨ae st,N,λ_=>true⟩ n (bZ st)
theorem lx{vs:List V}{i:Nat}(h:i<vs.length):(cH N vs)[i]?=(vs.map some)[i]?:=by
 unfold L2.cH;rw[Ks (by simpa using h)]
theorem u7{N:List Str}{ks:List jb}{vs:List V}(se:SE K g (ks.map CD) (vs.map some) H)(hl:ks.length<=N.length):SE K g (nR N.length ks) (cH N vs) H:=by
 have hv:ks.length=vs.length:=by simpa using se.len
 refine⟨λi sl e=>?_,se.mu,?_⟩
 ·unfold nR at e;by_cases hi:i<ks.length
  ·rw[Ks (by simpa using hi)] at e;obtain⟨v,F,q1,q2,q3⟩:=se.slot i sl e;exact⟨v,F,by rw[lx (by rw[<- hv];exact hi)];exact q1,q2,q3⟩
  ·rw[KP (by simpa using hi),L4] at e
   split at e<;>cases e
 ·unfold nR L2.cH;simp only[K5,Kc,Mh]
  lia
theorem EE{ds:List D}{vs:List V}(r:RpL K H (Sg g) ds vs)(m:MuOk H (Sg g)):SE K g ((ds.map FM).map CD) (vs.map some) H:=by
 refine⟨λi sl e=>?_,m,by simp[r.len]⟩;rw[Kf,Kf] at e
 cases q:ds[i]? with
 |none=>rw[q] at e;cases e
 |some d=>
  rw[q] at e;cases e;obtain⟨v,e1,e2⟩:=r.getD q;exact⟨v,gR,by rw[Kf,e1];rfl,λ_ z=>z.elim,.fz e2⟩
theorem qM{g:Gh}{i:Nat}:g.re (λ_=>none) b≠some (some i):=λe=>by
 unfold Gh.re at e
 cases q:g b with
 |none=>rw[q] at e;cases e
 |some x=>cases x<;>(rw[q] at e;cases e)
theorem yc{g:Gh}(h:g b≠none):g.re (λ_=>none) b=some none:=by
 unfold Gh.re
 cases q:g b with
 |none=>exact absurd q h
 |some x=>cases x<;>rfl
theorem ly{K:Ka}{g g':Gh}{H H':Hp}{F:Pr}(ev:Evo (g.re λ_=>none) H g' H' F):Same H H'/\(∀b,F b->H b=none)/\∀b,Sg g b->Sg g' b:=
 ⟨λb o e=>ev.keep b o (λi q=>qM q) e,λb z=>(ev.tmp b z).2.elim (λ⟨j,q⟩=>absurd q qM) id,λb z=>by rw[Sg,(ev.out b).mp (yc z)];simp⟩
section
variable {P:Program} {w:World} {K:Ka} {mg:Str->Option Value} {base:Heap} {fns:Nms} {Γ:GG} {x qual:Str} {st:Stmt} {f:Addr} {fd:FuncData} {N ps:List Str} {k n M:Nat} {an:An} {body:bX}
theorem qN(F:Fun K x qual st f fd)(S:aq N ps (ae st))(T:TabF P w K mg base (cX fns Γ) k)(hc:bL fns an n N st=some body) :
  FnOk P w K mg base p4 (k+1) f fd ps (v9 K (bT Γ M ps.length N.length body)):=by
 have hN:ps.length<=N.length:=by
  have:=congrArg MH S.pre;rw[KQ] at this
  lia
 refine F.ok S (λvs H Q E h=>?_) (λcdv A outer s H vs Q E hr h=>?_)
 ·obtain⟨ds,g,k',d,r,dm,hφ,q⟩:=h;unfold bT at hφ;split at hφ
  ·rename_i hl;rw[r.len,hl]
  ·cases hφ
 ·obtain⟨ds,g,k',d,r,dm,hφ,q⟩:=h;unfold bT at hφ;split at hφ
  ·rename_i hl
   have O:aB (mM p4 P w K mg base N qual (ae st) f cdv A outer s H E).nox (cX fns Γ) ⟨ae st,N,λ_=>true⟩:=
    ⟨rfl,rfl,λ_ _=>rfl,rfl,S.nd,⟨λy φ hy=>by
     rcases T.fn y φ hy with⟨g,gd,qs,h1,h2,h3,h4,h5⟩|z
     ·exact .inl ⟨k,g,gd,qs,h1,hr,h2,h3,h4,h5⟩
     ·exact z.elim,T.cf,λy φ hy=>by
     obtain⟨g,gd,qs,h1,h2,h3,h4,h5⟩:=T.fm y φ hy;exact⟨k,g,gd,qs,h1,hr,h2,h3,h4,h5⟩,T.bl,(by have h:=hr.un;exact Li (KF (Mp (by decide:100<=200) _) (Mm (Ln _ _) 200)) h),hr.gd,T.cst⟩⟩
   have m0:MuOk H (Sg (g.re λ_=>none)):=λb z=>dm b ((nl b).mp z);have r0:RpL K H (Sg (g.re λ_=>none)) ds vs:=r.weak λb z=>(nl b).mp z;have se:=u7 (N:=N) (EE r0 m0) (by simpa[hl] using hN);have sb:i0 _ [] (aH Γ M body []) (bZ st):=mq Γ (λs is h=>u6 fns Γ O PassesOwn.never n h) hc [];refine⟨_,gU,?_⟩;unfold nS at hφ;split at hφ
   ·rename_i k2 d2 ρ2 hex;split at hφ
    ·cases hφ
    ·rename_i hb;cases hφ;refine sb _ _ hex _ (cH N vs) H _ se λv σ' g' H' F ev se' pk vr=>?_;obtain⟨p1,p2,p3⟩:=ly (K:=K) ev;exact q v H' p1 ⟨F,p2,vr.unlend (by simpa using hb) p3⟩
   ·rename_i ρ' hex;cases hφ;refine sb _ _ hex _ (cH N vs) H _ se λσ' g' H' ev se' pk=>?_;obtain⟨p1,p2,p3⟩:=ly (K:=K) ev;exact q .non H' p1 Dt
   ·cases hφ
  ·cases hφ
theorem sd{m:Nat}{pn:List Nat}{ρ:Ro}{j:Nat}(h:((outs m pn ρ).map CF)[j]?=some (some sl)):j<m/\j∈pn/\ρ[j]?=some (some sl):=by
 unfold outs at h;rw[Kf,Kf] at h;by_cases hj:j<m
 ·rw[KN hj] at h;simp only[LM,Option.some.injEq] at h;split at h
  ·rename_i hp;split at h
   ·rename_i k d e;cases h;exact⟨hj,hp,e⟩
   ·cases h
  ·cases h
 ·rw[KY (by simpa using hj)] at h;cases h
theorem u8{m:Nat}:(outs m pn ρ).length=m:=by simp[outs]
theorem yd(F:Fun K x qual st f fd)(S:aq N ps (ae st))(T:TabF P w K mg base (cX fns Γ) k)(hc:bL fns an n N st=some body) :
  FnOk P w K mg base p4 (k+1) f fd ps (zb K (i3 Γ M ps.length N.length pn body)):=by
 have hN:ps.length<=N.length:=by
  have:=congrArg MH S.pre;rw[KQ] at this
  lia
 refine F.ok S (λvs H Q E h=>?_) (λcdv A outer s H vs Q E hr h=>?_)
 ·obtain⟨ks,g,k',d,os,se,hφ,q⟩:=h;unfold i3 at hφ;split at hφ
  ·rename_i hl;have:=se.len;simp only[Kc] at this;rw[<- this,hl]
  ·cases hφ
 ·obtain⟨ks,g,k',d,os,se,hφ,q⟩:=h;unfold i3 at hφ;split at hφ
  ·rename_i hl;have hv:ks.length=vs.length:=by simpa using se.len
   have O:aB (mM p4 P w K mg base N qual (ae st) f cdv A outer s H E).nox (cX fns Γ) ⟨ae st,N,λ_=>true⟩:=
    ⟨rfl,rfl,λ_ _=>rfl,rfl,S.nd,⟨λy φ hy=>by
     rcases T.fn y φ hy with⟨g,gd,qs,h1,h2,h3,h4,h5⟩|z
     ·exact .inl ⟨k,g,gd,qs,h1,hr,h2,h3,h4,h5⟩
     ·exact z.elim,T.cf,λy φ hy=>by
     obtain⟨g,gd,qs,h1,h2,h3,h4,h5⟩:=T.fm y φ hy;exact⟨k,g,gd,qs,h1,hr,h2,h3,h4,h5⟩,T.bl,(by have h:=hr.un;exact Li (KF (Mp (by decide:100<=200) _) (Mm (Ln _ _) 200)) h),hr.gd,T.cst⟩⟩
   have se0:=u7 (N:=N) se (by rw[hl];exact hN);have sb:i0 _ pn (aH Γ M body pn) (bZ st):=mq Γ (λs is h=>u6 fns Γ O PassesOwn.never n h) hc pn
   have fin:∀{g':Gh} {H':Hp} {F:Pr} {σ':L2.St} {ρ':Ro},SE K (g'.plus F) ρ' σ' H'->PinOk pn (cH N vs) σ'->SE K (g'.plus F) ((outs ps.length pn ρ').map CF) (vs.map some) H':=λ{g' H' F σ' ρ'} s1 pk=>by
    refine⟨λj sl e=>?_,s1.mu,by simp[u8,<- hv,hl]⟩;obtain⟨h1,h2,h3⟩:=sd e;obtain⟨v,Fj,q1,q2,q3⟩:=s1.slot j sl h3;exact⟨v,Fj,by rw[<- q1,pk j h2,lx (by rw[<- hv,hl];exact h1)],q2,q3⟩
   refine⟨_,gU,?_⟩;unfold j5 at hφ;split at hφ
   ·rename_i k2 d2 ρ2 hex;split at hφ
    ·cases hφ
    ·rename_i hb;cases hφ;exact sb _ _ hex _ (cH N vs) H _ se0 λv σ' g' H' F ev se' pk vr=>q v g' H' F ev (fin se' pk) vr
   ·rename_i ρ' hex;cases hφ;refine sb _ _ hex _ (cH N vs) H _ se0 λσ' g' H' ev se' pk=>q .non g' H' gR ev (fin (by rw[aW λ_ z=>z];exact se') pk) ⟨λ_ z=>z,by unfold Rp;rfl⟩
   ·cases hφ
  ·cases hφ
end
noncomputable def f8{α:Type}(Γ:Nat->Option α)(i:Nat)(φ:α):Nat->Option α:=λj=>if j=i then some φ else Γ j
noncomputable abbrev GG.addI(Γ:GG)(i:Nat)(φ:Fn):GG:=⟨f8 Γ.fn i φ,Γ.fm⟩
noncomputable abbrev GG.addM(Γ:GG)(i:Nat)(φ:Fm):GG:=⟨Γ.fn,f8 Γ.fm i φ⟩
theorem u9{φ ψ:Fn}(h:∀ds,Le (ψ ds) (φ ds)){vs:List V}{H:Hp}{Q:VK}{E:XK}(s:v9 K ψ vs H Q E):v9 K φ vs H Q E:=by
 obtain⟨ds,S,k,d,h1,h2,h3,h4⟩:=s;exact⟨ds,S,k,d,h1,h2,h ds _ h3,h4⟩
theorem BO{φ ψ:Fm}(h:∀ds,Le (ψ ds) (φ ds)){vs:List V}{H:Hp}{Q:VK}{E:XK}(s:zb K ψ vs H Q E):zb K φ vs H Q E:=by
 obtain⟨ks,g,kd,d,os,h1,h2,h3⟩:=s;exact⟨ks,g,kd,d,os,h1,h ks _ h2,h3⟩
section
variable {P:Program} {w:World} {K:Ka} {mg:Str->Option Value} {base:Heap} {fns:Nms} {Γ:GG} {x qual:Str} {st:Stmt} {f:Addr} {fd:FuncData} {N ps:List Str} {k n M i:Nat} {an:An} {body:bX}
theorem TabF.up(T:TabF P w K mg base (cX fns Γ) k):TabF P w K mg base (cX fns Γ) (k+1):=
  ⟨λy φ hy=>by
    rcases T.fn y φ hy with⟨g,gd,qs,h1,h2,h3,h4,h5⟩|z
    · exact .inl ⟨g,gd,qs,h1.mono (LA k),h2,h3,h4,h5⟩
    · exact z.elim,T.cf,
   λy φ hy=>by obtain⟨g,gd,qs,h1,h2,h3,h4,h5⟩:=T.fm y φ hy;exact⟨g,gd,qs,h1.mono (LA k),h2,h3,h4,h5⟩,T.bl,T.cst⟩
theorem TabF.addI{ψ:Fn}(T:TabF P w K mg base (cX fns Γ) k)(F:Fun K x qual st f fd)(S:aq N ps (ae st))(hm:mg x=some (.ref f))(hb:Binds K fd ps [])(hd:(x==("__debug__":Str))=false)
  (hi:fns.fns[i]?=some x) (hc:bL fns an n N st=some body) (hψ:∀ds,Le (ψ ds) (bT Γ M ps.length N.length body ds)):TabF P w K mg base (cX fns (Γ.addI i ψ)) (k+1):=by
 refine⟨λy φ hy=>?_,T.cf,T.up.fm,T.bl,T.cst⟩;have hy:(bF y fns.fns).bind (f8 Γ.fn i ψ)=some φ:=hy
 cases hj:bF y fns.fns with
 |none=>rw[hj] at hy;cases hy
 |some j=>
  rw[hj] at hy;have hy':f8 Γ.fn i ψ j=some φ:=hy;unfold f8 at hy';split at hy'
  ·rename_i e;subst e;cases hy'
   have hyx:y=x:=by
    have:=bd hj;rw[hi] at this;exact(Option.some.inj this).symm
   subst hyx;exact .inl ⟨f,fd,ps,(qN (n:=n) (an:=an) (M:=M) F S T hc).imp λvs H Q E s=>u9 hψ s,hm,F.kp,hb,hd⟩
  ·exact T.up.fn y φ (by show(bF y fns.fns).bind Γ.fn=_;rw[hj];exact hy')
theorem TabF.addM{ψ:Fm}(T:TabF P w K mg base (cX fns Γ) k)(F:Fun K x qual st f fd)(S:aq N ps (ae st))(hm:mg x=some (.ref f))(hb:Binds K fd ps [])(hd:(x==("__debug__":Str))=false)(hi:fns.fns[i]?=some x)(hc:bL fns an n N st=some body)(hψ:∀ds,Le (ψ ds) (i3 Γ M ps.length N.length pn body ds)):TabF P w K mg base (cX fns (Γ.addM i ψ)) (k+1):=by
 refine⟨T.up.fn,T.cf,λy sp hy=>?_,T.bl,T.cst⟩;have hy:(bF y fns.fns).bind (λj=>(f8 Γ.fm i ψ j).map λφ=>λK=>zb K φ)=some sp:=hy
 cases hj:bF y fns.fns with
 |none=>rw[hj] at hy;cases hy
 |some j=>
  rw[hj] at hy;obtain⟨φ,hy',rfl⟩:=aS (show(f8 Γ.fm i ψ j).map _=some sp from hy);unfold f8 at hy';split at hy'
  ·rename_i e;subst e;cases hy'
   have hyx:y=x:=by
    have:=bd hj;rw[hi] at this;exact(Option.some.inj this).symm
   subst hyx;exact⟨f,fd,ps,(yd (n:=n) (an:=an) (M:=M) (pn:=pn) F S T hc).imp λvs H Q E s=>BO hψ s,hm,F.kp,hb,hd⟩
  ·exact T.up.fm y _ (by show kN fns Γ y=_;unfold kN;rw[hj,K2,hy'];rfl)
end
theorem BQ{ns:List Int}(hS:SqL K H a (ns.map V.int))(h:φ [.scr ns]=some (.sh,.bl true)):v9 K φ [.ref a] H (λv _=>v=.bl true) λ_ _ _=>False:=by
 refine⟨[.scr ns],λ_=>none,.sh,.bl true,.cons ?_ .nil,λb z=>absurd rfl z,h,λv H' _ r=>r.rd.bl⟩;unfold Rp;refine⟨a,rfl,?_⟩;rcases hS with h|h
 ·exact .inl ⟨λz=>z rfl,h⟩
 ·exact .inr h
theorem ye{P:List Value->Prop}(h:∀a,P [a]):∀us:List Value,us.length=1->P us
 |[a],_=>h a
theorem us2{P:List Value->Prop}(h:∀a b,P [a,b]):∀us:List Value,us.length=2->P us
 |[a,b],_=>h a b
theorem BR{P:List Value->Prop}(h:∀a b c,P [a,b,c]):∀us:List Value,us.length=3->P us
 |[a,b,c],_=>h a b c
end J
namespace J
open PySem PySem.Spec L2
theorem pe{α:Type}(Γ:Nat->Option α)(i:Nat)(a b:α):f8 (f8 Γ i a) i b=f8 Γ i b:=by
 funext j;unfold f8
 split<;>rfl
theorem pf(Γ:GG)(i:Nat)(a b:Fn):(Γ.addI i a).addI i b=Γ.addI i b:=by
 show(⟨f8 (f8 Γ.fn i a) i b,Γ.fm⟩:GG)=⟨f8 Γ.fn i b,Γ.fm⟩;rw[pe]
noncomputable def recI(Γ:GG)(i N m k:Nat)(body:bX):Nat->Fn
 |0=>λ_=>none
 |n+1=>bT (Γ.addI i (recI Γ i N m k body n)) N m k body
section
variable {P:Program} {w:World} {K:Ka} {mg:Str->Option Value} {base:Heap} {fns:Nms} {Γ:GG} {x qual:Str} {st:Stmt} {f:Addr} {fd:FuncData} {N ps:List Str} {k n M i:Nat} {an:An} {body:bX}
theorem TabF.recI(T:TabF P w K mg base (cX fns Γ) k)(F:Fun K x qual st f fd)(S:aq N ps (ae st))(hm:mg x=some (.ref f))(hb:Binds K fd ps [])(hd:(x==("__debug__":Str))=false)
  (hi:fns.fns[i]?=some x) (hc:bL fns an n N st=some body):∀d:Nat,TabF P w K mg base (cX fns (Γ.addI i (J.recI Γ i M ps.length N.length body d))) (k+1+d)
 |0=>T.addI (M:=M) F S hm hb hd hi hc λ_ _ e=>nomatch e
 |d+1=>by
  have:=(TabF.recI T F S hm hb hd hi hc d).addI (M:=M) (ψ:=J.recI Γ i M ps.length N.length body (d+1)) F S hm hb hd hi hc λ_=>Le.refl _;rw[pf] at this;exact this
end
section
variable {P:Program} {w:World} {K:Ka} {mg:Str->Option Value} {base:Heap} {fns:Nms} {Γ:GG} {x y qual:Str} {st:Stmt} {f C:Addr} {fd:FuncData} {N ps:List Str} {k n M i:Nat} {an:An} {body:bX}
end
end J
namespace J
open PySem PySem.Spec L2
noncomputable def Wp{α:Type}(a:Option α)(Q:α->Prop):Prop:=∃r,a=some r/\Q r
theorem Wp.mono{α:Type}{a:Option α}{Q R:α->Prop}(h:Wp a Q)(k:∀r,Q r->R r):Wp a R:=let ⟨r,e,q⟩:=h;⟨r,e,k r q⟩
theorem dO{α:Type}{r:α}{Q:α->Prop}(q:Q r):Wp (some r) Q:=⟨r,rfl,q⟩
section
variable {Γ:Nat->Option Fn} {ρ:Ro} {Q:KD->Prop}
theorem aa{i:Nat}(h:ρ[i]?=some (some s))(q:Q (rG i s)):Wp (af Γ (.var i) ρ) Q:=⟨_,by rw[xl,h];rfl,q⟩
theorem ac(q:Q (.sh,d)):Wp (af Γ (.lit d) ρ) Q:=⟨_,by rw[qk],q⟩
theorem ah(h:Wp (af Γ a ρ) λx=>Wp (af Γ b ρ) λy=>Wp (dZ op x y) Q):Wp (af Γ (.bin op a b) ρ) Q:=by
 obtain⟨x,ex,y,ey,z,ez,q⟩:=h;exact⟨z,by rw[xm,ex,ey];exact ez,q⟩
theorem f9(h:Wp (af Γ a ρ) λx=>Wp (af Γ b ρ) λy=>Wp (bI op x.2 y.2) λr=>Q (.sh,.bl r)):Wp (af Γ (.cmp op a b) ρ) Q:=by
 obtain⟨x,ex,y,ey,z,ez,q⟩:=h;exact⟨_,by rw[xn,ex,ey];show bV (bI op x.2 y.2)=_;rw[ez];rfl,q⟩
theorem ph(h:Wp (ba Γ t ρ) λr=>(r=true->Wp (af Γ a ρ) Q)/\(r=false->Wp (af Γ b ρ) Q)):Wp (af Γ (.ifx t a b) ρ) Q:=by
 obtain⟨r,er,q1,q2⟩:=h
 cases r with
 |true=>obtain⟨x,ex,q⟩:=q1 rfl;exact⟨x,by rw[ql,er];exact ex,q⟩
 |false=>obtain⟨x,ex,q⟩:=q2 rfl;exact⟨x,by rw[ql,er];exact ex,q⟩
theorem bf(h:Wp (aR Γ es ρ) λkds=>Wp (l7 k (some kds)) Q):Wp (af Γ (.lst k es) ρ) Q:=by
 obtain⟨x,ex,z,ez,q⟩:=h;exact⟨z,by rw[xp,ex];exact ez,q⟩
theorem bQ(h:Wp (aR Γ es ρ) λkds=>Wp (gB k (some kds)) Q):Wp (af Γ (.tup k es) ρ) Q:=by
 obtain⟨x,ex,z,ez,q⟩:=h;exact⟨z,by rw[xq,ex];exact ez,q⟩
theorem aw(h:Wp (af Γ a ρ) λx=>Wp (af Γ b ρ) λy=>Wp (rJ (some x) (some y)) Q):Wp (af Γ (.ix a b) ρ) Q:=by
 obtain⟨x,ex,y,ey,z,ez,q⟩:=h;exact⟨z,by rw[A2,ex,ey];exact ez,q⟩
theorem zo(h:Wp (af Γ a ρ) λx=>Wp (dS Γ lo ρ) λl=>Wp (dS Γ hi ρ) λu=>Wp (CA (some x) (some l) (some u)) Q):Wp (af Γ (.sl a lo hi) ρ) Q:=by
 obtain⟨x,ex,l,el,u,eu,z,ez,q⟩:=h;exact⟨z,by rw[A3,ex,el,eu];exact ez,q⟩
theorem va(h:Wp (af Γ a ρ) λx=>Wp (dS Γ lo ρ) λl=>Wp (af Γ st ρ) λy=>Wp (rL (some x) (some l) (some y)) Q):Wp (af Γ (.stp a lo st) ρ) Q:=by
 obtain⟨x,ex,l,el,y,ey,z,ez,q⟩:=h;exact⟨z,by rw[xt,ex,el,ey];exact ez,q⟩
theorem yf(h:Wp (af Γ a ρ) λx=>Wp (ld (some x)) Q):Wp (af Γ (.lrng a) ρ) Q:=by
 obtain⟨x,ex,z,ez,q⟩:=h;exact⟨z,by rw[uo,ex];exact ez,q⟩
theorem bE{i:Nat}(hΓ:Γ i=some φ)(h:Wp (aR Γ es ρ) λkds=>Wp (rR φ kds) Q):Wp (af Γ (.fn i es) ρ) Q:=by
 obtain⟨x,ex,z,ez,q⟩:=h;exact⟨z,by rw[A4,ex,hΓ];exact ez,q⟩
theorem bh{x:Str}(h:Wp (aR Γ es ρ) λkds=>Wp (dR x kds) Q):Wp (af Γ (.blt x es) ρ) Q:=by
 obtain⟨y,ey,z,ez,q⟩:=h;exact⟨z,by rw[xv,ey];exact ez,q⟩
theorem dF{T:Str}(h:Wp (af Γ a ρ) λx=>Wp (ng T x.2) λb=>Q (.sh,.bl b)):Wp (af Γ (.isi T a) ρ) Q:=by
 obtain⟨y,ey,z,ez,q⟩:=h;exact⟨_,by rw[xu,ey];show bV (ng T y.2)=_;rw[ez];rfl,q⟩
theorem j6(h:Wp (af Γ a ρ) Q):Wp (af Γ (.bool op (.cons a .nil)) ρ) Q:=by
 obtain⟨y,ey,q⟩:=h;exact⟨y,by rw[gJ,jO];exact ey,q⟩
theorem j7(h:Wp (af Γ a ρ) λx=>∃z,x.2=.bl z/\((op==.And)=z->Wp (af Γ (.bool op (.cons b r)) ρ) Q)/\((op==.And)≠z->Q (.sh,.bl z))):Wp (af Γ (.bool op (.cons a (.cons b r))) ρ) Q:=by
 obtain⟨⟨k,d⟩,ey,z,hz,q1,q2⟩:=h;have hz:d=.bl z:=hz;subst hz;by_cases hh:(op==.And)=z
 ·obtain⟨y,e2,q⟩:=q1 hh;rw[gJ] at e2;exact⟨y,by rw[gJ,jO,ey];exact(if_pos hh).trans e2,q⟩
 ·exact⟨_,by rw[gJ,jO,ey];exact if_neg hh,q2 hh⟩
theorem jh(h:Wp (dU Γ it ρ) λp=>p.2.length<=100000/\Wp (aX r (ef tg (d5 Γ ts) (af Γ elt) (cn ρ cap)) p.2) λys=>Q (.fr (.own [] r),.lst ys)):Wp (af Γ (.comp r cap tg it ts elt) ρ) Q:=by
 obtain⟨p,ep,hl,ys,ey,q⟩:=h;obtain⟨bs,ds⟩:=p
 exact⟨_,by rw[nr,ep];show(if ds.length<=100000 then _ else _)=_;rw[if_pos hl,ey],q⟩
variable {T:Bool->Prop}
theorem aL(h:Wp (af Γ a ρ) λx=>Wp (af Γ b ρ) λy=>Wp (bI op x.2 y.2) T):Wp (ba Γ (.cmp op a b) ρ) T:=by
 obtain⟨x,ex,y,ey,z,ez,q⟩:=h;exact⟨_,by rw[ur,ex,ey];exact ez,q⟩
theorem iF(h:Wp (ba Γ a ρ) λb=>T (!b)):Wp (ba Γ (.not a) ρ) T:=by
 obtain⟨x,ex,q⟩:=h;exact⟨_,by rw[ut,ex];rfl,q⟩
theorem bC(h:Wp (ba Γ a ρ) T):Wp (ba Γ (.bool op (.cons a .nil)) ρ) T:=by
 obtain⟨y,ey,q⟩:=h;exact⟨y,by rw[fB,eT];exact ey,q⟩
theorem cR(h:Wp (ba Γ a ρ) λz=>((op==.And)=z->Wp (ba Γ (.bool op (.cons b r)) ρ) T)/\((op==.And)≠z->T z)):Wp (ba Γ (.bool op (.cons a (.cons b r))) ρ) T:=by
 obtain⟨z,ey,q1,q2⟩:=h;by_cases hh:(op==.And)=z
 ·obtain⟨y,e2,q⟩:=q1 hh;rw[fB] at e2;exact⟨y,by rw[fB,eT,ey];exact(if_pos hh).trans e2,q⟩
 ·exact⟨_,by rw[fB,eT,ey];exact if_neg hh,q2 hh⟩
theorem cY(ht:xx a=true)(h:Wp (af Γ a ρ) λx=>Wp (t0 x.2) T):Wp (ba Γ a ρ) T:=by
 obtain⟨x,ex,b,eb,q⟩:=h;exact⟨b,by rw[ja ht];show kH (af Γ a ρ)=_;rw[ex];exact eb,q⟩
variable {L:List KD->Prop}
theorem ad(q:L []):Wp (aR Γ .nil ρ) L:=⟨_,by rw[aR],q⟩
theorem ab(h:Wp (af Γ a ρ) λx=>Wp (aR Γ r ρ) λxs=>L (x::xs)):Wp (aR Γ (.cons a r) ρ) L:=by
 obtain⟨x,ex,xs,exs,q⟩:=h;exact⟨_,by rw[aR,ex,exs];rfl,q⟩
theorem pi{P:Option Int->Prop}(q:P none):Wp (dS Γ .non ρ) P:=⟨_,by rw[dS],q⟩
theorem vb{P:Option Int->Prop}(h:Wp (af Γ a ρ) λx=>∃i,x.2=.int i/\P (some i)):Wp (dS Γ (.som a) ρ) P:=by
 obtain⟨⟨k,d⟩,ex,i,hi,q⟩:=h;have hi:d=.int i:=hi;subst hi;exact⟨_,by rw[dS,ex];rfl,q⟩
variable {P:List Nat×List D->Prop}
theorem ge(h:Wp (af Γ a ρ) λx=>Wp (l8 (some x)) P):Wp (dU Γ (.e a) ρ) P:=by
 obtain⟨x,ex,z,ez,q⟩:=h;exact⟨z,by rw[dU,ex];exact ez,q⟩
theorem j8(h:Wp (af Γ a ρ) λx=>Wp (m9 (some x)) P):Wp (dU Γ (.enm a) ρ) P:=by
 obtain⟨x,ex,z,ez,q⟩:=h;exact⟨z,by rw[dU,ex];exact ez,q⟩
theorem vc(h:Wp (af Γ a ρ) λx=>Wp (af Γ b ρ) λy=>Wp (nc (some x) (some y)) P):Wp (dU Γ (.zp a b) ρ) P:=by
 obtain⟨x,e,y,e',h⟩:=h;show Wp (nc (af Γ a ρ) (af Γ b ρ)) P;rw[e,e'];exact h
theorem iG(h:Wp (af Γ a ρ) λx=>Wp (af Γ b ρ) λy=>Wp (gH (some x) (some y)) P):Wp (dU Γ (.rng a b) ρ) P:=by
 obtain⟨x,ex,y,ey,z,ez,q⟩:=h;exact⟨z,by rw[dU,ex,ey];exact ez,q⟩
end
section
variable {Q:KD->Prop} {k k':Kd} {i j:Int}
theorem bc(q:Q (.sh,.int (i+j))):Wp (dZ .Add (k,.int i) (k',.int j)) Q:=dO q
theorem ci(q:Q (.sh,.int (i-j))):Wp (dZ .Sub (k,.int i) (k',.int j)) Q:=dO q
theorem j9(h:i.natAbs<lim/\j.natAbs<lim)(q:Q (.sh,.int (i*j))):Wp (dZ .Mult (k,.int i) (k',.int j)) Q:=⟨_,fx (if_pos h),q⟩
theorem qO(h:0<j/\j.natAbs<lim)(q:Q (.sh,.int (i / j))):Wp (dZ .FloorDiv (k,.int i) (k',.int j)) Q:=⟨_,fx (if_pos h),q⟩
theorem kf(h:0<j)(q:Q (.sh,.int (i%j))):Wp (dZ .Mod (k,.int i) (k',.int j)) Q:=⟨_,fx (if_pos h),q⟩
theorem pj(h:0<=j/\j<=1000000/\i.natAbs<2^64)(q:Q (.sh,.int (i^j.toNat))):Wp (dZ .Pow (k,.int i) (k',.int j)) Q:=⟨_,fx (if_pos h),q⟩
theorem eE(h:0<=j/\j<=1000000/\i.natAbs<lim)(q:Q (.sh,.int (i*2^j.toNat))):Wp (dZ .LShift (k,.int i) (k',.int j)) Q:=⟨_,fx (if_pos h),q⟩
theorem BS(h:0<=j)(q:Q (.sh,.int (i / 2^j.toNat))):Wp (dZ .RShift (k,.int i) (k',.int j)) Q:=⟨_,fx (if_pos h),q⟩
theorem kg{xs ys:List D}(h:fw k xs=true/\fw k' ys=true/\xs.length+ys.length<=100000)(q:Q (.fr bq,.lst (xs++ys))):Wp (dZ .Add (k,.lst xs) (k',.lst ys)) Q:=⟨_,if_pos h,q⟩
variable {T:Bool->Prop}
theorem vd(q:T (decide (i<j))):Wp (bI .Lt (.int i) (.int j)) T:=dO q
theorem ve(q:T (decide (i<=j))):Wp (bI .LtE (.int i) (.int j)) T:=dO q
theorem fN(q:T (decide (j<i))):Wp (bI .Gt (.int i) (.int j)) T:=dO q
theorem zq(q:T (decide (j<=i))):Wp (bI .GtE (.int i) (.int j)) T:=dO q
theorem pp(h:fv 90 x=true/\fv 90 y=true)(q:T (sI x y)):Wp (bI .Eq x y) T:=⟨_,if_pos h,q⟩
theorem pq(h:fv 90 x=true/\fv 90 y=true)(q:T (!sI x y)):Wp (bI .NotEq x y) T:=⟨_,if_pos h,q⟩
theorem qP:sI (.int i) (.int j)=decide (i=j):=by
 unfold sI py;simp[PyData.eqv]
 try rfl
theorem eY(q:T (decide (i=j))):Wp (bI .Eq (.int i) (.int j)) T:=pp ⟨rfl,rfl⟩ (by rw[qP];exact q)
theorem lz(q:T (!decide (i=j))):Wp (bI .NotEq (.int i) (.int j)) T:=pq ⟨rfl,rfl⟩ (by rw[qP];exact q)
variable {xs:List D} {d:D} {n:Nat}
theorem BT{z:Int}(hj:iK xs.length z=some n)(hd:xs[n]?=some d)(q:Q (v8 k n,d)):Wp (rJ (some (k,.nd .lst xs)) (some (k',.int z))) Q:=⟨_,by show(match iK xs.length z with|some j=>(xs[j]?).map (λd=>(v8 k j,d))|none=>none)=_;rw[hj];show(xs[n]?).map _=_;rw[hd];rfl,q⟩
theorem BU{z:Int}(hj:iK xs.length z=some n)(hd:xs[n]?=some d)(q:Q (v8 k n,d)):Wp (rJ (some (k,.nd .tup xs)) (some (k',.int z))) Q:=⟨_,by show(match iK xs.length z with|some j=>(xs[j]?).map (λd=>(v8 k j,d))|none=>none)=_;rw[hj];show(xs[n]?).map _=_;rw[hd];rfl,q⟩
theorem gY{m:Nat}{z:Int}(h0:0<=z)(h1:z<m):iK m z=some z.toNat:=by unfold iK;rw[if_pos h0,if_pos h1]
end
theorem vf{Q:KD->Prop}{n:Nat}(h:ua d=some n)(q:Q (.sh,.int n)):Wp (dR "len" [(k,d)]) Q:=by
 refine⟨(.sh,.int n),?_,q⟩;have e:dR "len" = ub:=by unfold dR;rw[if_pos rfl]
 rw[e];unfold ub;dsimp only;rw[h];rfl
theorem vg{Q:KD->Prop}{i j:Int}(q:Q (.sh,.int (if j<i then j else i))):Wp (dR "min" [(k,.int i),(k',.int j)]) Q:=⟨_,rfl,q⟩
theorem qQ{Q:KD->Prop}(h:fw k ds=true)(q:Q (.fr bq,.lst ds)):Wp (dR "list" [(k,.nd .lst ds)]) Q:=⟨_,if_pos h,q⟩
theorem bY{Q:KD->Prop}(h:fw k ds=true)(q:Q (AK k,.tup ds)):Wp (dR "tuple" [(k,.nd .lst ds)]) Q:=⟨_,if_pos h,q⟩
theorem BV{Q:KD->Prop}{bs:List Bool}(q:Q (.sh,.bl (bs.all id))):Wp (dR "all" [(k,.nd .lst (bs.map D.bl))]) Q:=by
 refine⟨(.sh,.bl (bs.all id)),?_,q⟩;have e:dR "all" [(k,.nd .lst (bs.map D.bl))]=(cA (bs.map D.bl)).map λbs=>(Kd.sh,D.bl (bs.all id)):=rfl;rw[e,iN];rfl
theorem bz{φ:Fn}{kds:List KD}{Q:KD->Prop}(h:Wp (φ (kds.map (·.2))) λr=>bW r.1=false/\((kds.all λp=>mz p.1 p.2)=true\/oN r.1 r.2=true)/\Q r):Wp (rR φ kds) Q:=by
 obtain⟨⟨kd,d⟩,e,hb,ho,q⟩:=h;refine⟨(kd,d),?_,q⟩;unfold rR;rw[e];dsimp only;by_cases ha:(kds.all λp=>mz p.1 p.2)=true
 ·rw[if_pos ha,if_neg (by simpa using hb)]
 ·rw[if_neg ha,if_pos (ho.resolve_left ha)]
section
variable {Γ:GG} {ρ:Ro} {Q:Kd×D×Ro->Prop}
theorem ao(h:Wp (af Γ.fn e ρ) λx=>Q (x.1,x.2,ρ)):Wp (aP Γ (.p e) ρ) Q:=by
 obtain⟨x,ex,q⟩:=h;exact⟨_,by rw[uM,ex];rfl,q⟩
theorem dG{i:Nat}(h:ρ[i]?=some (some ⟨false,.own es r,d⟩))(q:Q (.fr (.own es r),d,ρ.set i none)):Wp (aP Γ (.mv i) ρ) Q:=⟨_,by rw[Bw];unfold rT;rw[h];rfl,q⟩
theorem vh{i:Nat}(h:ρ[i]?=some (some ⟨false,k,d⟩))(q:Q (.sh,d,ρ.set i (some ⟨false,.fz,d⟩))):Wp (aP Γ (.fz i) ρ) Q:=⟨_,by rw[Bx];unfold rV;rw[h],q⟩
theorem lA{f:Nat}{φ:Fm}(hφ:Γ.fm f=some φ)(h:Wp (dh Γ as ρ) λp=>(cL p.1).Nodup/\∃ks,eB p.2 p.1=some ks/\Wp (φ ks) λo=>bW o.1=false/\o.2.2.length=p.1.length/\Q (o.1,o.2.1,dD p.1 (o.2.2.map CF) p.2)):Wp (aP Γ (.io f as) ρ) Q:=by
 obtain⟨⟨ras,ρ1⟩,ea,hn,ks,hk,⟨kd,d,os⟩,eo,hb,hl,q⟩:=h;refine⟨_,?_,q⟩;rw[oX,hφ,ea];unfold Bg;dsimp only;rw[if_pos hn,hk];dsimp only;rw[eo];dsimp only;exact if_neg (by rw[hb];simpa using hl)
theorem zr{f:Nat}(hφ:Γ.fn f=some φ)(h:Wp (aY Γ as ρ) λp=>Wp (rR φ p.1) λr=>Q (r.1,r.2,p.2)):Wp (aP Γ (.fn f as) ρ) Q:=by
 obtain⟨⟨kds,ρ1⟩,ea,r,er,q⟩:=h
 exact⟨_,by rw[oY,hφ];show oS (rR φ) _=_;rw[ea];show(match rR φ kds with|some (kd,d)=>some (kd,d,ρ1)|none=>none)=_;rw[er],q⟩
theorem nT{f:List KD->Option KD}(h:Wp a λp=>Wp (f p.1) λr=>Q (r.1,r.2,p.2)):Wp (oS f a) Q:=by
 obtain⟨⟨kds,ρ1⟩,ea,r,er,q⟩:=h
 exact⟨_,by rw[ea];show(match f kds with|some (kd,d)=>some (kd,d,ρ1)|none=>none)=_;rw[er],q⟩
theorem pv{x:Str}(h:Wp (aY Γ as ρ) λp=>Wp (dR x p.1) λr=>Q (r.1,r.2,p.2)):Wp (aP Γ (.blt x as) ρ) Q:=by rw[xJ];exact nT h
theorem cZ(h:Wp (aY Γ as ρ) λp=>Wp (gB k (some p.1)) λr=>Q (r.1,r.2,p.2)):Wp (aP Γ (.tup k as) ρ) Q:=by rw[xK];exact nT h
theorem mr(h:Wp (aY Γ as ρ) λp=>∃x y,p.1=[x,y]/\Wp (dZ op x y) λr=>Q (r.1,r.2,p.2)):Wp (aP Γ (.bin op as) ρ) Q:=by
 rw[xL];exact nT (h.mono λp ⟨x,y,e,w⟩=>by rw[e];exact w)
theorem nU(h:Wp (aY Γ as ρ) λp=>∃x y,p.1=[x,y]/\Wp (rJ (some x) (some y)) λr=>Q (r.1,r.2,p.2)):Wp (aP Γ (.ix as) ρ) Q:=by
 rw[By];exact nT (h.mono λp ⟨x,y,e,w⟩=>by rw[e];exact w)
theorem eG{cap:List (Option Nat)}(h:Wp (cx Γ it ρ) λp=>p.1=[]/\p.2.1.length<=100000/\Wp (aD r (eV cap tg (jZ Γ ts) (aP Γ elt)) p.2.1 (cn p.2.2 cap)) λz=>z.2.length=cap.length/\Q (.fr (.own [] r),.lst z.1,dD (gO cap) z.2 p.2.2)):Wp (aP Γ (.comp r cap tg it ts elt) ρ) Q:=by
 obtain⟨⟨bs,ds,ρ1⟩,ep,hb,hl,⟨ys,ρc⟩,ey,hz,q⟩:=h;refine⟨_,?_,q⟩;rw[nE,ep];unfold f7;dsimp only at hb hl ey hz⊢;rw[if_pos ⟨hb,hl⟩,ey];dsimp only;rw[if_pos hz]
theorem pA{i:Nat}(h0:ρ[i]?=some (some ⟨false,.own es0 r0,.nd .lst ds0⟩))(h:Wp (aP Γ a ρ) λp=>∃es r ds,p.2.2[i]?=some (some ⟨false,.own es r,.nd .lst ds⟩)/\(es.length<=ds.length/\cw r (dC p.1 p.2.1,p.2.1)=true/\ds.length<100000)/\Q (.sh,.non,p.2.2.set i (some ⟨false,.own es r,.lst (ds++[p.2.1])⟩))):Wp (aP Γ (.mutM "append" i a) ρ) Q:=by
 obtain⟨⟨kd,d,ρ1⟩,ea,es,r,ds,h1,h2,q⟩:=h;refine⟨_,?_,q⟩;rw[uN,ea,h0];show eW "append" i (jX ρ1[i]?) (some [(dC kd d,d)]) ρ1=_;dsimp only at h1 h2;rw[h1]
 show(match jY "append" es r ds [(dC kd d,d)],ρ1[i]? with|some (d',ds'),some (some ⟨false,k,_⟩)=>some (Kd.sh,d',ρ1.set i (some ⟨false,k,id (.lst ds')⟩))|_,_=>none)=_
 have:jY "append" es r ds [(dC kd d,d)]=some (.non,ds++[d]):=if_pos h2;rw[this,h1];rfl
theorem dl{i:Nat}(h:Wp (af Γ.fn e ρ) λx=>∃es r ds,ρ[i]?=some (some ⟨false,.own es r,.nd .lst ds⟩)/\(es.length<=ds.length/\cw r x=true/\ds.length<100000)/\Q (.sh,.non,ρ.set i (some ⟨false,.own es r,.lst (ds++[x.2])⟩))):Wp (aP Γ (.mut "append" (.nm i) (.cons e .nil)) ρ) Q:=by
 obtain⟨x,ex,es,r,ds,h1,h2,q⟩:=h;refine⟨_,?_,q⟩;rw[fF,aR,aR,ex];show eW "append" i (ll Γ.fn (.nm i) ρ) (some [x]) ρ=_;rw[ll,h1]
 show(match jY "append" es r ds [x],ρ[i]? with|some (d',ds'),some (some ⟨false,k,_⟩)=>some (Kd.sh,d',ρ.set i (some ⟨false,k,id (.lst ds')⟩))|_,_=>none)=_
 have:jY "append" es r ds [x]=some (.non,ds++[x.2]):=if_pos h2;rw[this,h1];rfl
variable {A:List RA×Ro->Prop}
theorem gf(q:A ([],ρ)):Wp (dh Γ .nil ρ) A:=⟨_,by rw[dh],q⟩
theorem gg{i:Nat}(hs:ρ[i]?=some (some s))(h:Wp (dh Γ r ρ) λp=>A (.ref i::p.1,p.2)):Wp (dh Γ (.ref i r) ρ) A:=by
 obtain⟨⟨ras,ρ1⟩,ea,q⟩:=h;exact⟨_,by rw[dh,hs,ea];rfl,q⟩
theorem eZ(h:Wp (aP Γ a ρ) λx=>bW (dC x.1 x.2.1)=false/\Wp (dh Γ r x.2.2) λp=>A (.val (dC x.1 x.2.1) x.2.1::p.1,p.2)):Wp (dh Γ (.val a r) ρ) A:=by
 obtain⟨⟨kd,d,ρ1⟩,ea,hb,⟨ras,ρ2⟩,er,q⟩:=h;refine⟨_,?_,q⟩;rw[dh,ea]
 show(if bW (dC kd d)=true then none else _)=_
 dsimp only at hb er;rw[if_neg (by rw[hb];decide),er]
variable {S:List KD×Ro->Prop}
theorem aU(h:Wp (aP Γ a ρ) λx=>Wp (aR Γ.fn r x.2.2) λxs=>S ((x.1,x.2.1)::xs,x.2.2)):Wp (aY Γ (.fin a r) ρ) S:=by
 obtain⟨⟨kd,d,ρ1⟩,ea,xs,ex,q⟩:=h;refine⟨_,?_,q⟩;rw[aY,ea]
 show(match aR Γ.fn r ρ1 with|some kds=>some ((kd,d)::kds,ρ1)|none=>none)=_
 dsimp only at ex;rw[ex]
theorem aO(h:Wp (aP Γ a ρ) λx=>bW (dC x.1 x.2.1)=false/\Wp (aY Γ r x.2.2) λp=>S ((dC x.1 x.2.1,x.2.1)::p.1,p.2)):Wp (aY Γ (.cons a r) ρ) S:=by
 obtain⟨⟨kd,d,ρ1⟩,ea,hb,⟨kds,ρ2⟩,er,q⟩:=h;refine⟨_,?_,q⟩;rw[aY,ea]
 show(if bW (dC kd d)=true then none else _)=_
 dsimp only at hb er;rw[if_neg (by rw[hb];decide),er]
variable {T:Bool×Ro->Prop}
theorem vi(h:Wp (ba Γ.fn e ρ) λb=>T (b,ρ)):Wp (bB Γ (.p e) ρ) T:=by
 obtain⟨x,ex,q⟩:=h;exact⟨_,by rw[bB,ex];rfl,q⟩
theorem ji(h:Wp (aY Γ as ρ) λp=>∃x y,p.1=[x,y]/\Wp (bI op x.2 y.2) λb=>T (b,p.2)):Wp (bB Γ (.cmp op as) ρ) T:=by
 obtain⟨⟨kds,ρ1⟩,ea,x,y,e,b,eb,q⟩:=h;dsimp only at e;subst e
 exact⟨_,by rw[bB,ea];show(match bI op x.2 y.2 with|some b=>some (b,ρ1)|none=>none)=_;rw[eb],q⟩
variable {I:List Nat×List D×Ro->Prop}
theorem bU(h:Wp (dU Γ.fn it ρ) λp=>I (p.1,p.2,ρ)):Wp (cx Γ (.p it) ρ) I:=by
 obtain⟨x,ex,q⟩:=h;exact⟨_,by rw[cx,ex];rfl,q⟩
theorem BW{g:Option KD->Option (List Nat×List D)}(h:Wp a λx=>Wp (g (some (dC x.1 x.2.1,x.2.1))) λp=>I (p.1,p.2,x.2.2)):Wp (zc g a) I:=by
 obtain⟨⟨kd,d,ρ1⟩,ea,p,ep,q⟩:=h;exact⟨_,by rw[ea];show Bh (g (some (dC kd d,d))) ρ1=_;dsimp only at ep;rw[ep];rfl,q⟩
theorem jk(h:Wp (aP Γ a ρ) λx=>Wp (gH (some (.sh,.int 0)) (some (dC x.1 x.2.1,x.2.1))) λp=>I (p.1,p.2,x.2.2)):Wp (cx Γ (.rng a) ρ) I:=by rw[cx];exact BW h
end
theorem ff{i j:Int}{P:List Nat×List D->Prop}(h:ee i j=true)(q:P ([],cI i j)):Wp (gH (some (k,.int i)) (some (k',.int j))) P:=⟨_,if_pos h,q⟩
theorem bR{i j:Int}(h1:-100000<=i)(h2:i<=100000)(h3:-100000<=j)(h4:j<=100000)(h5:j-i<=100000):ee i j=true:=by
 simp only[ee,Ke,decide_eq_true_eq]
 lia
theorem gZ{i j:Int}{n:Nat}(h:(cI i j)[n]?=some d):d=.int (i+n)/\i+n<j:=by
 unfold cI at h;rw[Kf] at h;obtain⟨m,hm,rfl⟩:=aS h;have hl:=(Kb.mp hm).1;rw[Kx] at hl;rw[KN hl] at hm;cases hm;exact⟨rfl,by lia⟩
theorem c4{P:List Nat×List D->Prop}(h:fw k ds=true)(q:P (oM k,ds)):Wp (l8 (some (k,.nd .lst ds))) P:=⟨_,if_pos h,q⟩
theorem vj{P:List Nat×List D->Prop}(h:fw k ds=true)(q:P ([],ds)):Wp (l8 (some (k,.nd .tup ds))) P:=⟨_,if_pos h,q⟩
noncomputable def Kt(Γ:GG)(N:Nat)(rest:bX)(pn:List Nat)(Q:Res->Prop):Res->Prop
 |.nx ρ=>Wp (aH Γ N rest pn ρ) Q
 |r=>Q r
section
variable {Γ:GG} {N:Nat} {pn:List Nat} {ρ:Ro} {Q:Res->Prop} {rest:bX}
theorem br(h:Wp (aH Γ N rest pn ρ) Q):Kt Γ N rest pn Q (.nx ρ):=h
theorem iU(h:Q (.rt k d ρ)):Kt Γ N rest pn Q (.rt k d ρ):=h
theorem aN(q:Q (.nx ρ)):Wp (aH Γ N .nil pn ρ) Q:=⟨_,by rw[aH],q⟩
theorem cj(h:Wp (dN Γ N s pn ρ) (Kt Γ N rest pn Q)):Wp (aH Γ N (.cons s rest) pn ρ) Q:=by
 obtain⟨r,er,q⟩:=h
 cases r with
 |nx ρ1=>obtain⟨z,ez,q⟩:=q;exact⟨z,by rw[aH,er];exact ez,q⟩
 |rt k d ρ1=>exact⟨_,by rw[aH,er];rfl,q⟩
 |ct ρ1=>exact⟨_,by rw[aH,er];rfl,q⟩
 |bk ρ1=>exact⟨_,by rw[aH,er];rfl,q⟩
theorem aE{i:Nat}(h:Wp (aP Γ a ρ) λx=>(bW (dC x.1 x.2.1)=false/\i∉pn)/\Wp (aH Γ N rest pn (x.2.2.set i (some ⟨false,xO (dC x.1 x.2.1),x.2.1⟩))) Q):Wp (aH Γ N (.cons (.asg i a) rest) pn ρ) Q:=by
 obtain⟨⟨kd,d,ρ1⟩,ea,hb,w⟩:=h;refine cj ⟨.nx _,?_,br w⟩;rw[xS,ea];exact if_neg (by dsimp only at hb;rw[hb.1];simpa using hb.2)
theorem dW{is:List Nat}(h:Wp (aP Γ a ρ) λx=>∃ds es r,x.2.1=.nd .tup ds/\iA x.1 ds=some (es,r)/\(is.length=ds.length/\(is.all λi=>!pn.contains i)=true)/\Wp (aH Γ N rest pn (nJ is ds es r x.2.2)) Q):Wp (aH Γ N (.cons (.unp is a) rest) pn ρ) Q:=by
 obtain⟨⟨kd,d,ρ1⟩,ea,ds,es,r,hd,hk,hl,w⟩:=h;dsimp only at hd hk;subst hd;refine cj ⟨.nx _,?_,br w⟩;rw[xT,ea]
 show(match iA kd ds with|some (es,r)=>if is.length=ds.length/\(is.all λi=>!pn.contains i)=true then some (Res.nx (nJ is ds es r ρ1)) else none|none=>none)=_
 rw[hk];exact if_pos hl
theorem EF{i:Nat}{s:Sl}(hs:ρ[i]?=some (some s))(h:Wp (aP Γ a ρ) λx=>i∉pn/\Wp (xQ op s.d x.2.1) λz=>Wp (aH Γ N rest pn (x.2.2.set i (some (CB z)))) Q):Wp (aH Γ N (.cons (.aug i op a) rest) pn ρ) Q:=by
 obtain⟨⟨kd,d,ρ1⟩,ea,hb,z,ez,w⟩:=h;refine cj ⟨.nx _,?_,br w⟩;rw[xU,ea,hs]
 show(if i∈pn then none else _)=_
 dsimp only at ez;rw[if_neg hb,ez]
theorem iV{b:BP}(h:Wp (aP Γ a ρ) λx=>Wp (ll Γ.fn b x.2.2) λp=>Wp (af Γ.fn k x.2.2) λy=>∃es r hd ds kk d0,p.1=.own es r/\p.2.1=.nd hd ds/\x.2.2[b.slot]?=some (some ⟨false,kk,d0⟩)/\Wp (gX es r hd ds y.2 (dC x.1 x.2.1,x.2.1)) λz=>Wp (aH Γ N rest pn (x.2.2.set b.slot (some ⟨false,kk,p.2.2 (.nd z.1 z.2)⟩))) Q):Wp (aH Γ N (.cons (.put b k a) rest) pn ρ) Q:=by
 obtain⟨⟨kd,d,ρ1⟩,ea,⟨pk,pd,up⟩,ep,⟨ky,dy⟩,ey,es,r,hd,ds,kk,d0,e1,e2,e3,⟨hd',ds'⟩,ez,w⟩:=h;dsimp only at e1 e2 e3 ep ey ez;subst e1 e2;refine cj ⟨.nx _,?_,br w⟩;rw[xV,ea];unfold r8;dsimp only;rw[ep,ey,e3];dsimp only;rw[ez]
theorem aT(h:Wp (aP Γ a ρ) λx=>bW (dC x.1 x.2.1)=false/\Q (.rt (dC x.1 x.2.1) x.2.1 x.2.2)):Wp (aH Γ N (.cons (.ret a) rest) pn ρ) Q:=by
 obtain⟨⟨kd,d,ρ1⟩,ea,hb,q⟩:=h;refine cj ⟨.rt _ _ _,?_,iU q⟩;rw[xX,ea];exact if_neg (by dsimp only at hb;rw[hb];decide)
theorem c6(h:Wp (aP Γ a ρ) λx=>Wp (aH Γ N rest pn x.2.2) Q):Wp (aH Γ N (.cons (.exp a) rest) pn ρ) Q:=by
 obtain⟨⟨kd,d,ρ1⟩,ea,w⟩:=h;refine cj ⟨.nx _,?_,br w⟩;rw[xY,ea];rfl
theorem vk(h:Wp (bB Γ t ρ) λp=>(p.1=true->Wp (aH Γ N a pn p.2) (Kt Γ N rest pn Q))/\(p.1=false->Wp (aH Γ N b pn p.2) (Kt Γ N rest pn Q))):Wp (aH Γ N (.cons (.ifs t a b) rest) pn ρ) Q:=by
 obtain⟨⟨r,ρ1⟩,er,q1,q2⟩:=h
 cases r with
 |true=>obtain⟨x,ex,q⟩:=q1 rfl;exact cj ⟨x,by rw[qJ,er];exact ex,q⟩
 |false=>obtain⟨x,ex,q⟩:=q2 rfl;exact cj ⟨x,by rw[qJ,er];exact ex,q⟩
theorem nV{fb:Ro->Option Res}(I:Nat->Ro->Prop):∀(ds:List D) (j:Nat) (ρ:Ro),I j ρ->(∀(i:Nat) d ρ,ds[i]?=some d->I (j+i) ρ->∃ps,nh tg d=some ps/\(ps.all λp=>!pn.contains p.1)=true/\Wp (fb (setAll ps (clrN fg ρ))) λr=>∃ρ',(r=.nx ρ'\/r=.ct ρ')/\I (j+i+1) ρ')->
  ∃ρ',cP pn fg tg fb ds ρ=some (.nx (clrN fg ρ'))/\I (j+ds.length) ρ'
 |[],j,ρ,h0,_=>⟨ρ,rfl,h0⟩
 |d::ds,j,ρ,h0,hs=>by
  obtain⟨ps,e1,e2,r,er,ρ1,hr,h1⟩:=hs 0 d ρ rfl h0
  obtain⟨ρ2,e3,h2⟩:=nV I ds (j+1) ρ1 h1 λi d' ρ' e hI=>by
   have:=hs (i+1) d' ρ' (by simpa using e) (by rw[show j+(i+1)=j+1+i by lia];exact hI);rw[show j+(i+1)+1=j+1+i+1 by lia] at this;exact this
  refine⟨ρ2,?_,by rw[KS,show j+(ds.length+1)=j+1+ds.length by lia];exact h2⟩;unfold cP;rw[e1];dsimp only;rw[if_pos e2,er];rcases hr with rfl|rfl
  ·exact e3
  ·exact e3
theorem c7(h:Wp (cx Γ it ρ) λp=>∃I:Nat->Ro->Prop,I 0 (clrN p.1 p.2.2)/\(∀(i:Nat) d ρ,p.2.1[i]?=some d->I i ρ->∃ps,nh tg d=some ps/\(ps.all λq=>!(pn++p.1).contains q.1)=true/\Wp (aH Γ N b (pn++p.1) (setAll ps (clrN fg ρ))) λr=>∃ρ',(r=.nx ρ'\/r=.ct ρ')/\I (i+1) ρ')/\
  ∀ρ',I p.2.1.length ρ'->Wp (aH Γ N rest pn (sK p.1 p.2.2 (clrN fg ρ'))) Q):Wp (aH Γ N (.cons (.fo fg tg it b) rest) pn ρ) Q:=by
 obtain⟨⟨bs,ds,ρ0⟩,ep,I,h0,hs,hq⟩:=h
 obtain⟨ρ',e1,h1⟩:=nV (pn:=pn++bs) I ds 0 (clrN bs ρ0) h0 λi d ρ e hI=>by
  have:=hs i d ρ e (by simpa using hI);simpa using this
 refine cj ⟨.nx _,?_,br (hq ρ' (by simpa using h1))⟩;rw[o8,ep];show nN bs ρ0 (cP (pn++bs) fg tg (aH Γ N b (pn++bs)) ds (clrN bs ρ0))=_;rw[e1];rfl
end
theorem nW{f:D->Ro->Option (Option KD×Ro)}{Q:List D×Ro->Prop}{ds:List D}{ρ:Ro}(I:Nat->List D->Ro->Prop)(h0:I 0 [] ρ)(hs:∀(i:Nat) d ys ρ,ds[i]?=some d->I i ys ρ->Wp (f d ρ) λo=>∃kd,o.1=some kd/\cw r kd=true/\I (i+1) (ys++[kd.2]) o.2)(hq:∀ys ρ,I ds.length ys ρ->Q (ys,ρ)):Wp (aD r f ds ρ) Q:=by
 have key:∀n,n<=ds.length->∃ys ρ',aD r f (ds.take n) ρ=some (ys,ρ')/\I n ys ρ':=by
  intro n
  induction n with
  |zero=>intro _;exact⟨[],ρ,by simp[aD],h0⟩
  |succ n ih=>
   intro hn;obtain⟨ys,ρ1,e1,h1⟩:=ih (by lia);have hd:ds[n]?=some ds[n]:=Kg (by lia);obtain⟨⟨o,ρ2⟩,eo,kd,ek,hf,hI⟩:=hs n _ ys ρ1 hd h1;dsimp only at ek hI;subst ek;have ht:ds.take (n+1)=ds.take n++[ds[n]]:=by rw[K8,hd];rfl
   refine⟨ys++[kd.2],ρ2,?_,hI⟩;rw[ht];exact cN e1 (by simp[aD,eo,hf])
 obtain⟨ys,ρ',e,h⟩:=key ds.length (Ki _);rw[K7] at e;exact⟨_,e,hq ys ρ' h⟩
theorem HF{f:D->Option (Option KD)}{Q:List D->Prop}{ds:List D}(P:Nat->D->Prop)(hs:∀(i:Nat) d,ds[i]?=some d->Wp (f d) λo=>∃kd,o=some kd/\cw r kd=true/\P i kd.2)(hq:∀ys,ys.length=ds.length->(∀(i:Nat) y,ys[i]?=some y->P i y)->Q ys):Wp (aX r f ds) Q:=by
 have key:∀(ds:List D) (j:Nat),(∀(i:Nat) d,ds[i]?=some d->Wp (f d) λo=>∃kd,o=some kd/\cw r kd=true/\P (j+i) kd.2)->∃ys,aX r f ds=some ys/\ys.length=ds.length/\∀(i:Nat) y,ys[i]?=some y->P (j+i) y:=by
  intro ds
  induction ds with
  |nil=>intro j _;exact⟨[],rfl,rfl,λi y e=>by simp at e⟩
  |cons d ds ih=>
   intro j h;obtain⟨o,eo,kd,rfl,hf,hp⟩:=h 0 d rfl
   obtain⟨ys,e1,e2,e3⟩:=ih (j+1) λi d' e=>by
    have:=h (i+1) d' (by simpa using e);rw[show j+(i+1)=j+1+i by lia] at this;exact this
   refine⟨kd.2::ys,by simp[aX,eo,e1,hf],by simp[e2],λi y e=>?_⟩
   cases i with
   |zero=>simp at e;subst e;exact hp
   |succ i=>
    rw[show j+(i+1)=j+1+i by lia];exact e3 i y (by simpa using e)
 obtain⟨ys,e1,e2,e3⟩:=key ds 0 λi d e=>by simpa using hs i d e
 exact⟨ys,e1,hq ys e2 λi y e=>by simpa using e3 i y e⟩
theorem vm{ft:Ro->Option Bool}{fe:Ro->Option KD}{Q:Option KD->Prop}(h1:nh tg d=some ps)(h2:dA ps ρ0=true)(ht:ft (setAll ps ρ0)=some true)(h:Wp (fe (setAll ps ρ0)) λx=>Q (some x)):Wp (ef tg ft fe ρ0 d) Q:=by
 obtain⟨x,ex,q⟩:=h;refine⟨_,?_,q⟩;unfold ef;rw[h1];dsimp only;rw[if_pos h2,ht];dsimp only;rw[ex];rfl
theorem vn{ft:Ro->Option (Bool×Ro)}{fe:Ro->MR}{Q:Option KD×Ro->Prop}(h1:nh tg d=some ps)(h2:dA ps ρ0=true/\uK cap ps=true)(h:Wp (ft (setAll ps ρ0)) λb=>(b.1=true->Wp (fe b.2) λx=>Q (some (dC x.1 x.2.1,x.2.1),clr ps x.2.2))/\(b.1=false->Q (none,clr ps b.2))):Wp (eV cap tg ft fe d ρ0) Q:=by
 obtain⟨⟨b,ρt⟩,et,q1,q2⟩:=h
 cases b with
 |true=>
  obtain⟨⟨kd,d',ρ1⟩,ex,q⟩:=q1 rfl;refine⟨_,?_,q⟩;unfold eV;rw[h1];dsimp only;rw[if_pos h2,et];dsimp only at ex⊢;rw[ex]
 |false=>
  refine⟨_,?_,q2 rfl⟩;unfold eV;rw[h1];dsimp only;rw[if_pos h2,et]
theorem kh{ft:Ro->Option (Bool×Ro)}{fe:Ro->MR}{Q:Option KD×Ro->Prop}(h1:nh tg d=some ps)(h2:dA ps ρ0=true/\uK cap ps=true)(ht:ft (setAll ps ρ0)=some (true,setAll ps ρ0))(h:Wp (fe (setAll ps ρ0)) λx=>Q (some (dC x.1 x.2.1,x.2.1),clr ps x.2.2)):Wp (eV cap tg ft fe d ρ0) Q:=
 vn h1 h2 ⟨_,ht,λ_=>h,λe=>by cases e⟩
theorem cU{N m k:Nat}{ds:List D}(hl:ds.length=m)(h:Wp (aH Γ N body [] (nR k (ds.map FM))) λr=>Wp (nS (some r)) Q):Wp (bT Γ N m k body ds) Q:=by
 obtain⟨r,er,z,ez,q⟩:=h;exact⟨z,by unfold bT;rw[if_pos hl,er];exact ez,q⟩
theorem sg{N m k:Nat}{ks:List jb}(hl:ks.length=m)(h:Wp (aH Γ N body pn (nR k ks)) λr=>Wp (j5 m pn (some r)) Q):Wp (i3 Γ N m k pn body ks) Q:=by
 obtain⟨r,er,z,ez,q⟩:=h;exact⟨z,by unfold i3;rw[if_pos hl,er];exact ez,q⟩
theorem bv{Q:KD->Prop}(hb:bW kd=false)(q:Q (kd,d)):Wp (nS (some (.rt kd d ρ))) Q:=⟨_,if_neg (by rw[hb];decide),q⟩
theorem vo{Q:KD->Prop}(q:Q (.sh,.non)):Wp (nS (some (.nx ρ))) Q:=⟨_,rfl,q⟩
theorem fP{m:Nat}{Q:Kd×D×List (Option jb)->Prop}(hb:bW kd=false)(q:Q (kd,d,outs m pn ρ)):Wp (j5 m pn (some (.rt kd d ρ))) Q:=⟨_,if_neg (by rw[hb];decide),q⟩
end J
namespace J
open PySem PySem.Spec L2
theorem fj{p1:Ow}{p2:D}{o:Option (Option Sl)}{es:List Ow}{r:Ow}{hd:Hd}{ds:List D}{kk:Ow}{d0:D}{P:List Ow->Ow->Hd->List D->Ow->D->Prop}(e1:p1=.own es r)(e2:p2=.nd hd ds)(e3:o=some (some ⟨false,kk,d0⟩))(h:P es r hd ds kk d0):∃es r hd ds kk d0,p1=.own es r/\p2=.nd hd ds/\o=some (some ⟨false,kk,d0⟩)/\P es r hd ds kk d0:=⟨es,r,hd,ds,kk,d0,e1,e2,e3,h⟩
theorem nX{Q:Ow×D×(D->D)->Prop}(h:ll Γ b ρ=some r)(q:Q r):Wp (ll Γ b ρ) Q:=⟨r,h,q⟩
theorem eI{Q:Hd×List D->Prop}(h:gX es k hd ds d x=some r)(q:Q r):Wp (gX es k hd ds d x) Q:=⟨r,h,q⟩
theorem bj{Q:KD->Prop}(h:l7 k a=some r)(q:Q r):Wp (l7 k a) Q:=⟨r,h,q⟩
theorem aV{Q:KD->Prop}(h:gB k a=some r)(q:Q r):Wp (gB k a) Q:=⟨r,h,q⟩
theorem pB{r:Bool}{Q:Bool->Prop}(h:t0 d=some r)(q:Q r):Wp (t0 d) Q:=⟨r,h,q⟩
theorem dP{Q:KD->Prop}{ds:List D}(q:Q (.sh,.int ds.length)):Wp (dR "len" [(k,.nd .lst ds)]) Q:=vf rfl q
end J
namespace J
open PySem PySem.Spec L2
mutual
theorem qR:∀{d:D} {n:Nat},fv n d=true->(py d).canLay0=true
 |.non,_,_=>by simp[py,PyData.canLay0]
 |.bl _,_,_=>by simp[py,PyData.canLay0]
 |.int _,_,_=>by simp[py,PyData.canLay0]
 |.str x,_,h=>by simpa[py,PyData.canLay0,fv] using h
 |.scr ns,_,_=>by simpa[py,PyData.canLay0] using(i8 ns).1
 |.nd .lst ds,n,h=>by
  simp only[fv,Ke] at h;simpa[py,PyData.canLay0] using ki h.2
 |.nd .tup ds,n,h=>by
  simp only[fv,Ke] at h;simpa[py,PyData.canLay0] using ki h.2
 |.nd (.dic _ _) _,n,h=>by simp[fv] at h
 |.nd (.obj _ _) _,n,h=>by simp[fv] at h
theorem ki:∀{ds:List D} {n:Nat},lV n ds=true->PyData.canLayAll0 (m3 ds)=true
 |[],_,_=>by simp[m3,PyData.canLayAll0]
 |d::ds,n,h=>by
  simp only[lV,Ke] at h;simp[m3,PyData.canLayAll0,qR h.1,ki h.2]
end
theorem vp{n:Nat}(h:fv n d=true):sI d d=true:=by unfold sI;exact PySem.SeqAt.eqv_refl _ (qR h)
theorem g6{n:Nat}:∀{ds:List D},(∀d∈ds,fv n d=true)->lV n ds=true
 |[],_=>rfl
 |d::ds,h=>by simp only[lV,Ke];exact⟨h d KA,g6 λd hd=>h d (Kp _ hd)⟩
theorem lB{pn fg:List Nat}{fb:Ro->Option Res}(I:Nat->Ro->Prop)(R:Kd->D->Ro->Prop):∀(ds:List D) (j:Nat) (ρ:Ro),I j ρ->(∀(i:Nat) d ρ,ds[i]?=some d->I (j+i) ρ->∃ps,nh tg d=some ps/\(ps.all λp=>!pn.contains p.1)=true/\Wp (fb (setAll ps (clrN fg ρ))) λr=>(∃ρ',(r=.nx ρ'\/r=.ct ρ')/\I (j+i+1) ρ')\/∃k d ρ',r=.rt k d ρ'/\R k d ρ')->
  (∃ρ',cP pn fg tg fb ds ρ=some (.nx (clrN fg ρ'))/\I (j+ds.length) ρ')\/∃k d ρ',cP pn fg tg fb ds ρ=some (.rt k d ρ')/\R k d ρ'
 |[],j,ρ,h0,_=>.inl ⟨ρ,rfl,h0⟩
 |d::ds,j,ρ,h0,hs=>by
  obtain⟨ps,e1,e2,r,er,hr⟩:=hs 0 d ρ rfl h0;rcases hr with⟨ρ1,hr,h1⟩|⟨k,d',ρ1,rfl,hR⟩
  ·rcases lB I R ds (j+1) ρ1 h1 λi d' ρ' e hI=>(by
    have:=hs (i+1) d' ρ' (by simpa using e) (by rw[show j+(i+1)=j+1+i by lia];exact hI);rw[show j+(i+1)+1=j+1+i+1 by lia] at this;exact this) with⟨ρ2,e3,h2⟩|⟨k,d',ρ2,e3,h2⟩
   ·refine .inl ⟨ρ2,?_,by rw[KS,show j+(ds.length+1)=j+1+ds.length by lia];exact h2⟩;unfold cP;rw[e1];dsimp only;rw[if_pos e2,er];rcases hr with rfl|rfl
    ·exact e3
    ·exact e3
   ·refine .inr ⟨k,d',ρ2,?_,h2⟩;unfold cP;rw[e1];dsimp only;rw[if_pos e2,er];rcases hr with rfl|rfl
    ·exact e3
    ·exact e3
  ·refine .inr ⟨k,d',ρ1,?_,hR⟩;unfold cP;rw[e1];dsimp only;rw[if_pos e2,er]
theorem BX{Γ:GG}{N:Nat}{pn:List Nat}{ρ:Ro}{Q:Res->Prop}{rest:bX}{fg:List Nat}{tg:IT}{it:MI}{b:bX}(h:Wp (cx Γ it ρ) λp=>∃(I:Nat->Ro->Prop) (R:Kd->D->Ro->Prop),I 0 (clrN p.1 p.2.2)/\(∀(i:Nat) d ρ,p.2.1[i]?=some d->I i ρ->∃ps,nh tg d=some ps/\(ps.all λq=>!(pn++p.1).contains q.1)=true/\Wp (aH Γ N b (pn++p.1) (setAll ps (clrN fg ρ))) λr=>(∃ρ',(r=.nx ρ'\/r=.ct ρ')/\I (i+1) ρ')\/∃k d ρ',r=.rt k d ρ'/\R k d ρ')/\
  (∀ρ',I p.2.1.length ρ'->Wp (aH Γ N rest pn (sK p.1 p.2.2 (clrN fg ρ'))) Q)/\∀k d ρ',R k d ρ'->bW k=false/\Q (.rt k d (sK p.1 p.2.2 ρ'))):Wp (aH Γ N (.cons (.fo fg tg it b) rest) pn ρ) Q:=by
 obtain⟨⟨bs,ds,ρ0⟩,ep,I,R,h0,hs,hq,hR⟩:=h
 rcases lB (pn:=pn++bs) I R ds 0 (clrN bs ρ0) h0 (λi d ρ e hI=>by
  have:=hs i d ρ e (by simpa using hI);simpa using this) with⟨ρ',e1,h1⟩|⟨k,d,ρ',e1,h1⟩
 ·refine cj ⟨.nx _,?_,br (hq ρ' (by simpa using h1))⟩;rw[o8,ep];show nN bs ρ0 (cP (pn++bs) fg tg (aH Γ N b (pn++bs)) ds (clrN bs ρ0))=_;rw[e1];rfl
 ·obtain⟨hb,q⟩:=hR k d ρ' h1;refine cj ⟨.rt _ _ _,?_,iU q⟩;rw[o8,ep];show nN bs ρ0 (cP (pn++bs) fg tg (aH Γ N b (pn++bs)) ds (clrN bs ρ0))=_;rw[e1];exact if_neg (by rw[hb];decide)
end J
section
open PySem L2 J
local macro_rules | `(tactic| walk_at "nm")=>`(tactic| simp only [rG,oC,v8,Ow.ch,List.getD_nil,List.getD_cons_zero,List.getD_cons_succ,Kr,List.getElem?_nil,L3,dC,oB,wR,Hd.mu,xO,bW,nR,CD,CF,FM,CB,dD,setAll,clrN,sK,cn,gO,clr,List.foldl,KS,L8,Lw,Nat.reduceSub,Nat.reduceAdd,LM,Option.map_none,K2,Option.bind_none,Option.join,List.getElem?_cons_zero,List.getElem?_cons_succ,KM,Mr,List.set_cons_zero,Mu,List.set_nil,List.replicate_succ,List.replicate_zero,Lp,List.nil_append,reduceIte,K9,Int.reduceToNat,Int.reducePow,Int.reduceMul,Int.reduceAdd,Int.reduceSub,Int.reduceNeg,BP.slot,id,true_and])
local macro_rules | `(tactic| walk_at "fsc")=>`(tactic| exact ⟨rfl,rfl,rfl,by decide +kernel,rfl,by decide +kernel,by decide +kernel⟩)
namespace K55
open PySem L2 J
noncomputable def fQ(i:Nat):Stmt:=PySem.Challenge.pw_gatepapers_k55_changed_and_judged.main.body.getD i (.Pass ⟨0,0,0,0⟩)
noncomputable def fns:Nms:=⟨["bits_of","first_of","all_trials","column_of","column_told","parted","pairs","search","refuse_unlike","refuse_many","key_of","rising_bits","pair_turns","all_turns","trial_bits","_law_next","_law_state","_law_gate","_law_circuit","_law_copied","_law_some","_law_otherwise","_law_changed","_law_values","_law_turn","_law_first","_law_choices","_law_is_bits","_law_is_row","_law_closed","_law_parts","law"],[("MOST_INS",.int 6),("MOST_PAIRS",.int 300)],λl c=>match l,c with|125,21=>some (.own [] .fz)|133,17=>some (.own [] .fz)|192,17=>some (.own [.fz,.fz,.fz,.fz] .fz)|43,12=>some (.own [.fz,.fz,.fz,.fz] .fz)|_,_=>none,λl c=>match l,c with|120,22=>some true|120,37=>some true|120,49=>some true|147,22=>some true|147,34=>some true|172,11=>some true|49,24=>some true|49,29=>some true|54,28=>some true|56,18=>some true|73,11=>some true|82,24=>some false|82,50=>some false|_,_=>none,λi=>match i with|15=>some [true,false]|17=>some [true,false]|18=>some [true,false]|20=>some [true,false]|21=>some [true,false,false]|22=>some [true,false]|_=>none,λ_ _=>[],[]⟩
noncomputable def an:An:=⟨λl=>match l with|20=>[4]|45=>[6,7,8]|46=>[6,9,7,8]|71=>[4,5,6,7]|78=>[8,9]|105=>[4,5]|113=>[5]|134=>[11]|137=>[13,14,15]|167=>[4,5,6,7,8]|169=>[7,8]|183=>[2]|193=>[4]|201=>[5,6,7]|202=>[7,8,9,10,11]|213=>[5,6,7,8]|224=>[5]|_=>[],λl=>match l with|136=>[1010]|146=>[16]|201=>[3]|229=>[6]|164=>[3,4,5]|_=>[],λ_=>false,λl=>match l with|59=>true|61=>true|64=>true|_=>false⟩
noncomputable abbrev s0:Stmt:=fQ 1
section
local macro_rules | `($a :: $b) => `(.cons $a $b)
noncomputable def b0:bX:=.ret (.p (.comp .fz [none,none,some 0] (.nm 1) (.rng (.lit (.int 0)) (.var 1)) .non (.bin .BitAnd (.bin .RShift (.var 2) (.var 1)) (.lit (.int 1)))))::.nil
theorem JN:bL fns an 60 ["number","width"] s0=some b0:=by rfl
theorem JO:aq ["number","width"] ["number","width"] (ae s0):=by walk_at "fsc"
noncomputable abbrev s1:Stmt:=fQ 3
noncomputable def b1:bX:=.ret (.p (.comp .fz [none,none,none] (.tp [.nm 1,.nm 2]) (.e (.ix (.var 0) (.lit (.int 1)))) .non (.var 1)))::.nil
theorem JP:bL fns an 60 ["circuit"] s1=some b1:=by rfl
theorem JQ:aq ["circuit"] ["circuit"] (ae s1):=by walk_at "fsc"
noncomputable abbrev s2:Stmt:=fQ 5
noncomputable def b2:bX:=.ret (.p (.bin .Sub (.bin .LShift (.lit (.int 1)) (.bin .LShift (.lit (.int 1)) (.var 0))) (.lit (.int 1))))::.nil
theorem JR:bL fns an 60 ["many"] s2=some b2:=by rfl
theorem JS:aq ["many"] ["many"] (ae s2):=by walk_at "fsc"
noncomputable abbrev s3:Stmt:=fQ 6
noncomputable def b3:bX:=.asg 2 (.p (.bin .LShift (.lit (.int 1)) (.var 0)))::.asg 3 (.p (.bin .LShift (.fn 2 (.var 0::.nil)) (.var 2)))::.asg 4 (.p (.bin .Add (.var 2) (.var 2)))::.wh [] (.p (.cmp .Lt (.var 4) (.bin .LShift (.lit (.int 1)) (.var 1)))) (.aug 3 .BitOr (.p (.bin .LShift (.var 3) (.var 4)))::.aug 4 .Add (.p (.var 4))::.nil)::.ret (.p (.var 3))::.nil
noncomputable abbrev Ju:List Str:=["k","many","half","column","wide"]
theorem JT:bL fns an 60 Ju s3=some b3:=by rfl
theorem JU:aq Ju ["k","many"] (ae s3):=by walk_at "fsc"
noncomputable abbrev s4:Stmt:=fQ 7
noncomputable def b4:bX:=.asg 3 (.p (.comp .fz [none,none,some 2] (.nm 1) (.e (.fn 0 (.var 0::.bin .LShift (.lit (.int 1)) (.blt "len" (.var 1::.nil))::.nil))) .non (.bin .Mult (.var 2) (.var 1))))::.fo [4] (.nm 4) (.p (.e (.var 1))) (.asg 3 (.p (.comp .fz [none,none,none,some 4] (.tp [.nm 1,.nm 2]) (.zp (.stp (.var 3) .non (.lit (.int 2))) (.stp (.var 3) (.som (.lit (.int 1))) (.lit (.int 2)))) .non (.bin .BitXor (.var 1) (.bin .BitAnd (.bin .BitXor (.var 1) (.var 2)) (.var 3)))))::.nil)::.ret (.p (.ix (.var 3) (.lit (.int 0))))::.nil
noncomputable abbrev Jv:List Str:=["table","columns","whole","found","column"]
theorem JV:bL fns an 60 Jv s4=some b4:=by rfl
theorem JW:aq Jv ["table","columns","whole"] (ae s4):=by walk_at "fsc"
noncomputable abbrev s5:Stmt:=fQ 15
noncomputable def b5:bX:=.unp [2,3] (.p (.fn 7 (.var 0::.var 1::.nil)))::.ret (.p (.var 2))::.nil
noncomputable abbrev Jw:List Str:=["one","other","row","found"]
theorem JX:bL fns an 60 Jw s5=some b5:=by rfl
theorem JY:aq Jw ["one","other"] (ae s5):=by walk_at "fsc"
noncomputable abbrev s6:Stmt:=fQ 16
noncomputable def b6:bX:=.unp [2,3] (.p (.fn 7 (.var 0::.var 1::.nil)))::.ret (.p (.ifx (.cmp .Is (.var 2) (.lit .non)) (.var 3) (.lit .non)))::.nil
noncomputable abbrev Jx:List Str:=["one","other","row","found"]
theorem JZ:bL fns an 60 Jx s6=some b6:=by rfl
theorem J1:aq Jx ["one","other"] (ae s6):=by walk_at "fsc"
noncomputable abbrev s7:Stmt:=fQ 17
noncomputable def b7:bX:=.exp (.p (.fn 8 (.var 0::.var 1::.nil)))::.asg 2 (.p (.lst (.own [] .fz) (.tup .fz (.fn 1 (.var 0::.nil)::.fn 1 (.var 1::.nil)::.nil)::.nil)))::.asg 3 (.p (.lst (.own [] .fz) (.lst (.own [] .fz) .nil::.nil)))::.asg 4 (.p (.dspT 3 (.fn 10 (.ix (.var 2) (.lit (.int 0))::.nil)) (.lit (.bl true))))::.asg 5 (.p (.lit (.int 0)))::.wh [6,7,8] (.p (.cmp .Lt (.var 5) (.blt "len" (.var 2::.nil)))) (.fo [6,9,7,8] (.tp [.nm 6,.tp [.nm 7,.nm 8]]) (.p (.enm (.fn 12 (.var 0::.var 1::.ix (.var 2) (.var 5)::.nil)))) (.asg 9 (.p (.bin .Add (.ix (.var 3) (.var 5)) (.lst (.own [] .fz) (.fn 11 (.var 6::.ix (.var 0) (.lit (.int 0))::.nil)::.nil))))::.ifs (.p (.not (.var 7))) (.ret (.tup .fz (.mv 9::.fin (.mv 2) .nil))::.nil) .nil::.ifs (.p (.cmp .NotIn (.fn 10 (.var 8::.nil)) (.var 4))) (.exp (.p (.fn 9 (.bin .Add (.blt "len" (.var 2::.nil)) (.lit (.int 1))::.nil)))::.put (.nm 4) (.fn 10 (.var 8::.nil)) (.p (.lit (.bl true)))::.exp (.mut "append" (.nm 2) (.var 8::.nil))::.exp (.mutM "append" 3 (.mv 9))::.nil) .nil::.nil)::.aug 5 .Add (.p (.lit (.int 1)))::.nil)::.ret (.tup .fz (.p (.lit .non)::.fin (.mv 2) .nil))::.nil
noncomputable abbrev Jy:List Str:=["one","other","found","rows","known","at","number","alike","pair","row"]
theorem J2:bL fns an 60 Jy s7=some b7:=by rfl
theorem J3:aq Jy ["one","other"] (ae s7):=by walk_at "fsc"
noncomputable abbrev s8:Stmt:=fQ 18
noncomputable def b8:bX:=.ifs (.p (.bool .Or (.cmp .NotEq (.ix (.var 0) (.lit (.int 0))) (.ix (.var 1) (.lit (.int 0)))::.cmp .NotEq (.blt "len" (.ix (.var 0) (.lit (.int 3))::.nil)) (.blt "len" (.ix (.var 1) (.lit (.int 3))::.nil))::.nil))) (.stk::.nil) .nil::.ifs (.p (.cmp .Gt (.ix (.var 0) (.lit (.int 0))) (.lit (.int 6)))) (.stk::.nil) .nil::.nil
theorem J4:bL fns an 60 ["one","other"] s8=some b8:=by rfl
theorem J5:aq ["one","other"] ["one","other"] (ae s8):=by walk_at "fsc"
noncomputable abbrev s9:Stmt:=fQ 19
noncomputable def b9:bX:=.ifs (.p (.cmp .Gt (.var 0) (.lit (.int 300)))) (.stk::.nil) .nil::.nil
theorem J6:bL fns an 60 ["many"] s9=some b9:=by rfl
theorem J7:aq ["many"] ["many"] (ae s9):=by walk_at "fsc"
noncomputable abbrev FN:Stmt:=fQ 20
noncomputable def HG:bX:=.ret (.p (.tup .fz (.blt "tuple" (.ix (.var 0) (.lit (.int 0))::.nil)::.blt "tuple" (.ix (.var 0) (.lit (.int 1))::.nil)::.nil)))::.nil
theorem HI:bL fns an 60 ["pair"] FN=some HG:=by rfl
theorem HJ:aq ["pair"] ["pair"] (ae FN):=by walk_at "fsc"
noncomputable abbrev FO:Stmt:=fQ 21
noncomputable def HK:bX:=.ret (.p (.rev (.fn 0 (.var 0::.var 1::.nil)) (.neg (.lit (.int 1)))))::.nil
theorem HL:bL fns an 60 ["number","many"] FO=some HK:=by rfl
theorem HM:aq ["number","many"] ["number","many"] (ae FO):=by walk_at "fsc"
noncomputable abbrev FQ:Stmt:=fQ 22
noncomputable def HN:bX:=.asg 3 (.p (.lst (.own [] .fz) .nil))::.fo [4,5,6,7] (.tp [.tp [.nm 4,.nm 5],.tp [.nm 6,.nm 7]]) (.p (.zp (.fn 13 (.var 0::.ix (.var 2) (.lit (.int 0))::.nil)) (.fn 13 (.var 1::.ix (.var 2) (.lit (.int 1))::.nil)))) (.exp (.mut "append" (.nm 3) (.tup .fz (.cmp .Eq (.var 4) (.var 6)::.tup .fz (.var 5::.var 7::.nil)::.nil)::.nil))::.nil)::.ret (.mv 3)::.nil
noncomputable abbrev EG:List Str:=["one","other","pair","found","outs","after","others","later"]
theorem HP:bL fns an 60 EG FQ=some HN:=by rfl
theorem HQ:aq EG ["one","other","pair"] (ae FQ):=by walk_at "fsc"
noncomputable abbrev s13:Stmt:=fQ 23
noncomputable def EH:bX:=.unp [2,3,4,5] (.p (.var 0))::.asg 6 (.p (.fn 2 (.var 2::.nil)))::.asg 7 (.p (.bin .Add (.comp .fz [none,none,none,some 2] (.nm 1) (.rng (.lit (.int 0)) (.var 2)) .non (.fn 3 (.bin .Sub (.bin .Sub (.var 3) (.lit (.int 1))) (.var 1)::.var 3::.nil))) (.comp .fz [none,none,some 6] (.nm 1) (.e (.var 1)) .non (.bin .Mult (.var 2) (.var 1)))))::.fo [8,9] (.tp [.nm 8,.nm 9]) (.p (.e (.var 4))) (.exp (.mut "append" (.nm 7) (.fn 4 (.var 8::.comp .fz [none,none,some 7] (.nm 1) (.e (.var 9)) .non (.ix (.var 2) (.var 1))::.var 6::.nil)::.nil))::.nil)::.asg 10 (.p (.comp .fz [none,none,some 7] (.nm 1) (.e (.var 5)) .non (.ix (.var 2) (.var 1))))::.asg 11 (.p (.comp .fz [none,none,none,some 7] (.tp [.nm 1,.nm 2]) (.e (.var 3)) .non (.ix (.var 3) (.var 2))))::.ret (.comp .fz [none,none,none,some 11,some 10] (.nm 1) (.p (.rng (.lit (.int 0)) (.bin .LShift (.lit (.int 1)) (.var 2)))) .non (.tup .fz (.fn 14 (.fin (.fz 4) (.var 1::.nil))::.fin (.fn 14 (.fin (.fz 3) (.var 1::.nil))) .nil)))::.nil
noncomputable abbrev EI:List Str:=["circuit","state","ins","memories","gates","outs","whole","columns","table","places","told","afters"]
theorem HR:bL fns an 60 EI s13=some EH:=by rfl
theorem HS:aq EI ["circuit","state"] (ae s13):=by walk_at "fsc"
noncomputable abbrev FR:Stmt:=fQ 24
noncomputable def HU:bX:=.ret (.p (.comp .fz [none,none,some 1] (.nm 1) (.e (.var 0)) .non (.bin .BitAnd (.bin .RShift (.var 1) (.var 2)) (.lit (.int 1)))))::.nil
theorem HV:bL fns an 60 ["columns","number"] FR=some HU:=by rfl
theorem HW:aq ["columns","number"] ["columns","number"] (ae FR):=by walk_at "fsc"
noncomputable abbrev FS:Stmt:=fQ 26
noncomputable def HX:bX:=.ifs (.p (.cmp .Gt (.blt "len" (.var 0::.nil)) (.lit (.int 1)))) (.asg 2 (.p (.bin .Mod (.ix (.var 0) (.lit (.int 0))) (.var 1)))::.put (.nm 0) (.lit (.int 0)) (.p (.bin .FloorDiv (.ix (.var 0) (.lit (.int 0))) (.var 1)))::.ifs (.p (.cmp .Eq (.ix (.var 0) (.lit (.int 0))) (.lit (.int 0)))) (.exp (.mut "pop" (.nm 0) (.lit (.int 0)::.nil))::.nil) .nil::.ret (.p (.var 2))::.nil) .nil::.put (.nm 0) (.lit (.int 0)) (.p (.bin .Mod (.bin .Add (.bin .Mult (.ix (.var 0) (.lit (.int 0))) (.lit (.int 1181783497276652981))) (.lit (.int 12345678910987))) (.lit (.int 2305843009213693951))))::.ret (.p (.bin .Mod (.bin .FloorDiv (.ix (.var 0) (.lit (.int 0))) (.lit (.int 65537))) (.var 1)))::.nil
noncomputable abbrev EJ:List Str:=["_law_state_here","_law_many","_law_found"]
theorem HY:bL fns an 60 EJ FS=some HX:=by rfl
theorem HZ:aq EJ ["_law_state_here","_law_many"] (ae FS):=by walk_at "fsc"
noncomputable abbrev FT:Stmt:=fQ 27
noncomputable def H9:bX:=.asg 1 (.p (.lit (.int 1000003)))::.fo [] (.nm 2) (.p (.e (.sl (.var 0) .non (.som (.lit (.int 63)))))) (.asg 1 (.p (.bin .Mod (.bin .Add (.bin .Add (.bin .Mult (.var 1) (.lit (.int 7368787))) (.bin .Mod (.var 2) (.bin .Pow (.lit (.int 10)) (.lit (.int 30))))) (.lit (.int 11))) (.lit (.int 2305843009213693951))))::.nil)::.ret (.p (.bin .Add (.comp .fz [none,none,none] (.nm 1) (.e (.sl (.var 0) .non (.som (.lit (.int 63))))) (.som (.cmp .GtE (.blt "abs" (.var 1::.nil)) (.bin .Pow (.lit (.int 10)) (.lit (.int 18))))) (.blt "abs" (.var 1::.nil))) (.lst (.own [] .fz) (.var 1::.nil))))::.nil
noncomputable abbrev EK:List Str:=["_law_script","_law_seed","_law_cell"]
theorem Ia:bL fns an 60 EK FT=some H9:=by rfl
theorem Ib:aq EK ["_law_script"] (ae FT):=by walk_at "fsc"
noncomputable abbrev FU:Stmt:=fQ 28
noncomputable def EL:bX:=.asg 2 (.ix (.p (.lst (.own [] .fz) (.lit (.int 0)::.lit (.int 1)::.lit (.int 1)::.lit (.int 2)::.lit (.int 2)::.lit (.int 2)::.lit (.int 3)::.lit (.int 3)::.nil))::.fin (.io 15 (.ref 0 (.val (.p (.lit (.int 8))) .nil))) .nil))::.ifs (.p (.cmp .Eq (.var 1) (.lit (.int 0)))) (.asg 2 (.p (.lit (.int 0)))::.nil) .nil::.asg 3 (.p (.lst (.own [] .fz) .nil))::.fo [4,5] (.nm 4) (.p (.rng (.lit (.int 0)) (.var 2))) (.asg 5 (.blt "min" (.p (.var 1)::.fin (.ix (.p (.lst (.own [] .fz) (.var 1::.lit (.int 4)::.nil))::.fin (.io 15 (.ref 0 (.val (.p (.lit (.int 2))) .nil))) .nil)) .nil))::.exp (.mutM "append" 3 (.bin .Sub (.p (.bin .Sub (.var 1) (.lit (.int 1)))::.fin (.io 15 (.ref 0 (.val (.p (.var 5)) .nil))) .nil)))::.nil)::.ret (.tup .fz (.fin (.io 15 (.ref 0 (.val (.p (.ix (.lst (.own [] .fz) (.lit (.int 2)::.lit (.int 4)::.lit (.int 16)::.lit (.int 256)::.nil)) (.var 2))) .nil))) (.blt "tuple" (.var 3::.nil)::.nil)))::.nil
noncomputable abbrev EM:List Str:=["_law_state_here","_law_below","_law_many","_law_places","_law_k","_law_near"]
theorem Ic:bL fns an 60 EM FU=some EL:=by rfl
theorem Ie:aq EM ["_law_state_here","_law_below"] (ae FU):=by walk_at "fsc"
noncomputable abbrev FV:Stmt:=fQ 29
noncomputable def Ig:bX:=.asg 2 (.io 15 (.ref 0 (.val (.p (.bin .Add (.ix (.var 1) (.lit (.int 0))) (.lit (.int 1)))) .nil)))::.asg 3 (.io 15 (.ref 0 (.val (.p (.bin .Add (.ix (.var 1) (.lit (.int 1))) (.lit (.int 1)))) .nil)))::.asg 4 (.p (.lst (.own [] .fz) .nil))::.fo [5] (.nm 5) (.rng (.io 15 (.ref 0 (.val (.p (.bin .Add (.ix (.var 1) (.lit (.int 2))) (.lit (.int 1)))) .nil)))) (.exp (.mutM "append" 4 (.io 17 (.ref 0 (.val (.p (.bin .Add (.bin .Add (.var 2) (.var 3)) (.var 5))) .nil))))::.nil)::.asg 6 (.p (.bin .Add (.bin .Add (.var 2) (.var 3)) (.blt "len" (.var 4::.nil))))::.asg 7 (.comp .fz [none,none,none,some 6,some 0] (.nm 1) (.p (.rng (.lit (.int 0)) (.var 3))) .non (.tup .fz (.io 15 (.ref 4 (.val (.p (.lit (.int 2))) .nil))::.fin (.io 15 (.ref 4 (.val (.p (.var 3)) .nil))) .nil)))::.asg 8 (.p (.lst (.own [] .fz) .nil))::.ifs (.p (.cmp .Gt (.var 6) (.lit (.int 0)))) (.asg 8 (.comp .fz [none,none,none,some 6,some 0] (.nm 1) (.rng (.io 15 (.ref 0 (.val (.p (.bin .Add (.ix (.var 1) (.lit (.int 3))) (.lit (.int 1)))) .nil)))) .non (.io 15 (.ref 4 (.val (.p (.var 3)) .nil))))::.nil) .nil::.ret (.tup .fz (.p (.var 2)::.mv 7::.mv 4::.fin (.mv 8) .nil))::.nil
noncomputable abbrev EN:List Str:=["_law_state_here","_law_most","_law_ins","_law_many","_law_gates","_law_k","_law_places","_law_memories","_law_outs"]
theorem Ih:bL fns an 60 EN FV=some Ig:=by rfl
theorem Ii:aq EN ["_law_state_here","_law_most"] (ae FV):=by walk_at "fsc"
noncomputable abbrev FW:Stmt:=fQ 30
noncomputable def sL:bX:=.ifs (.p (.isi "list" (.var 0))) (.ret (.p (.comp .fz [none,none,none] (.nm 1) (.e (.var 0)) .non (.fn 19 (.var 1::.nil))))::.nil) .nil::.ifs (.p (.isi "tuple" (.var 0))) (.ret (.p (.blt "tuple" (.comp (.own [] .fz) [none,none,none] (.nm 1) (.e (.var 0)) .non (.fn 19 (.var 1::.nil))::.nil)))::.nil) .nil::.ret (.p (.var 0))::.nil
theorem Ij:bL fns an 60 ["_law_thing"] FW=some sL:=by rfl
theorem Ik:aq ["_law_thing"] ["_law_thing"] (ae FW):=by walk_at "fsc"
noncomputable abbrev FX:Stmt:=fQ 31
noncomputable def Il:bX:=.ret (.ix (.p (.var 1)::.fin (.io 15 (.ref 0 (.val (.p (.blt "len" (.var 1::.nil))) .nil))) .nil))::.nil
noncomputable abbrev EO:List Str:=["_law_state_here","_law_row"]
theorem Im:bL fns an 60 EO FX=some Il:=by rfl
theorem Io:aq EO ["_law_state_here","_law_row"] (ae FX):=by walk_at "fsc"
noncomputable abbrev FY:Stmt:=fQ 32
noncomputable def BY:bX:=.unp [3,4,5,6] (.p (.var 1))::.asg 8 (.slh (.fin (.comp .fz [none,none,none,some 0] (.nm 1) (.p (.rng (.lit (.int 0)) (.blt "len" (.var 4::.nil)))) (.som (.cmp .Eq (.fin (.io 15 (.ref 3 (.val (.p (.lit (.int 2))) .nil))) (.lit (.int 0)::.nil)))) (.p (.var 1))) (.var 2::.nil)))::.asg 9 (.p (.bin .Add (.bin .Add (.var 3) (.blt "len" (.var 4::.nil))) (.blt "len" (.var 8::.nil))))::.asg 10 (.p (.comp (.own [] .fz) [none,none] (.nm 1) (.rng (.lit (.int 0)) (.bin .Add (.var 3) (.blt "len" (.var 4::.nil)))) .non (.lst (.own [] .fz) (.var 1::.nil))))::.fo [11] (.tp [.nm 11,.nm 7]) (.p (.enm (.var 8))) (.exp (.mut "append" (.ix (.nm 10) (.bin .Add (.var 3) (.var 7))) (.bin .Add (.bin .Add (.var 3) (.blt "len" (.var 4::.nil))) (.var 11)::.nil))::.nil)::.pre [1010] (.asg 12 (.p (.lst (.own [] .fz) .nil)))::.fo [13,14,15] (.tp [.nm 13,.nm 14]) (.p (.e (.var 5))) (.asg 15 (.blt "tuple" (.fin (.comp .fz [none,none,none,some 10,some 0] (.nm 1) (.p (.e (.var 14))) .non (.io 20 (.ref 4 (.val (.p (.ix (.var 3) (.var 1))) .nil)))) .nil))::.ifs (.cmp .Eq (.fin (.io 15 (.ref 0 (.val (.p (.lit (.int 3))) .nil))) (.lit (.int 0)::.nil))) (.exp (.mut "append" (.nm 12) (.tup .fz (.bin .Sub (.bin .Sub (.bin .LShift (.lit (.int 1)) (.bin .LShift (.lit (.int 1)) (.blt "len" (.var 14::.nil)))) (.lit (.int 1))) (.var 13)::.var 15::.nil)::.nil))::.exp (.mut "append" (.nm 12) (.tup .fz (.lit (.int 1)::.tup .fz (.bin .Sub (.bin .Add (.var 9) (.blt "len" (.var 12::.nil))) (.lit (.int 1))::.nil)::.nil)::.nil))::.nil) (.exp (.mut "append" (.nm 12) (.tup .fz (.var 13::.var 15::.nil)::.nil))::.nil)::.exp (.mut "append" (.nm 10) (.lst (.own [] .fz) (.bin .Sub (.bin .Add (.var 9) (.blt "len" (.var 12::.nil))) (.lit (.int 1))::.nil)::.nil))::.nil)::.asg 16 (.p (.bin .Add (.lrng (.blt "len" (.var 4::.nil))) (.var 8)))::.pre [16] (.asg 17 (.comp .fz [none,none,none,some 4,some 10,some 0] (.nm 1) (.p (.e (.var 16))) .non (.tup .fz (.p (.ix (.ix (.var 3) (.var 1)) (.lit (.int 0)))::.fin (.io 20 (.ref 5 (.val (.p (.ix (.var 4) (.ix (.ix (.var 3) (.var 1)) (.lit (.int 1))))) .nil))) .nil))))::.ret (.tup .fz (.p (.var 3)::.mv 17::.mv 12::.fin (.comp .fz [none,none,none,some 10,some 0] (.nm 1) (.p (.e (.var 6))) .non (.io 20 (.ref 4 (.val (.p (.ix (.var 3) (.var 1))) .nil)))) .nil))::.nil
noncomputable abbrev EQ:List Str:=["_law_state_here","_law_circuit_here","_law_most","_law_ins","_law_memories","_law_gates","_law_outs","_law_k","_law_copies","_law_first_here","_law_spots","_law_at","_law_fresh","_law_table","_law_places","_law_chosen","_law_order","_law_twice"]
theorem Ip:bL fns an 60 EQ FY=some BY:=by rfl
theorem Iq:aq EQ ["_law_state_here","_law_circuit_here","_law_most"] (ae FY):=by walk_at "fsc"
noncomputable abbrev FZ:Stmt:=fQ 33
noncomputable def ER:bX:=.unp [2,3,4,5] (.p (.fn 19 (.var 1::.nil)))::.asg 6 (.p (.bin .Add (.bin .Add (.var 2) (.blt "len" (.var 3::.nil))) (.blt "len" (.var 4::.nil))))::.asg 7 (.io 15 (.ref 0 (.val (.p (.lit (.int 4))) .nil)))::.ifs (.p (.bool .And (.cmp .Eq (.var 7) (.lit (.int 0))::.cmp .Gt (.blt "len" (.var 3::.nil)) (.lit (.int 0))::.nil))) (.asg 8 (.io 15 (.ref 0 (.val (.p (.blt "len" (.var 3::.nil))) .nil)))::.put (.nm 3) (.var 8) (.p (.tup .fz (.bin .Sub (.lit (.int 1)) (.ix (.ix (.var 3) (.var 8)) (.lit (.int 0)))::.ix (.ix (.var 3) (.var 8)) (.lit (.int 1))::.nil)))::.nil) (.ifs (.p (.bool .And (.cmp .Eq (.var 7) (.lit (.int 1))::.cmp .Gt (.blt "len" (.var 3::.nil)) (.lit (.int 0))::.nil))) (.asg 8 (.io 15 (.ref 0 (.val (.p (.blt "len" (.var 3::.nil))) .nil)))::.put (.nm 3) (.var 8) (.tup .fz (.p (.ix (.ix (.var 3) (.var 8)) (.lit (.int 0)))::.fin (.io 15 (.ref 0 (.val (.p (.var 6)) .nil))) .nil))::.nil) (.ifs (.p (.bool .And (.cmp .Eq (.var 7) (.lit (.int 2))::.cmp .Gt (.blt "len" (.var 5::.nil)) (.lit (.int 0))::.nil))) (.putM 5 (.io 15 (.ref 0 (.val (.p (.var 6)) .nil))::.fin (.io 15 (.ref 0 (.val (.p (.blt "len" (.var 5::.nil))) .nil))) .nil)::.nil) (.ifs (.p (.cmp .Gt (.blt "len" (.var 4::.nil)) (.lit (.int 0)))) (.asg 8 (.io 15 (.ref 0 (.val (.p (.blt "len" (.var 4::.nil))) .nil)))::.unp [9,10] (.p (.ix (.var 4) (.var 8)))::.put (.nm 4) (.var 8) (.tup .fz (.fin (.bin .BitXor (.p (.var 9)::.fin (.bin .LShift (.p (.lit (.int 1))::.fin (.io 15 (.ref 0 (.val (.p (.bin .LShift (.lit (.int 1)) (.blt "len" (.var 10::.nil)))) .nil))) .nil)) .nil)) (.var 10::.nil)))::.nil) .nil::.nil)::.nil)::.nil)::.pre [3,4,5] (.ret (.p (.tup .fz (.var 2::.var 3::.var 4::.var 5::.nil))))::.nil
noncomputable abbrev ES:List Str:=["_law_state_here","_law_circuit_here","_law_ins","_law_memories","_law_gates","_law_outs","_law_places","_law_way","_law_k","_law_table","_law_some_here"]
theorem Ir:bL fns an 60 ES FZ=some ER:=by rfl
theorem Iu:aq ES ["_law_state_here","_law_circuit_here"] (ae FZ):=by walk_at "fsc"
noncomputable abbrev rS:Stmt:=fQ 34
noncomputable def Iv:bX:=.asg 3 (.p (.bin .Add (.blt "list" (.var 2::.nil)) (.blt "list" (.var 1::.nil))))::.fo [4,5,6,7,8] (.tp [.nm 4,.nm 5]) (.p (.e (.ix (.var 0) (.lit (.int 2))))) (.asg 6 (.p (.lit (.int 0)))::.fo [7,8] (.tp [.nm 7,.nm 8]) (.p (.enm (.var 5))) (.asg 6 (.p (.bin .Add (.var 6) (.bin .Mult (.ix (.var 3) (.var 8)) (.ix (.lst (.own [] .fz) (.lit (.int 1)::.lit (.int 2)::.lit (.int 4)::.nil)) (.var 7)))))::.nil)::.exp (.mut "append" (.nm 3) (.bin .BitAnd (.bin .RShift (.var 4) (.var 6)) (.lit (.int 1))::.nil))::.nil)::.ret (.mv 3)::.nil
noncomputable abbrev ET:List Str:=["_law_circuit_here","_law_state_here","_law_ins","_law_found","_law_table","_law_places","_law_row","_law_k","_law_place"]
theorem Iw:bL fns an 60 ET rS=some Iv:=by rfl
theorem Ix:aq ET ["_law_circuit_here","_law_state_here","_law_ins"] (ae rS):=by walk_at "fsc"
noncomputable abbrev y9:Stmt:=fQ 35
noncomputable def Iy:bX:=.asg 3 (.p (.fn 23 (.var 0::.var 1::.var 2::.nil)))::.ret (.p (.tup .fz (.comp .fz [none,none,some 3] (.nm 1) (.e (.ix (.var 0) (.lit (.int 3)))) .non (.ix (.var 2) (.var 1))::.blt "tuple" (.comp .fz [none,none,none,some 3] (.tp [.nm 1,.nm 2]) (.e (.ix (.var 0) (.lit (.int 1)))) .non (.ix (.var 3) (.var 2))::.nil)::.nil)))::.nil
noncomputable abbrev EU:List Str:=["_law_circuit_here","_law_state_here","_law_ins","_law_found"]
theorem Iz:bL fns an 60 EU y9=some Iy:=by rfl
theorem IA:aq EU ["_law_circuit_here","_law_state_here","_law_ins"] (ae y9):=by walk_at "fsc"
noncomputable abbrev Ga:Stmt:=fQ 36
noncomputable def IB:bX:=.ret (.p (.blt "tuple" (.comp .fz [none,none,none] (.tp [.nm 1,.nm 2]) (.e (.ix (.var 0) (.lit (.int 1)))) .non (.var 1)::.nil)))::.nil
theorem IC:bL fns an 60 ["_law_circuit_here"] Ga=some IB:=by rfl
theorem ID:aq ["_law_circuit_here"] ["_law_circuit_here"] (ae Ga):=by walk_at "fsc"
noncomputable abbrev Gb:Stmt:=fQ 37
noncomputable def IF:bX:=.ret (.p (.comp .fz [none,none,none,some 0] (.nm 1) (.rng (.lit (.int 0)) (.bin .LShift (.lit (.int 1)) (.var 0))) .non (.comp .fz [none,none,some 3,some 1] (.nm 1) (.rng (.lit (.int 0)) (.var 3)) .non (.bin .BitAnd (.bin .RShift (.var 3) (.bin .Sub (.bin .Sub (.var 2) (.lit (.int 1))) (.var 1))) (.lit (.int 1))))))::.nil
theorem IG:bL fns an 60 ["_law_many"] Gb=some IF:=by rfl
theorem IH:aq ["_law_many"] ["_law_many"] (ae Gb):=by walk_at "fsc"
noncomputable abbrev Gc:Stmt:=fQ 38
noncomputable def IJ:bX:=.ifs (.p (.bool .Or (.not (.isi "list" (.var 0))::.cmp .NotEq (.blt "len" (.var 0::.nil)) (.var 1)::.nil))) (.ret (.p (.lit (.bl false)))::.nil) .nil::.fo [2] (.nm 2) (.p (.e (.var 0))) (.ifs (.p (.bool .Or (.not (.isi "int" (.var 2))::.isi "bool" (.var 2)::.not (.chain .LtE .LtE (.lit (.int 0)) (.var 2) (.lit (.int 1)))::.nil))) (.ret (.p (.lit (.bl false)))::.nil) .nil::.nil)::.ret (.p (.lit (.bl true)))::.nil
noncomputable abbrev EV:List Str:=["_law_row","_law_many","_law_bit"]
theorem IK:bL fns an 60 EV Gc=some IJ:=by rfl
theorem IL:aq EV ["_law_row","_law_many"] (ae Gc):=by walk_at "fsc"
noncomputable abbrev Gd:Stmt:=fQ 39
noncomputable def IM:bX:=.ret (.p (.bool .And (.isi "list" (.var 0)::.blt "all" (.comp .fz [none,none,none,some 1] (.nm 1) (.e (.var 0)) .non (.fn 27 (.var 1::.var 3::.nil))::.nil)::.nil)))::.nil
theorem IN:bL fns an 60 ["_law_row","_law_many"] Gd=some IM:=by rfl
theorem IP:aq ["_law_row","_law_many"] ["_law_row","_law_many"] (ae Gd):=by walk_at "fsc"
noncomputable abbrev Ge:Stmt:=fQ 40
noncomputable def IQ:bX:=.ifs (.p (.not (.isi "list" (.var 0)))) (.ret (.p (.lit (.bl false)))::.nil) .nil::.asg 3 (.p (.dnew 4 .fz))::.fo [4] (.nm 4) (.p (.e (.var 0))) (.ifs (.p (.bool .Or (.not (.isi "tuple" (.var 4))::.cmp .NotEq (.blt "len" (.var 4::.nil)) (.lit (.int 2))::.nil))) (.ret (.p (.lit (.bl false)))::.nil) .nil::.ifs (.p (.bool .Or (.not (.fn 27 (.ix (.var 4) (.lit (.int 0))::.blt "len" (.ix (.var 1) (.lit (.int 1))::.nil)::.nil))::.not (.fn 27 (.ix (.var 4) (.lit (.int 1))::.blt "len" (.ix (.var 2) (.lit (.int 1))::.nil)::.nil))::.nil))) (.ret (.p (.lit (.bl false)))::.nil) .nil::.put (.nm 3) (.tup .fz (.blt "tuple" (.ix (.var 4) (.lit (.int 0))::.nil)::.blt "tuple" (.ix (.var 4) (.lit (.int 1))::.nil)::.nil)) (.p (.lit (.bl true)))::.nil)::.ifs (.p (.bool .Or (.cmp .NotEq (.blt "len" (.var 3::.nil)) (.blt "len" (.var 0::.nil))::.cmp .NotIn (.tup .fz (.fn 25 (.var 1::.nil)::.fn 25 (.var 2::.nil)::.nil)) (.var 3)::.nil))) (.ret (.p (.lit (.bl false)))::.nil) .nil::.pre [3] (.fo [5,6,7] (.tp [.nm 5,.nm 6]) (.p (.e (.var 3))) (.fo [7,8,9,10,11] (.nm 7) (.p (.e (.fn 26 (.ix (.var 1) (.lit (.int 0))::.nil)))) (.unp [8,9] (.p (.fn 24 (.var 1::.var 5::.var 7::.nil)))::.unp [10,11] (.p (.fn 24 (.var 2::.var 6::.var 7::.nil)))::.ifs (.p (.bool .Or (.cmp .NotEq (.var 8) (.var 10)::.cmp .NotIn (.tup .fz (.var 9::.var 11::.nil)) (.var 3)::.nil))) (.ret (.p (.lit (.bl false)))::.nil) .nil::.nil)::.nil))::.ret (.p (.lit (.bl true)))::.nil
noncomputable abbrev EW:List Str:=["_law_found","_law_one","_law_other","_law_known","_law_pair","_law_mine","_law_theirs","_law_bits","_law_outs","_law_after","_law_others","_law_behind"]
theorem IU:bL fns an 60 EW Ge=some IQ:=by rfl
theorem IV:aq EW ["_law_found","_law_one","_law_other"] (ae Ge):=by walk_at "fsc"
noncomputable abbrev Gf:Stmt:=fQ 41
noncomputable def IW:bX:=.ifs (.p (.bool .Or (.not (.fn 28 (.var 0::.ix (.var 1) (.lit (.int 0))::.nil))::.cmp .Eq (.blt "len" (.var 0::.nil)) (.lit (.int 0))::.nil))) (.ret (.p (.lit (.bl false)))::.nil) .nil::.asg 3 (.p (.fn 25 (.var 1::.nil)))::.asg 4 (.p (.fn 25 (.var 2::.nil)))::.fo [5,6,7,8] (.tp [.nm 5,.nm 6]) (.p (.enm (.var 0))) (.unp [7,3] (.p (.fn 24 (.var 1::.var 3::.var 6::.nil)))::.unp [8,4] (.p (.fn 24 (.var 2::.var 4::.var 6::.nil)))::.ifs (.p (.cmp .NotEq (.cmp .NotEq (.var 7) (.var 8)) (.cmp .Eq (.var 5) (.bin .Sub (.blt "len" (.var 0::.nil)) (.lit (.int 1)))))) (.ret (.p (.lit (.bl false)))::.nil) .nil::.nil)::.ret (.p (.lit (.bl true)))::.nil
noncomputable abbrev EX:List Str:=["_law_found","_law_one","_law_other","_law_mine","_law_theirs","_law_k","_law_bits","_law_outs","_law_others"]
theorem IX:bL fns an 60 EX Gf=some IW:=by rfl
theorem IY:aq EX ["_law_found","_law_one","_law_other"] (ae Gf):=by walk_at "fsc"
noncomputable abbrev vq:Stmt:=fQ 42
noncomputable def zt:bX:=.asg 1 (.p (.fn 16 (.var 0::.nil)))::.asg 2 (.ix (.p (.lst (.own [] .fz) (.lst (.own [] .fz) (.lit (.int 2)::.lit (.int 3)::.lit (.int 6)::.lit (.int 4)::.nil)::.lst (.own [] .fz) (.lit (.int 6)::.lit (.int 1)::.lit (.int 6)::.lit (.int 4)::.nil)::.lst (.own [] .fz) (.lit (.int 4)::.lit (.int 2)::.lit (.int 6)::.lit (.int 6)::.nil)::.lst (.own [] .fz) (.lit (.int 1)::.lit (.int 4)::.lit (.int 8)::.lit (.int 6)::.nil)::.lst (.own [] .fz) (.lit (.int 2)::.lit (.int 2)::.lit (.int 9)::.lit (.int 9)::.nil)::.nil))::.fin (.io 15 (.ref 1 (.val (.p (.lit (.int 5))) .nil))) .nil))::.asg 3 (.io 18 (.ref 1 (.val (.p (.var 2)) .nil)))::.asg 4 (.io 21 (.ref 1 (.val (.p (.var 3)) (.val (.p (.blt "int" (.cmp .Lt (.ix (.var 2) (.lit (.int 1))) (.lit (.int 4))::.nil))) .nil))))::.fo [5] (.nm 5) (.rng (.io 15 (.ref 1 (.val (.p (.lit (.int 3))) .nil)))) (.asg 4 (.io 22 (.ref 1 (.val (.p (.var 4)) .nil)))::.nil)::.ifs (.cmp .Eq (.fin (.io 15 (.ref 1 (.val (.p (.lit (.int 2))) .nil))) (.lit (.int 0)::.nil))) (.par 3 4 (.var 4::.var 3::.nil)::.nil) .nil::.asg 6 (.p (.fn 19 (.tup .fz (.var 3::.var 4::.nil)::.nil)))::.pre [6] (.asg 7 (.p (.fn 5 (.ix (.var 6) (.lit (.int 0))::.ix (.var 6) (.lit (.int 1))::.nil))))::.asg 8 (.p (.fn 6 (.ix (.var 6) (.lit (.int 0))::.ix (.var 6) (.lit (.int 1))::.nil)))::.ifs (.p (.bool .And (.cmp .IsNot (.var 7) (.lit .non)::.bool .Or (.not (.fn 30 (.var 7::.var 3::.var 4::.nil))::.cmp .IsNot (.var 8) (.lit .non)::.nil)::.nil))) (.ret (.p (.lit (.bl false)))::.nil) .nil::.ifs (.p (.bool .And (.cmp .Is (.var 7) (.lit .non)::.not (.fn 29 (.var 8::.var 3::.var 4::.nil))::.nil))) (.ret (.p (.lit (.bl false)))::.nil) .nil::.ret (.p (.bool .And (.cmp .Eq (.fn 5 (.ix (.var 6) (.lit (.int 0))::.ix (.var 6) (.lit (.int 1))::.nil)) (.var 7)::.cmp .Eq (.var 6) (.tup .fz (.var 3::.var 4::.nil))::.nil)))::.nil
end
noncomputable abbrev EY:List Str:=["_law_script","_law_state_here","_law_sizes","_law_one","_law_other","_law_k","_law_handed","_law_found","_law_list_found"]
theorem IZ:bL fns an 60 EY vq=some zt:=by rfl
theorem I0:aq EY ["_law_script"] (ae vq):=by walk_at "fsc"
noncomputable def Γ0:GG:=⟨λ_=>none,λ_=>none⟩
noncomputable def ψ0:Fn:=bT Γ0 1000 2 2 b0
noncomputable def Γ_0:GG:=Γ0.addI 0 ψ0
noncomputable def ψ1:Fn:=bT Γ_0 1000 1 1 b1
noncomputable def Γ_1:GG:=Γ_0.addI 1 ψ1
noncomputable def ψ2:Fn:=bT Γ_1 1000 1 1 b2
noncomputable def Γ_2:GG:=Γ_1.addI 2 ψ2
noncomputable def ψ3:Fn:=bT Γ_2 1000 2 5 b3
noncomputable def Γ_3:GG:=Γ_2.addI 3 ψ3
noncomputable def ψ4:Fn:=bT Γ_3 1000 3 5 b4
noncomputable def Γ_4:GG:=Γ_3.addI 4 ψ4
noncomputable def ψ8:Fn:=bT Γ_4 1000 2 2 b8
noncomputable def Γ_8:GG:=Γ_4.addI 8 ψ8
noncomputable def ψ9:Fn:=bT Γ_8 1000 1 1 b9
noncomputable def Γ_9:GG:=Γ_8.addI 9 ψ9
noncomputable def BZ:Fn:=bT Γ_9 1000 1 1 HG
noncomputable def Γ_10:GG:=Γ_9.addI 10 BZ
noncomputable def EZ:Fn:=bT Γ_10 1000 2 2 HK
noncomputable def Γ_11:GG:=Γ_10.addI 11 EZ
noncomputable def zu:Fn:=bT Γ_11 1000 2 2 HU
noncomputable def Γ_14:GG:=Γ_11.addI 14 zu
noncomputable def CI:Fn:=bT Γ_14 1000 2 12 EH
noncomputable def Γ_13:GG:=Γ_14.addI 13 CI
noncomputable def E1:Fn:=bT Γ_13 1000 3 8 HN
noncomputable def Γ_12:GG:=Γ_13.addI 12 E1
noncomputable def ψ7:Fn:=bT Γ_12 1000 2 10 b7
noncomputable def Γ_7:GG:=Γ_12.addI 7 ψ7
noncomputable def ψ5:Fn:=bT Γ_7 1000 2 4 b5
noncomputable def Γ_5:GG:=Γ_7.addI 5 ψ5
noncomputable def ψ6:Fn:=bT Γ_5 1000 2 4 b6
noncomputable def Γ_6:GG:=Γ_5.addI 6 ψ6
noncomputable def CJ:Fm:=i3 Γ_6 1000 2 3 [0] HX
noncomputable def Γ_15:GG:=Γ_6.addM 15 CJ
noncomputable def E2:Fn:=bT Γ_15 1000 1 3 H9
noncomputable def Γ_16:GG:=Γ_15.addI 16 E2
noncomputable def E3:Fm:=i3 Γ_16 1000 2 6 [0] EL
noncomputable def Γ_17:GG:=Γ_16.addM 17 E3
noncomputable def E4:Fm:=i3 Γ_17 1000 2 9 [0] Ig
noncomputable def Γ_18:GG:=Γ_17.addM 18 E4
noncomputable def Gg:Fn:=recI Γ_18 19 1000 1 1 sL 40
noncomputable def Γ_19:GG:=Γ_18.addI 19 Gg
noncomputable def Ca:Fm:=i3 Γ_19 1000 2 2 [0] Il
noncomputable def Γ_20:GG:=Γ_19.addM 20 Ca
noncomputable def E5:Fm:=i3 Γ_20 1000 3 18 [0] BY
noncomputable def Γ_21:GG:=Γ_20.addM 21 E5
noncomputable def E6:Fm:=i3 Γ_21 1000 2 11 [0] ER
noncomputable def Γ_22:GG:=Γ_21.addM 22 E6
noncomputable def E7:Fn:=bT Γ_22 1000 3 9 Iv
noncomputable def Γ_23:GG:=Γ_22.addI 23 E7
noncomputable def zw:Fn:=bT Γ_23 1000 3 4 Iy
noncomputable def Γ_24:GG:=Γ_23.addI 24 zw
noncomputable def zx:Fn:=bT Γ_24 1000 1 1 IB
noncomputable def Γ_25:GG:=Γ_24.addI 25 zx
noncomputable def E8:Fn:=bT Γ_25 1000 1 1 IF
noncomputable def Γ_26:GG:=Γ_25.addI 26 E8
noncomputable def Cb:Fn:=bT Γ_26 1000 2 3 IJ
noncomputable def Γ_27:GG:=Γ_26.addI 27 Cb
noncomputable def E9:Fn:=bT Γ_27 1000 2 2 IM
noncomputable def Γ_28:GG:=Γ_27.addI 28 E9
noncomputable def Fe:Fn:=bT Γ_28 1000 3 12 IQ
noncomputable def Γ_29:GG:=Γ_28.addI 29 Fe
noncomputable def Ff:Fn:=bT Γ_29 1000 3 9 IW
noncomputable def Γ_30:GG:=Γ_29.addI 30 Ff
noncomputable def Fg:Fn:=bT Γ_30 1000 1 9 zt
noncomputable abbrev k0:Ow:=.own [] .fz
structure Ci where
 ins:Nat
 mems:List (Bool×Nat)
 gates:List (Nat×List Nat)
 outs:List Nat
noncomputable abbrev iD(n:Nat):D:=.int (n:Int)
noncomputable abbrev bD(b:Bool):D:=.int (b.toNat:Int)
noncomputable def aZ(m:Bool×Nat):D:=.tup [bD m.1,iD m.2]
noncomputable def aF(g:Nat×List Nat):D:=.tup [iD g.1,.tup (g.2.map iD)]
noncomputable def cD(c:Ci):D:=.tup [iD c.ins,.lst (c.mems.map aZ),.lst (c.gates.map aF),.lst (c.outs.map iD)]
noncomputable def Ci.n(c:Ci):Nat:=c.ins+c.mems.length+c.gates.length
noncomputable def GOk(n:Nat)(gs:List (Nat×List Nat)):Prop:=∀(k:Nat) g,gs[k]?=some g->g.2.length<=3/\g.1<2^2^g.2.length/\∀p∈g.2,p<n+k
structure Ok(c:Ci):Prop where
 g:GOk (c.ins+c.mems.length) c.gates
 m:∀m∈c.mems,m.2<c.n
 o:∀o∈c.outs,o<c.n
 bi:c.ins<=6
 bm:c.mems.length<=100
 bg:c.gates.length<=100
 bo:c.outs.length<=100
noncomputable def dq:List Bool->Nat
 |[]=>0
 |b::bs=>b.toNat+2*dq bs
noncomputable def c8(vs:List Bool)(g:Nat×List Nat):List Bool:=vs++[g.1.testBit (dq (g.2.map λp=>vs.getD p false))]
noncomputable def vals(c:Ci)(st ins:List Bool):List Bool:=c.gates.foldl c8 (ins++st)
noncomputable def a8(c:Ci)(st ins:List Bool):List Bool:=c.outs.map λp=>(vals c st ins).getD p false
noncomputable def nextOf(c:Ci)(st ins:List Bool):List Bool:=c.mems.map λm=>(vals c st ins).getD m.2 false
noncomputable def cc(c:Ci):List Bool:=c.mems.map (·.1)
noncomputable def rb(n i:Nat):List Bool:=(Kh n).map λk=>i.testBit (n-1-k)
theorem pC:∀(gs:List (Nat×List Nat)) (vs:List Bool),(gs.foldl c8 vs).length=vs.length+gs.length
 |[],vs=>rfl
 |g::gs,vs=>by rw[List.foldl_cons,pC gs];simp[c8];lia
theorem vt{c:Ci}{st ins:List Bool}(h1:st.length=c.mems.length)(h2:ins.length=c.ins):(vals c st ins).length=c.n:=by
 unfold vals Ci.n;rw[pC,K5];lia
theorem mt{n i:Nat}:(rb n i).length=n:=by simp[rb]
theorem iH:∀(bs:List Bool) (b:Bool),dq (bs++[b])=dq bs+2^bs.length*b.toNat
 |[],b=>by simp[dq]
 |a::bs,b=>by
  simp only[Lp,dq,iH bs b,KS,LO,Nat.mul_add];rw[Nat.mul_comm (2^bs.length) 2,Mo];lia
theorem qS(a b:Nat):Builtin.bitAnd (a:Int) b=((a &&& b:Nat):Int):=by
 rw[PyProof.Rows.bitAnd_pp (by lia) (by lia)];rfl
theorem yg:∀a b:Nat,a+b=(a ^^^ b)+2*(a &&& b):=by
 intro a
 induction a using Nat.strongRecOn with
 |ind a ih=>
  intro b;by_cases h0:a=0
  ·subst h0;simp
  have:=ih (a / 2) (by lia) (b / 2);rw[<- Nat.xor_div_two,<- Nat.and_div_two] at this;have h1:(a &&& b)%2=1↔a%2=1/\b%2=1:=Nat.and_mod_two_eq_one;have h2:(a ^^^ b)%2=1↔¬(a%2=1↔b%2=1):=Nat.xor_mod_two_eq_one
  lia
theorem yh(a b:Nat):Builtin.bitXor (a:Int) b=((a ^^^ b:Nat):Int):=by
 rw[PyProof.Rows.bitXor_and,qS];have:=yg a b
 lia
theorem yj(a i:Nat):Builtin.bitAnd ((a:Int) / 2^i) 1=((a.testBit i).toNat:Int):=by
 rw[PyProof.Rows.bitAnd_m1,Nat.testBit_eq_decide_div_mod_eq];have:(a:Int) / 2^i=((a / 2^i:Nat):Int):=by simp
 rw[this];rcases Nat.mod_two_eq_zero_or_one (a / 2^i) with h|h
 ·rw[decide_eq_false (by lia)];show _=((0:Nat):Int);lia
 ·rw[decide_eq_true h];show _=((1:Nat):Int);lia
theorem yk(a b x i:Nat):(a ^^^ ((a ^^^ b) &&& x)).testBit i=if x.testBit i=true then b.testBit i else a.testBit i:=by
 rw[Nat.testBit_xor,Nat.testBit_and,Nat.testBit_xor]
 cases a.testBit i<;>cases b.testBit i<;>cases x.testBit i<;>rfl
noncomputable abbrev W(n:Nat):Nat:=2^2^n-1
noncomputable def wb(n x:Nat)(b:Nat->Bool):Prop:=x<2^2^n/\∀i,i<2^n->x.testBit i=b i
theorem vA(n:Nat)(b:Bool):wb n (W n*b.toNat) λ_=>b:=by
 have hp:0<2^2^n:=LC _
 cases b with
 |false=>exact⟨by simpa using hp,λi _=>by simp⟩
 |true=>exact⟨by simp[W];lia,λi hi=>by simp[W,Nat.testBit_two_pow_sub_one,hi]⟩
noncomputable def si(n t s m:Nat)(bs:Nat->List Bool)(L:List Nat):Prop:=L.length=2^m/\∀(j:Nat) x,L[j]?=some x->wb n x λi=>t.testBit (dq (bs i)+2^s*j)
theorem Fh(n t m:Nat):si n t 0 m (λ_=>[]) ((Kh (2^m)).map λj=>W n*(t.testBit j).toNat):=by
 refine⟨by simp,λj x h=>?_⟩;rw[Kf] at h
 cases e:(Kh (2^m))[j]? with
 |none=>rw[e] at h;cases h
 |some k=>
  rw[e] at h;cases h;have hj:=(Kb.mp e).1;rw[Kx] at hj;rw[KN hj] at e;cases e;have:=vA n (t.testBit j);refine⟨this.1,λi hi=>?_⟩;rw[this.2 i hi];simp[dq]
theorem sj{n t s m x:Nat}{bs:Nat->List Bool}{L:List Nat}(h:si n t s (m+1) bs L)(hs:∀i,(bs i).length=s)(hx:wb n x b):si n t (s+1) m (λi=>bs i++[b i]) ((Kh (2^m)).map λj=>L.getD (2*j) 0 ^^^ ((L.getD (2*j) 0 ^^^ L.getD (2*j+1) 0) &&& x)):=by
 refine⟨by simp,λj y hy=>?_⟩;rw[Kf] at hy
 cases e:(Kh (2^m))[j]? with
 |none=>rw[e] at hy;cases hy
 |some k=>
  rw[e] at hy;cases hy;have hj:=(Kb.mp e).1;rw[Kx] at hj;rw[KN hj] at e;cases e;have hl:=h.1;rw[LO] at hl;have e0:L[2*j]?=some (L.getD (2*j) 0):=by rw[Kr,Kg (by lia)];rfl
  have e1:L[2*j+1]?=some (L.getD (2*j+1) 0):=by rw[Kr,Kg (by lia)];rfl
  have c0:=h.2 _ _ e0;have c1:=h.2 _ _ e1;refine⟨Mv c0.1 (Nat.and_lt_two_pow _ hx.1),λi hi=>?_⟩;show _=t.testBit (dq (bs i++[b i])+2^(s+1)*j);rw[yk,hx.2 i hi,c0.2 i hi,c1.2 i hi,iH,hs i]
  cases b i with
  |true=>
   rw[if_pos rfl];refine congrArg t.testBit ?_;show _=dq (bs i)+2^s*1+2^(s+1)*j;rw[LO,Nat.mul_add,Mo];lia
  |false=>
   rw[if_neg (by decide)];refine congrArg t.testBit ?_;show _=dq (bs i)+2^s*0+2^(s+1)*j;rw[LO,Mo];lia
theorem vB{n t s:Nat}{bs:Nat->List Bool}(h:si n t s 0 bs L):∃x,L=[x]/\wb n x λi=>t.testBit (dq (bs i)):=by
 have hl:L.length=1:=h.1
 match L,hl with
 |[x],_=>exact⟨x,rfl,by simpa using h.2 0 x rfl⟩
noncomputable def pD(n:Nat)(vs:Nat->List Bool)(cs:List Nat):Prop:=(∀i,(vs i).length=cs.length)/\∀(p:Nat) x,cs[p]?=some x->wb n x λi=>(vs i).getD p false
theorem sn{n x:Nat}{vs:Nat->List Bool}{cs:List Nat}{g:Nat×List Nat}(h:pD n vs cs)(hx:wb n x λi=>g.1.testBit (dq (g.2.map λp=>(vs i).getD p false))):pD n (λi=>c8 (vs i) g) (cs++[x]):=by
 refine⟨λi=>by simp[c8,h.1 i],λp y hy=>?_⟩;by_cases hp:p<cs.length
 ·rw[Ks hp] at hy;have:=h.2 p y hy;refine⟨this.1,λi hi=>?_⟩;rw[this.2 i hi];simp only[c8,Kr];rw[Ks (by rw[h.1 i];exact hp)]
 ·have hp':p=cs.length:=by
   have:=(Kb.mp hy).1;simp at this;lia
  subst hp';rw[KP (Ki _),Lw] at hy;cases hy;refine⟨hx.1,λi hi=>?_⟩;rw[hx.2 i hi];simp only[c8,Kr];rw[KP (by rw[h.1 i];exact Ki _),h.1 i,Lw];rfl
noncomputable def kj(k n:Nat):Nat:=(Kh (2^n)).foldl (λa i=>if i.testBit k then a+2^i else a) 0
theorem ym:∀n,n<=6->∀k,k<n->kj k n<2^2^n/\∀i,i<2^n->(kj k n).testBit i=i.testBit k:=by decide +kernel
theorem Fk{n:Nat}(hn:n<=6)(st:List Bool):pD n (λi=>rb n i++st) ((Kh n).map (λk=>kj (n-1-k) n)++st.map λb=>W n*b.toNat):=by
 refine⟨λi=>by simp[rb],λp x hx=>?_⟩;by_cases hp:p<n
 ·rw[Ks (by simpa using hp),Kf,KN hp] at hx;cases hx;have:=ym n hn (n-1-p) (by lia);refine⟨this.1,λi hi=>?_⟩;show _=(rb n i++st).getD p false;rw[this.2 i hi,Kr,Ks (by simpa[rb] using hp)];unfold rb;rw[Kf,KN hp];rfl
 ·rw[KP (by simp;lia),Kf] at hx;simp only[Kc,Kx] at hx
  cases e:st[p-n]? with
  |none=>rw[e] at hx;cases hx
  |some b=>
   rw[e] at hx;cases hx;have:=vA n b;refine⟨this.1,λi hi=>?_⟩;show _=(rb n i++st).getD p false;rw[this.2 i hi,Kr,KP (by simp[rb];lia)];simp only[rb,Kc,Kx];rw[e];rfl
theorem bS(h:Wp φ λx=>x=r):φ=some r:=by obtain⟨x,e,rfl⟩:=h;exact e
theorem g7{α:Type}{a:Option α}{r:α}{Q:α->Prop}(h:Wp a λx=>x=r)(q:Q r):Wp a Q:=h.mono λx e=>by subst e;exact q
section
variable {Γ:GG} {N:Nat} {pn:List Nat} {ρ:Ro} {Q:Res->Prop} {rest:bX}
theorem bw(h:Wp (aH Γ N rest pn ρ) Q):Wp (aH Γ N .nil pn ρ) (Kt Γ N rest pn Q):=aN (br h)
theorem a5{z:Bool}(h:Wp (ba Γ.fn t ρ) λr=>r=z)(h1:z=true->Wp (aH Γ N a pn ρ) (Kt Γ N rest pn Q))(h2:z=false->Wp (aH Γ N b pn ρ) (Kt Γ N rest pn Q)):Wp (aH Γ N (.cons (.ifs (.p t) a b) rest) pn ρ) Q:=
 vk (vi (h.mono λx hx=>by subst hx;exact⟨h1,h2⟩))
end
section
variable {Γ:Nat->Option Fn} {ρ:Ro} {Q:KD->Prop} {k k':Kd}
theorem pE{a b:Nat}(q:Q (.sh,iD (a ^^^ b))):Wp (dZ .BitXor (k,iD a) (k',iD b)) Q:=⟨(.sh,.int (Builtin.bitXor a b)),rfl,by rw[yh];exact q⟩
theorem Cc{a b:Nat}(q:Q (.sh,iD (a &&& b))):Wp (dZ .BitAnd (k,iD a) (k',iD b)) Q:=⟨(.sh,.int (Builtin.bitAnd a b)),rfl,by rw[qS];exact q⟩
theorem mw{x i:Nat}(ha:Wp (af Γ a ρ) λy=>y.2=iD x)(hb:Wp (af Γ b ρ) λy=>y.2=iD i)(q:Q (.sh,bD (x.testBit i))):Wp (af Γ (.bin .BitAnd (.bin .RShift a b) (.lit (.int 1))) ρ) Q:=by
 refine ah (ah (ha.mono λy hy=>hb.mono λz hz=>?_));obtain⟨ky,dy⟩:=y;obtain⟨kz,dz⟩:=z;cases(show dy=_ from hy);cases(show dz=_ from hz);refine BS (by lia) (ac ⟨(.sh,.int (Builtin.bitAnd ((x:Int) / 2^((i:Int)).toNat) 1)),rfl,?_⟩);rw[show((i:Int)).toNat=i from KC i,yj];exact q
theorem Cd{α:Type}{f:α->D}{l:List α}{ys:List D}(hl:ys.length=l.length)(h:∀(i:Nat) y,ys[i]?=some y->∃a,l[i]?=some a/\y=f a):ys=l.map f:=by
 refine MF λi=>?_;rw[Kf]
 cases e:ys[i]? with
 |none=>
  have:l[i]?=none:=KY (by have:=LB.mp e;lia);rw[this];rfl
 |some y=>
  obtain⟨a,e1,rfl⟩:=h i y e;rw[e1];rfl
theorem qT{α:Type}{l:List α}{f g:α->D}{fe:D->Option (Option KD)}(h:∀a∈l,Wp (fe (f a)) λo=>∃kd,o=some (kd,g a)/\cw r (kd,g a)=true):Wp (aX r fe (l.map f)) λys=>ys=l.map g:=by
 refine HF (λj y=>∃a,l[j]?=some a/\y=g a) (λj d hd=>?_) λys hy hp=>Cd (by rw[hy,Kc]) hp;rw[Kf] at hd
 cases e:l[j]? with
 |none=>rw[e] at hd;cases hd
 |some a=>
  rw[e] at hd;cases hd;exact(h a (Kw e)).mono λo ⟨kd,e1,e2⟩=>⟨_,e1,e2,a,rfl,rfl⟩
theorem cF(n:Nat):cI 0 n=(Kh n).map iD:=by
 unfold cI;rw[Mt,KC];exact Lg λk _=>by rw[Mw]
theorem i4{α:Type}{l:List α}{f g:α->D}(hh:hd=.lst\/hd=.tup)(ha:Wp (af Γ a ρ) λx=>fw x.1 (l.map f)=true/\x.2=.nd hd (l.map f))(hl:l.length<=100000)(h:∀a∈l,Wp (ef tg (d5 Γ .non) (af Γ elt) (cn ρ cap) (f a)) λo=>∃kd,o=some (kd,g a)/\cw r (kd,g a)=true)(q:Q (.fr (.own [] r),.lst (l.map g))):Wp (af Γ (.comp r cap tg (.e a) .non elt) ρ) Q:=by
 refine jh (ge (ha.mono λx hx=>?_));obtain⟨kx,dx⟩:=x;obtain⟨h1,h2⟩:=hx;cases(show dx=_ from h2);rcases hh with rfl|rfl
 ·exact c4 h1 ⟨by simpa using hl,g7 (qT h) q⟩
 ·exact vj h1 ⟨by simpa using hl,g7 (qT h) q⟩
theorem vC{n:Nat}{g:Nat->D}(ha:Wp (af Γ a ρ) λx=>x.2=iD n)(hn:n<=100000)(h:∀i,i<n->Wp (ef tg (d5 Γ .non) (af Γ elt) (cn ρ cap) (iD i)) λo=>∃kd,o=some (kd,g i)/\cw r (kd,g i)=true)(q:Q (.fr (.own [] r),.lst ((Kh n).map g))):Wp (af Γ (.comp r cap tg (.rng (.lit (.int 0)) a) .non elt) ρ) Q:=by
 refine jh (iG (ac (ha.mono λx hx=>?_)));obtain⟨kx,dx⟩:=x;cases(show dx=_ from hx);refine ff (bR (by lia) (by lia) (by lia) (by lia) (by lia)) ⟨?_,?_⟩
 ·show(cI 0 (n:Int)).length<=_;rw[cF,Kc,Kx];exact hn
 ·show Wp (aX r _ (cI 0 (n:Int))) _;rw[cF];exact g7 (qT λi hi=>h i (Lu.mp hi)) q
theorem sr{fe:Ro->Option KD}{Q:Option KD->Prop}(hn:dA [(1,d)] ρ0=true)(h:Wp (fe (setAll [(1,d)] ρ0)) λx=>Q (some x)):Wp (ef (.nm 1) (d5 Γ .non) fe ρ0 d) Q:=vm (ps:=[(1,d)]) rfl hn rfl h
theorem Fl{fe:Ro->Option KD}{Q:Option KD->Prop}(hn:dA [(1,a),(2,b)] ρ0=true)(h:Wp (fe (setAll [(1,a),(2,b)] ρ0)) λx=>Q (some x)):Wp (ef (.tp [.nm 1,.nm 2]) (d5 Γ .non) fe ρ0 (.tup [a,b])) Q:=vm (ps:=[(1,a),(2,b)]) rfl hn rfl h
theorem aj{xs:List D}{n:Nat}{z:Int}(hh:hd=.lst\/hd=.tup)(hz:z=n)(hd':xs[n]?=some d)(q:Q (v8 k n,d)):Wp (rJ (some (k,.nd hd xs)) (some (k',.int z))) Q:=by
 subst hz;have hl:=(Kb.mp hd').1;rcases hh with rfl|rfl
 ·exact BT (n:=n) (by rw[gY (by lia) (by lia)];rfl) hd' q
 ·exact BU (n:=n) (by rw[gY (by lia) (by lia)];rfl) hd' q
end
theorem qU(a:Nat){w:Nat}(hw:w<=1000):ψ0 [iD a,iD w]=some (.fr k0,.lst ((Kh w).map λk=>bD (a.testBit k))):=by
 unfold ψ0;refine bS (cU rfl ?_);unfold b0
 walk_at "nm"
 exact aT (ao (vC (n:=w) (aa rfl rfl) (by lia) (λi hi=>sr rfl (mw (x:=a) (i:=i) (aa rfl rfl) (aa rfl rfl) ⟨_,rfl,rfl⟩)) ⟨rfl,bv rfl rfl⟩))
theorem kl{α:Type}(l:List α)(f:α->Bool):l.map (λx=>bD (f x))=(l.map f).map bD:=by rw[KH];rfl
theorem nY{c:Ci}(h:Ok c):ψ1 [cD c]=some (.fr k0,.lst ((cc c).map bD)):=by
 unfold ψ1;refine bS (cU rfl ?_);unfold b1
 walk_at "nm"
 have hm:=h.bm;refine aT (ao (i4 (l:=c.mems) (f:=aZ) (g:=λm=>bD m.1) (.inl rfl) (aw (aa rfl (ac (aj (n:=1) (.inr rfl) rfl rfl ⟨rfl,rfl⟩)))) (by lia) (λm _=>Fl rfl (aa rfl ⟨_,rfl,rfl⟩)) ⟨rfl,bv rfl ?_⟩));rw[kl];rfl
theorem ss{n:Nat}(hn:n<=6):ψ2 [iD n]=some (.sh,iD (W n)):=by
 unfold ψ2;refine bS (cU rfl ?_);unfold b2
 walk_at "nm"
 have h1:(1:Int)*2^((n:Int)).toNat=((2^n:Nat):Int):=by rw[KC];simp
 have h2:2^n<=64:=KI (n:=2) (by decide) hn;have h3:0<=(1:Int)*2^((n:Int)).toNat/\(1:Int)*2^((n:Int)).toNat<=1000000:=by rw[h1];clear h1;generalize 2^n=p at h2;lia
 refine aT (ao (ah (ah (ac (ah (ac (aa rfl (eE ⟨by lia,by lia,by decide⟩ (eE ⟨h3.1,h3.2,by decide⟩ (ac (ci ⟨rfl,bv rfl ?_⟩)))))))))));rw[h1,KC];have:0<2^2^n:=LC _;show(Kd.sh,D.int _)=(Kd.sh,D.int _);congr 2;rw[Int.one_mul,show((2:Int)^2^n)=((2^2^n:Nat):Int) by simp,Int.ofNat_sub (by lia)];rfl
noncomputable def pF:List (Nat×Nat):=[(0,1),(0,2),(1,2),(0,3),(1,3),(2,3),(0,4),(1,4),(2,4),(3,4),(0,5),(1,5),(2,5),(3,5),(4,5),(0,6),(1,6),(2,6),(3,6),(4,6),(5,6)]
theorem su:∀n,n<=6->∀k,k<n->(k,n)∈pF:=by decide +kernel
theorem pG:∀p∈pF,ψ3 [iD p.1,iD p.2]=some (.sh,iD (kj p.1 p.2)):=by
 intro p hp;simp only[pF,Kn,K1,or_false] at hp
 rcases hp with rfl|rfl|rfl|rfl|rfl|rfl|rfl|rfl|rfl|rfl|rfl|rfl|rfl|rfl|rfl|rfl|rfl|rfl|rfl|rfl|rfl<;>kernel_rfl
theorem sw{k n:Nat}(hn:n<=6)(hk:k<n):ψ3 [iD k,iD n]=some (.sh,iD (kj k n)):=pG _ (su n hn k hk)
theorem Fo:G.iM 2 none (some 2)=[0]/\G.iM 2 (some 1) (some 2)=[1]:=by decide +kernel
theorem Fp:G.iM 4 none (some 2)=[0,2]/\G.iM 4 (some 1) (some 2)=[1,3]:=by decide +kernel
theorem Fs:G.iM 8 none (some 2)=[0,2,4,6]/\G.iM 8 (some 1) (some 2)=[1,3,5,7]:=by decide +kernel
theorem zy{z:Int}{Q:KD->Prop}(h:fw k xs=true/\1<=z)(q:Q (.fr bq,.lst (G.cm xs l (some z)))):Wp (rL (some (k,.nd .lst xs)) (some l) (some (k',.int z))) Q:=⟨_,if_pos h,q⟩
theorem vD:∀{L:List Nat} {m:Nat},m<=2->L.length=2^(m+1)->nc (some (.fr bq,.lst (G.cm (L.map iD) none (some 2)))) (some (.fr bq,.lst (G.cm (L.map iD) (some 1) (some 2))))=some ([],(Kh (2^m)).map λj=>D.tup [iD (L.getD (2*j) 0),iD (L.getD (2*j+1) 0)]):=by
 intro L m hm hl
 match m,hm with
 |0,_=>
  match L,hl with
  |[a,b],_=>
   unfold G.cm;rw[show(K6 iD [a,b]).length=2 from rfl,Fo.1,Fo.2];rfl
 |1,_=>
  match L,hl with
  |[a,b,c,d],_=>
   unfold G.cm;rw[show(K6 iD [a,b,c,d]).length=4 from rfl,Fp.1,Fp.2];rfl
 |2,_=>
  match L,hl with
  |[a,b,c,d,e,f,g,h],_=>
   unfold G.cm;rw[show(K6 iD [a,b,c,d,e,f,g,h]).length=8 from rfl,Fs.1,Fs.2];rfl
theorem zA{n:Nat}(hn:n<=6):((W n:Nat):Int).natAbs<lim:=by
 have:2^n<=64:=KI (n:=2) (by decide) hn;have:W n<2^64:=Km (Nat.sub_lt (LC _) (by decide)) (KI (by decide) this);rw[Mx];exact LF this (by unfold lim;decide)
theorem yn{n t:Nat}{xs:List Nat}{bs:Nat->List Bool}(hn:n<=6)(hl:xs.length<=3)(hb:∀i,(bs i).length=xs.length)(hx:∀(j:Nat) x,xs[j]?=some x->wb n x λi=>(bs i).getD j false) :
  ∃y,ψ4 [iD t,.lst (xs.map iD),iD (W n)]=some (.sh,iD y)/\wb n y λi=>t.testBit (dq (bs i)):=by
 suffices h:Wp (ψ4 [iD t,.lst (xs.map iD),iD (W n)]) λr=>∃y,r=(.sh,iD y)/\wb n y λi=>t.testBit (dq (bs i)) by
  obtain⟨r,e,y,rfl,hy⟩:=h;exact⟨y,e,hy⟩
 unfold ψ4;refine cU rfl ?_;unfold b4
 walk_at "nm"
 have hp:2^xs.length<=8:=KI (n:=2) (by decide) hl;have h1:(1:Int)*2^(((xs.map iD).length:Int)).toNat=((2^xs.length:Nat):Int):=by rw[KC,Kc];simp
 refine aE (ao (i4 (l:=Kh (2^xs.length)) (f:=λj=>bD (t.testBit j)) (g:=λj=>iD (W n*(t.testBit j).toNat)) (.inl rfl) (bE (φ:=ψ0) rfl (ab (aa rfl (ab (ah (ac (bh (ab (aa rfl (ad (dP (eE ⟨by lia,by rw[Kc];lia,by decide⟩ (ad (bz ?_)))))))))))))) (by simp;lia) (λj _=>sr rfl (ah (aa rfl (aa rfl (j9 ⟨zA hn,?_⟩ ⟨.sh,?_,rfl⟩))))) ⟨⟨rfl,by decide⟩,?_⟩))
 ·show Wp (ψ0 [iD t,.int ((1:Int)*2^(((xs.map iD).length:Int)).toNat)]) _;rw[h1];exact⟨_,qU t (by lia),rfl,.inl rfl,rfl,rfl⟩
 ·cases t.testBit j<;>decide
 ·show some (Kd.sh,D.int _)=some (Kd.sh,D.int _);rw[Int.natCast_mul]
 show Wp (aH _ _ _ _ [some ⟨false,.fz,iD t⟩,some ⟨false,.fz,.lst (xs.map iD)⟩,some ⟨false,.fz,iD (W n)⟩,some ⟨false,k0,.lst ((Kh (2^xs.length)).map λj=>iD (W n*(t.testBit j).toNat))⟩,none]) _;refine c7 (bU (ge (aa rfl (c4 rfl ⟨λs ρ=>s<=xs.length/\∃L x4,ρ=[some ⟨false,.fz,iD t⟩,some ⟨false,.fz,.lst (xs.map iD)⟩,some ⟨false,.fz,iD (W n)⟩,some ⟨false,k0,.lst (L.map iD)⟩,x4]/\si n t s (xs.length-s) (λi=>(bs i).take s) L,⟨KJ _,_,none,?_,Fh n t xs.length⟩,λs d ρ hd hI=>?_,λρ hI=>?_⟩))))
 ·rw[KH];rfl
 ·obtain⟨hs,L,x4,rfl,hT⟩:=hI;have hd:(xs.map iD)[s]?=some d:=hd;rw[Kf] at hd
  cases e:xs[s]? with
  |none=>rw[e] at hd;cases hd
  |some x=>
   rw[e] at hd;cases hd;have hs':=(Kb.mp e).1;obtain⟨m,hm⟩:∃m,xs.length-s=m+1:=⟨xs.length-s-1,by lia⟩;rw[hm] at hT;refine⟨[(4,iD x)],rfl,rfl,?_⟩;show Wp (aH _ _ _ [] [some ⟨false,.fz,iD t⟩,some ⟨false,.fz,.lst (xs.map iD)⟩,some ⟨false,.fz,iD (W n)⟩,some ⟨false,k0,.lst (L.map iD)⟩,some ⟨false,.fz,iD x⟩]) _;have hz:=vD (L:=L) (m:=m) (by lia) hT.1;have hst:=sj hT (λi=>by rw[KQ,hb i];lia) (hx s x e);refine aE (ao (jh (vc (va (aa rfl (pi (ac (zy ⟨rfl,by decide⟩ (va (aa rfl (vb (ac ⟨1,rfl,ac (zy ⟨rfl,by decide⟩ ⟨_,hz,?_⟩)⟩))))))))))));have h2m:2^m<=8:=KI (n:=2) (by decide) (show m<=3 by lia);refine⟨by simp;lia,g7 (qT (g:=λj=>iD (L.getD (2*j) 0 ^^^ ((L.getD (2*j) 0 ^^^ L.getD (2*j+1) 0) &&& x))) λj _=>Fl rfl (ah (aa rfl (ah (ah (aa rfl (aa rfl (pE (aa rfl (Cc (pE ⟨_,rfl,rfl⟩))))))))))) ⟨⟨rfl,by decide⟩,aN ⟨_,.inl rfl,by lia,(Kh (2^m)).map (λj=>L.getD (2*j) 0 ^^^ ((L.getD (2*j) 0 ^^^ L.getD (2*j+1) 0) &&& x)),some ⟨false,.fz,iD x⟩,?_,?_⟩⟩⟩
   ·rw[KH];rfl
   ·rw[show xs.length-(s+1)=m by lia]
    have:∀i,(bs i).take (s+1)=(bs i).take s++[(bs i).getD s false]:=λi=>by
     rw[K8,Kr,Kg (by rw[hb i];exact hs')];rfl
    simp only[this];exact hst
 ·obtain⟨hs,L,x4,rfl,hT⟩:=hI;have hlen:(xs.map iD).length=xs.length:=Kc _;have hT:si n t (xs.map iD).length (xs.length-(xs.map iD).length) (λi=>(bs i).take (xs.map iD).length) L:=hT;rw[hlen,Lw] at hT;obtain⟨y,rfl,hy⟩:=vB hT;have:∀i,(bs i).take xs.length=bs i:=λi=>by rw[<- hb i];exact K7
  simp only[this] at hy;refine aT (ao (aw (aa rfl (ac (aj (n:=0) (.inl rfl) rfl rfl ⟨rfl,bv rfl ⟨y,rfl,hy⟩⟩)))))
theorem nZ{cs:List Nat}(hl:cs.length<=1000)(i:Nat):zu [.lst (cs.map iD),iD i]=some (.fr k0,.lst (cs.map λx=>bD (x.testBit i))):=by
 unfold zu;refine bS (cU rfl ?_);unfold HU
 walk_at "nm"
 exact aT (ao (i4 (l:=cs) (f:=iD) (.inl rfl) (aa rfl ⟨rfl,rfl⟩) (by lia) (λx _=>sr rfl (mw (x:=x) (i:=i) (aa rfl rfl) (aa rfl rfl) ⟨_,rfl,rfl⟩)) ⟨rfl,bv rfl rfl⟩))
theorem yo{n:Nat}{vs:Nat->List Bool}{cs:List Nat}(h:pD n vs cs){ps:List Nat}(hp:∀p∈ps,p<cs.length):(∀i,(ps.map λp=>(vs i).getD p false).length=(ps.map λp=>cs.getD p 0).length)/\∀(j:Nat) x,(ps.map λp=>cs.getD p 0)[j]?=some x->wb n x λi=>(ps.map λp=>(vs i).getD p false).getD j false:=by
 refine⟨λi=>by simp,λj x hx=>?_⟩;rw[Kf] at hx
 cases e:ps[j]? with
 |none=>rw[e] at hx;cases hx
 |some p=>
  rw[e] at hx;cases hx;have hl:=hp p (Kw e);have:=h.2 p (cs.getD p 0) (by rw[Kr,Kg hl];rfl);refine⟨this.1,λi hi=>?_⟩;rw[this.2 i hi];simp[e]
theorem qV{cs:List Nat}{p:Nat}(h:p<cs.length):(cs.map iD)[p]?=some (iD (cs.getD p 0)):=by
 rw[Kf,Kr,Kg h];rfl
noncomputable def fq(c:Ci)(st:List Bool)(i:Nat):D:=.tup [.lst ((a8 c st (rb c.ins i)).map bD),.lst ((nextOf c st (rb c.ins i)).map bD)]
theorem n0{c:Ci}{st:List Bool}(h:Ok c)(hs:st.length=c.mems.length):CI [cD c,.lst (st.map bD)]=some (.fr k0,.lst ((Kh (2^c.ins)).map (fq c st))):=by
 have h2:2^c.ins<=64:=KI (n:=2) (by decide) h.bi;have hi:=h.bi;have hm:=h.bm;have hg:=h.bg;have ho:=h.bo
 have tail:∀(cs:List Nat) (x8 x9:Option Sl),pD c.ins (λi=>vals c st (rb c.ins i)) cs->cs.length=c.n->Wp (aH Γ_14 1000 (match EH with|.cons _ (.cons _ (.cons _ (.cons _ r)))=>r|r=>r) [] [some ⟨false,.fz,cD c⟩,some ⟨false,.fz,.lst (st.map bD)⟩,some ⟨false,.fz,iD c.ins⟩,some ⟨false,.fz,.lst (c.mems.map aZ)⟩,some ⟨false,.fz,.lst (c.gates.map aF)⟩,some ⟨false,.fz,.lst (c.outs.map iD)⟩,some ⟨false,.fz,iD (W c.ins)⟩,some ⟨false,k0,.lst (cs.map iD)⟩,x8,x9,none,none]) λr=>Wp (nS (some r)) λx=>x=(.fr k0,.lst ((Kh (2^c.ins)).map (fq c st))):=by
  intro cs x8 x9 hC hl;unfold EH;have hn:c.n<=300:=by unfold Ci.n;lia
  have h1:(1:Int)*2^((c.ins:Int)).toNat=((2^c.ins:Nat):Int):=by rw[KC];simp
  refine aE (ao (i4 (l:=c.outs) (f:=iD) (g:=λo=>iD (cs.getD o 0)) (.inl rfl) (aa rfl ⟨rfl,rfl⟩) (by lia) (λo ho=>sr rfl (aw (aa rfl (aa rfl (aj (n:=o) (.inl rfl) rfl (qV (by rw[hl];exact h.o o ho)) ⟨_,rfl,rfl⟩))))) ⟨⟨rfl,by decide⟩,?_⟩));refine aE (ao (i4 (l:=c.mems) (f:=aZ) (g:=λm=>iD (cs.getD m.2 0)) (.inl rfl) (aa rfl ⟨rfl,rfl⟩) (by lia) (λm hm=>Fl rfl (aw (aa rfl (aa rfl (aj (n:=m.2) (.inl rfl) rfl (qV (by rw[hl];exact h.m m hm)) ⟨_,rfl,rfl⟩))))) ⟨⟨rfl,by decide⟩,?_⟩));refine aT (eG (bU (iG (ac (ah (ac (aa rfl (eE ⟨by lia,by lia,by decide⟩ ?_))))))));rw[h1];have hlen:(cI 0 ((2^c.ins:Nat):Int)).length=2^c.ins:=by rw[cF,Kc,Kx]
  generalize hp:2^c.ins=p at *;refine ff (bR (by lia) (by lia) (by lia) (by lia) (by lia)) ⟨rfl,by show(cI 0 (p:Int)).length<=100000;lia,?_⟩;show Wp (aD .fz _ (cI 0 (p:Int)) [none,none,none,some ⟨false,k0,.lst (c.mems.map λm=>iD (cs.getD m.2 0))⟩,some ⟨false,k0,.lst (c.outs.map λo=>iD (cs.getD o 0))⟩]) _;refine nW (λj ys ρ=>ys=(Kh j).map (fq c st)/\∃k k',ρ=[none,none,none,some ⟨false,k,.lst (c.mems.map λm=>iD (cs.getD m.2 0))⟩,some ⟨false,k',.lst (c.outs.map λo=>iD (cs.getD o 0))⟩]) ⟨rfl,_,_,rfl⟩ (λj d ys ρ hd hI=>?_) λys ρ hI=>?_
  ·obtain⟨rfl,hj⟩:=gZ hd;obtain⟨rfl,k,k',rfl⟩:=hI;rw[Mw] at hj⊢;have hj:j<2^c.ins:=by lia
   have e1:zu [.lst (c.outs.map λo=>iD (cs.getD o 0)),iD j]=some (.fr k0,.lst ((a8 c st (rb c.ins j)).map bD)):=by
    have:=nZ (cs:=c.outs.map λo=>cs.getD o 0) (by simp;lia) j;rw[KH] at this;refine this.trans ?_;unfold a8;rw[KH,KH];congr 3;refine Lg λo ho=>?_;show bD _=bD _;rw[(hC.2 o (cs.getD o 0) (by rw[Kr,Kg (by rw[hl];exact h.o o ho)];rfl)).2 j hj]
   have e2:zu [.lst (c.mems.map λm=>iD (cs.getD m.2 0)),iD j]=some (.fr k0,.lst ((nextOf c st (rb c.ins j)).map bD)):=by
    have:=nZ (cs:=c.mems.map λm=>cs.getD m.2 0) (by simp;lia) j;rw[KH] at this;refine this.trans ?_;unfold nextOf;rw[KH,KH];congr 3;refine Lg λm hm=>?_;show bD _=bD _;rw[(hC.2 m.2 (cs.getD m.2 0) (by rw[Kr,Kg (by rw[hl];exact h.m m hm)];rfl)).2 j hj]
   refine kh (ps:=[(1,iD j)]) rfl ⟨rfl,rfl⟩ rfl (cZ (aO (zr (φ:=zu) rfl (aU (vh rfl (ab (aa rfl (ad (bz ⟨_,e1,rfl,.inl rfl,rfl,aU (zr (φ:=zu) rfl (aU (vh rfl (ab (aa rfl (ad (bz ⟨_,e2,rfl,.inl rfl,ad (aV rfl ⟨_,rfl,rfl,?_,_,_,rfl⟩)⟩)))))))⟩)))))))));rw[L9,Kq];rfl
  ·obtain⟨rfl,k,k',rfl⟩:=hI;refine⟨rfl,rfl,bv rfl ?_⟩;show(_,D.lst ((Kh (cI 0 (p:Int)).length).map _))=_;rw[hlen];rfl
 unfold CI;refine bS (cU rfl ?_);unfold EH at tail⊢
 walk_at "nm"
 refine dW (ao (aa rfl ⟨_,_,_,rfl,rfl,⟨rfl,rfl⟩,?_⟩));show Wp (aH _ _ _ _ [some ⟨false,.fz,cD c⟩,some ⟨false,.fz,.lst (st.map bD)⟩,some ⟨false,.fz,iD c.ins⟩,some ⟨false,.fz,.lst (c.mems.map aZ)⟩,some ⟨false,.fz,.lst (c.gates.map aF)⟩,some ⟨false,.fz,.lst (c.outs.map iD)⟩,none,none,none,none,none,none]) _;refine aE (ao (bE (φ:=ψ2) rfl (ab (aa rfl (ad (bz ⟨_,ss hi,rfl,.inl rfl,⟨rfl,by decide⟩,?_⟩))))));refine aE (ao (ah (vC (n:=c.ins) (g:=λk=>iD (kj (c.ins-1-k) c.ins)) (aa rfl rfl) (by lia) (λk hk=>sr rfl (bE (φ:=ψ3) rfl (ab (ah (ah (aa rfl (ac (ci (aa rfl (ci (ab (aa rfl (ad (bz ?_)))))))))))))) (i4 (l:=st) (f:=bD) (g:=λb=>iD (W c.ins*b.toNat)) (.inl rfl) (aa rfl ⟨rfl,rfl⟩) (by lia) (λb _=>sr rfl (ah (aa rfl (aa rfl (j9 ⟨zA hi,?_⟩ ⟨.sh,?_,rfl⟩))))) (kg ⟨rfl,rfl,by simp;lia⟩ ⟨⟨rfl,by decide⟩,?_⟩)))))
 ·refine⟨(.sh,iD (kj (c.ins-1-k) c.ins)),?_,rfl,.inl rfl,.sh,rfl,rfl⟩;show ψ3 [.int ((c.ins:Int)-1-k),iD c.ins]=_;rw[show(c.ins:Int)-1-k=((c.ins-1-k:Nat):Int) by lia];exact sw hi (by lia)
 ·cases b<;>decide
 ·show some (Kd.sh,D.int _)=some (Kd.sh,D.int _);rw[Int.natCast_mul]
 have hC0:=Fk hi st;have hl0:((Kh c.ins).map (λk=>kj (c.ins-1-k) c.ins)++st.map λb=>W c.ins*b.toNat).length=c.ins+c.mems.length:=by simp[hs]
 have he0:((Kh c.ins).map λk=>iD (kj (c.ins-1-k) c.ins))++(st.map λb=>iD (W c.ins*b.toNat))=((Kh c.ins).map (λk=>kj (c.ins-1-k) c.ins)++st.map λb=>W c.ins*b.toNat).map iD:=by rw[Kq,KH,KH];rfl
 rw[he0];generalize (Kh c.ins).map (λk=>kj (c.ins-1-k) c.ins)++(st.map λb=>W c.ins*b.toNat)=cs0 at *;show Wp (aH _ _ _ _ [some ⟨false,.fz,cD c⟩,some ⟨false,.fz,.lst (st.map bD)⟩,some ⟨false,.fz,iD c.ins⟩,some ⟨false,.fz,.lst (c.mems.map aZ)⟩,some ⟨false,.fz,.lst (c.gates.map aF)⟩,some ⟨false,.fz,.lst (c.outs.map iD)⟩,some ⟨false,.fz,iD (W c.ins)⟩,some ⟨false,k0,.lst (cs0.map iD)⟩,none,none,none,none]) _;refine c7 (bU (ge (aa rfl (c4 rfl ⟨λs ρ=>∃cs x8 x9,ρ=[some ⟨false,.fz,cD c⟩,some ⟨false,.fz,.lst (st.map bD)⟩,some ⟨false,.fz,iD c.ins⟩,some ⟨false,.fz,.lst (c.mems.map aZ)⟩,some ⟨false,.fz,.lst (c.gates.map aF)⟩,some ⟨false,.fz,.lst (c.outs.map iD)⟩,some ⟨false,.fz,iD (W c.ins)⟩,some ⟨false,k0,.lst (cs.map iD)⟩,x8,x9,none,none]/\cs.length=c.ins+c.mems.length+s/\pD c.ins (λi=>(c.gates.take s).foldl c8 (rb c.ins i++st)) cs,⟨cs0,none,none,rfl,hl0,hC0⟩,λs d ρ hd hI=>?_,λρ hI=>?_⟩))))
 ·obtain⟨cs,x8,x9,rfl,hl,hC⟩:=hI;have hd:(c.gates.map aF)[s]?=some d:=hd;rw[Kf] at hd
  cases e:c.gates[s]? with
  |none=>rw[e] at hd;cases hd
  |some g=>
   rw[e] at hd;cases hd;obtain⟨g1,g2,g3⟩:=h.g s g e;have hs':=(Kb.mp e).1;have hpk:=yo hC (ps:=g.2) λp hp=>by rw[hl];exact g3 p hp
   obtain⟨y,ey,hy⟩:=yn (t:=g.1) hi (by simpa using g1) hpk.1 hpk.2;refine⟨[(8,iD g.1),(9,.tup (g.2.map iD))],rfl,rfl,?_⟩;show Wp (aH _ _ _ [] [some ⟨false,.fz,cD c⟩,some ⟨false,.fz,.lst (st.map bD)⟩,some ⟨false,.fz,iD c.ins⟩,some ⟨false,.fz,.lst (c.mems.map aZ)⟩,some ⟨false,.fz,.lst (c.gates.map aF)⟩,some ⟨false,.fz,.lst (c.outs.map iD)⟩,some ⟨false,.fz,iD (W c.ins)⟩,some ⟨false,k0,.lst (cs.map iD)⟩,some ⟨false,.fz,iD g.1⟩,some ⟨false,.fz,.tup (g.2.map iD)⟩,none,none]) _;rw[KH] at ey;refine c6 (dl (bE (φ:=ψ4) rfl (ab (aa rfl (ab (i4 (l:=g.2) (f:=iD) (g:=λp=>iD (cs.getD p 0)) (.inr rfl) (aa rfl ⟨rfl,rfl⟩) (by lia) (λp hp=>sr rfl (aw (aa rfl (aa rfl (aj (n:=p) (.inl rfl) rfl (qV (by rw[hl];exact g3 p hp)) ⟨_,rfl,rfl⟩))))) (ab (aa rfl (ad (bz ⟨_,ey,rfl,.inl rfl,[],.fz,_,rfl,⟨by simp,rfl,by rw[Kc];lia⟩,aN ⟨_,.inl rfl,cs++[y],some ⟨false,.fz,iD g.1⟩,some ⟨false,.fz,.tup (g.2.map iD)⟩,?_,by simp;lia,?_⟩⟩))))))))))
   ·rw[Kq];rfl
   ·have:∀vs,(c.gates.take (s+1)).foldl c8 vs=c8 ((c.gates.take s).foldl c8 vs) g:=λvs=>by
     rw[K8,e,MG];rfl
    simp only[this];exact sn hC hy
 ·obtain⟨cs,x8,x9,rfl,hl,hC⟩:=hI;have hl:cs.length=c.ins+c.mems.length+(c.gates.map aF).length:=hl;have hC:pD c.ins (λi=>(c.gates.take (c.gates.map aF).length).foldl c8 (rb c.ins i++st)) cs:=hC;rw[Kc] at hl hC;rw[K7] at hC;exact tail cs none none hC hl
section
variable {Γ:Nat->Option Fn} {ρ:Ro} {Q:KD->Prop}
theorem Ce(h:Wp (af Γ a ρ) λx=>Wp (af Γ b ρ) λy=>Wp (oG (some x) (some y)) Q):Wp (af Γ (.rev a b) ρ) Q:=by
 obtain⟨x,ex,y,ey,z,ez,q⟩:=h;exact⟨z,by rw[xr,ex,ey];exact ez,q⟩
theorem I9{xs:List D}(h:fw k xs=true)(q:Q (.fr bq,.lst xs.reverse)):Wp (oG (some (k,.nd .lst xs)) (some (k',.int (-1)))) Q:=⟨_,if_pos ⟨rfl,h⟩,q⟩
theorem Cf{i:Int}(h:Wp (af Γ a ρ) λx=>x.2=.int i)(q:Q (.sh,.int (-i))):Wp (af Γ (.neg a) ρ) Q:=by
 obtain⟨⟨k,d⟩,e,hd⟩:=h;cases(show d=_ from hd);exact⟨_,by rw[xo,e];rfl,q⟩
theorem yp{m:Nat}(h:Wp (af Γ k ρ) λx=>Wp (af Γ a ρ) λy=>Wp (jJ m (some x) (some y)) Q):Wp (af Γ (.dspT m k a) ρ) Q:=by
 obtain⟨x,ex,y,ey,z,ez,q⟩:=h;exact⟨z,by rw[uq,ex,ey];exact ez,q⟩
end
theorem zB:∀x y:List Bool,PyData.eqvAll (m3 (x.map bD)) (m3 (y.map bD))=decide (x=y)
 |[],[]=>by simp[m3,PyData.eqvAll]
 |[],_::_=>by simp[m3,PyData.eqvAll]
 |_::_,[]=>by simp[m3,PyData.eqvAll]
 |a::x,b::y=>by
  have:=zB x y;simp only[KM,m3,PyData.eqvAll,this,py,PyData.eqv]
  cases a<;>cases b<;>simp
theorem zC(x y:List Bool):sI (.lst (x.map bD)) (.lst (y.map bD))=decide (x=y):=by
 unfold sI;simp only[py,PyData.eqv];exact zB x y
theorem n4(n:Nat)(x:List Bool):fv (n+1) (.lst (x.map bD))=true:=by
 simp only[fv,Ke,decide_eq_true_eq];refine⟨by lia,g6 λd hd=>?_⟩;obtain⟨b,_,rfl⟩:=KW.mp hd;rfl
theorem Cg{x y:List Bool}{T:Bool->Prop}(q:T (decide (x=y))):Wp (bI .Eq (.lst (x.map bD)) (.lst (y.map bD))) T:=pp ⟨n4 _ _,n4 _ _⟩ (by rw[zC];exact q)
theorem vE{x y:List Bool}{T:Bool->Prop}(q:T (!decide (x=y))):Wp (bI .NotEq (.lst (x.map bD)) (.lst (y.map bD))) T:=pq ⟨n4 _ _,n4 _ _⟩ (by rw[zC];exact q)
noncomputable abbrev P:=List Bool×List Bool
noncomputable def aM(p:P):D:=.tup [.lst (p.1.map bD),.lst (p.2.map bD)]
noncomputable def g8(p:P):D:=.tup [.tup (p.1.map bD),.tup (p.2.map bD)]
noncomputable def bK(b:Bool):aI:=.inl (b.toNat:Int)
noncomputable def pk(p:P):DK:=.inr [.inr (p.1.map bK),.inr (p.2.map bK)]
noncomputable def dH(a b:Ci)(p:P)(x:List Bool):Bool:=decide (a8 a p.1 x=a8 b p.2 x)
noncomputable def bn(a b:Ci)(p:P)(x:List Bool):P:=(nextOf a p.1 x,nextOf b p.2 x)
theorem pH:∀{x y:List Bool},x.map bK=y.map bK->x=y
 |[],[],_=>rfl
 |a::x,b::y,h=>by
  simp only[KM,List.cons.injEq] at h
  have:a=b:=by
   have:=h.1;simp only[bK,Sum.inl.injEq] at this
   cases a<;>cases b<;>first|rfl|exact absurd this (by decide)
  rw[this,pH h.2]
 |[],_::_,h=>by simp at h
 |_::_,[],h=>by simp at h
theorem Ch(h:pk p=pk q):p=q:=by
 unfold pk at h;simp only[Sum.inr.injEq,List.cons.injEq] at h;exact Prod.ext (pH h.1) (pH h.2.1)
theorem vF:∀x:List Bool,eS (x.map bD)=some (x.map bK)
 |[]=>rfl
 |a::x=>by simp only[KM,eS,vF x];rfl
theorem pI(p:P):kG (g8 p)=some (pk p):=by
 show(jD [.tup (p.1.map bD),.tup (p.2.map bD)]).map Sum.inr=_;simp only[jD,w4,vF,LM];rfl
theorem n5(fs:List P)(p:P):(bN (fs.map pk) (pk p)).isSome=decide (p∈fs):=by
 unfold bN;rw[Ml,List.any_map,MU];simp only[List.any_eq_true,Function.comp,decide_eq_true_eq];exact⟨λ⟨q,hq,e⟩=>Ch e▸hq,λh=>⟨p,h,rfl⟩⟩
theorem Cj(n i:Nat):((Kh n).map λk=>bD (i.testBit k)).reverse=(rb n i).map bD:=by
 refine MF λj=>?_;by_cases hj:j<n
 ·rw[List.getElem?_reverse (by simpa using hj)];simp only[Kc,Kx,rb,KH];rw[Kf,Kf,KN hj,KN (by lia)];rfl
 ·rw[KY (by simp;lia),KY (by simp[rb];lia)]
theorem sA{n:Nat}(hn:n<=6)(i:Nat):EZ [iD i,iD n]=some (.fr k0,.lst ((rb n i).map bD)):=by
 unfold EZ;refine bS (cU rfl ?_);unfold HK
 walk_at "nm"
 refine aT (ao (Ce (bE (φ:=ψ0) rfl (ab (aa rfl (ab (aa rfl (ad (bz ⟨_,qU i (w:=n) (by lia),rfl,.inl rfl,Cf (i:=1) (ac rfl) (I9 rfl ⟨rfl,bv rfl ?_⟩)⟩)))))))));rw[Cj];rfl
theorem vG(p:P):BZ [aM p]=some (.sh,g8 p):=by
 unfold BZ;refine bS (cU rfl ?_);unfold HG
 walk_at "nm"
 exact aT (ao (bQ (ab (bh (ab (aw (aa rfl (ac (aj (n:=0) (.inr rfl) rfl rfl (ad (bY rfl (ab (bh (ab (aw (aa rfl (ac (aj (n:=1) (.inr rfl) rfl rfl (ad (bY rfl (ad (aV rfl ⟨rfl,bv rfl rfl⟩))))))))))))))))))))))
theorem yq{n:Nat}(hn:n<=300):ψ9 [iD n]=some (.sh,.non):=by
 unfold ψ9;refine bS (cU rfl ?_);unfold b9
 walk_at "nm"
 refine a5 (z:=false) (aL (aa rfl (ac (fN (decide_eq_false (by lia)))))) (λe=>by cases e) λ_=>bw (aN (vo rfl))
theorem sB{a b:Ci}(ha:Ok a)(hi:a.ins=b.ins)(ho:a.outs.length=b.outs.length):ψ8 [cD a,cD b]=some (.sh,.non):=by
 unfold ψ8;refine bS (cU rfl ?_);unfold b8
 walk_at "nm"
 have:=ha.bi;refine a5 (z:=false) (cR (aL (aw (aa rfl (ac (aj (n:=0) (.inr rfl) rfl rfl (aw (aa rfl (ac (aj (n:=0) (.inr rfl) rfl rfl (lz ?_))))))))))) (λe=>by cases e) λ_=>bw ?_
 ·rw[hi,decide_eq_true rfl];refine⟨λ_=>bC (aL (bh (ab (aw (aa rfl (ac (aj (n:=3) (.inr rfl) rfl rfl (ad (dP (bh (ab (aw (aa rfl (ac (aj (n:=3) (.inr rfl) rfl rfl (ad (dP (lz ?_)))))))))))))))))),λh=>rfl⟩;rw[Kc,Kc,ho,decide_eq_true rfl];rfl
 ·exact a5 (z:=false) (aL (aw (aa rfl (ac (aj (n:=0) (.inr rfl) rfl rfl (ac (fN (decide_eq_false (by lia))))))))) (λe=>by cases e) λ_=>bw (aN (vo rfl))
noncomputable def Fu(a b:Ci)(p:P)(i:Nat):D:=.tup [.bl (dH a b p (rb a.ins i)),aM (bn a b p (rb a.ins i))]
theorem yr{α:Type}(l:List α)(f g:α->D):rO (l.map f) (l.map g)=l.map λi=>.tup [f i,g i]:=by
 unfold rO;rw[List.zipWith_map,List.zipWith_self]
theorem yt{a b:Ci}{p:P}(ha:Ok a)(hb:Ok b)(hi:a.ins=b.ins)(h1:p.1.length=a.mems.length)(h2:p.2.length=b.mems.length):E1 [cD a,cD b,aM p]=some (.fr k0,.lst ((Kh (2^a.ins)).map (Fu a b p))):=by
 unfold E1;refine bS (cU rfl ?_);unfold HN
 walk_at "nm"
 have hp:2^a.ins<=64:=KI (n:=2) (by decide) ha.bi;refine aE (ao (bf (ad (bj rfl ⟨⟨rfl,by decide⟩,?_⟩))));show Wp (aH _ _ _ _ [some ⟨false,.fz,cD a⟩,some ⟨false,.fz,cD b⟩,some ⟨false,.fz,aM p⟩,some ⟨false,k0,.lst []⟩,none,none,none,none]) _
 have hz:nc (some (.fr k0,.lst ((Kh (2^a.ins)).map (fq a p.1)))) (some (.fr k0,.lst ((Kh (2^b.ins)).map (fq b p.2))))=some ([],(Kh (2^a.ins)).map λi=>.tup [fq a p.1 i,fq b p.2 i]):=by
  rw[<- hi,<- yr];rfl
 refine c7 (bU (vc (bE (φ:=CI) rfl (ab (aa rfl (ab (aw (aa rfl (ac (aj (n:=0) (.inr rfl) rfl rfl (ad (bz ⟨_,n0 ha h1,rfl,.inl rfl,bE (φ:=CI) rfl (ab (aa rfl (ab (aw (aa rfl (ac (aj (n:=1) (.inr rfl) rfl rfl (ad (bz ⟨_,n0 hb h2,rfl,.inl rfl,⟨_,hz,λs ρ=>∃x4 x5 x6 x7,ρ=[some ⟨false,.fz,cD a⟩,some ⟨false,.fz,cD b⟩,some ⟨false,.fz,aM p⟩,some ⟨false,k0,.lst ((Kh s).map (Fu a b p))⟩,x4,x5,x6,x7],⟨none,none,none,none,rfl⟩,λs d ρ hd hI=>?_,λρ hI=>?_⟩⟩)))))))))⟩))))))))))))
 ·obtain⟨x4,x5,x6,x7,rfl⟩:=hI;have hd:((Kh (2^a.ins)).map λi=>D.tup [fq a p.1 i,fq b p.2 i])[s]?=some d:=hd;rw[Kf] at hd
  cases e:(Kh (2^a.ins))[s]? with
  |none=>rw[e] at hd;cases hd
  |some s'=>
   have hs:=(Kb.mp e).1;rw[Kx] at hs;rw[KN hs] at e;cases e;rw[KN hs] at hd;cases hd;refine⟨[(4,.lst ((a8 a p.1 (rb a.ins s)).map bD)),(5,.lst ((nextOf a p.1 (rb a.ins s)).map bD)),(6,.lst ((a8 b p.2 (rb b.ins s)).map bD)),(7,.lst ((nextOf b p.2 (rb b.ins s)).map bD))],rfl,rfl,?_⟩;show Wp (aH _ _ _ [] [some ⟨false,.fz,cD a⟩,some ⟨false,.fz,cD b⟩,some ⟨false,.fz,aM p⟩,some ⟨false,k0,.lst ((Kh s).map (Fu a b p))⟩,some ⟨false,.fz,.lst ((a8 a p.1 (rb a.ins s)).map bD)⟩,some ⟨false,.fz,.lst ((nextOf a p.1 (rb a.ins s)).map bD)⟩,some ⟨false,.fz,.lst ((a8 b p.2 (rb b.ins s)).map bD)⟩,some ⟨false,.fz,.lst ((nextOf b p.2 (rb b.ins s)).map bD)⟩]) _;refine c6 (dl (bQ (ab (f9 (aa rfl (aa rfl (Cg (ab (bQ (ab (aa rfl (ab (aa rfl (ad (aV rfl (ad (aV rfl ⟨[],.fz,_,rfl,⟨KJ _,rfl,by simp;lia⟩,aN ⟨_,.inl rfl,some ⟨false,.fz,.lst ((a8 a p.1 (rb a.ins s)).map bD)⟩,some ⟨false,.fz,.lst ((nextOf a p.1 (rb a.ins s)).map bD)⟩,some ⟨false,.fz,.lst ((a8 b p.2 (rb b.ins s)).map bD)⟩,some ⟨false,.fz,.lst ((nextOf b p.2 (rb b.ins s)).map bD)⟩,?_⟩⟩)))))))))))))))));rw[L9,Kq,<- hi];rfl
 ·obtain⟨x4,x5,x6,x7,rfl⟩:=hI;refine aT (dG rfl ⟨rfl,bv rfl ?_⟩);show(_,D.lst ((Kh ((Kh (2^a.ins)).map λi=>D.tup [fq a p.1 i,fq b p.2 i]).length).map _))=_;rw[Kc,Kx];rfl
theorem lC{ft:Ro->Option (Bool×Ro)}{fb:Ro->Option Res}{Q:Res->Prop}(I:Nat->Ro->Prop)(hs:∀m ρ,I m ρ->Wp (ft (clrN fg ρ)) λp=>(p.1=false->Q (.nx p.2))/\(p.1=true->Wp (fb p.2) λr=>(∃ρ' m',(r=.nx ρ'\/r=.ct ρ')/\m'<m/\I m' ρ')\/∃k d ρ',r=.rt k d ρ'/\Q (.rt k d ρ'))):∀n m ρ,m<n->I m ρ->Wp (iC fg ft fb n ρ) Q
 |0,m,ρ,h,_=>absurd h (Ma _)
 |n+1,m,ρ,h,hI=>by
  obtain⟨⟨b,ρ1⟩,e1,q1,q2⟩:=hs m ρ hI
  cases b with
  |false=>exact⟨.nx ρ1,by unfold iC;rw[e1],q1 rfl⟩
  |true=>
   obtain⟨r,e2,hr⟩:=q2 rfl;rcases hr with⟨ρ',m',hr,hm,hI'⟩|⟨k,d,ρ',rfl,q⟩
   ·obtain⟨x,e3,q3⟩:=lC I hs n m' ρ' (by lia) hI';refine⟨x,?_,q3⟩;unfold iC;rw[e1];dsimp only at e2⊢;rw[e2]
    rcases hr with rfl|rfl<;>exact e3
   ·refine⟨_,?_,q⟩;unfold iC;rw[e1];dsimp only at e2⊢;rw[e2]
theorem Fw{Γ:GG}{N:Nat}{pn:List Nat}{ρ:Ro}{Q:Res->Prop}{rest:bX}{fg:List Nat}{t:MT}{b:bX}(I:Nat->Ro->Prop){m0:Nat}(hm:m0<N)(h0:I m0 ρ)
  (hs:∀m ρ,I m ρ->Wp (bB Γ t (clrN fg ρ)) λp=>(p.1=false->Wp (aH Γ N rest pn p.2) Q)/\(p.1=true->Wp (aH Γ N b pn p.2) λr=>(∃ρ' m',(r=.nx ρ'\/r=.ct ρ')/\m'<m/\I m' ρ')\/∃k d ρ',r=.rt k d ρ'/\Q (.rt k d ρ'))):Wp (aH Γ N (.cons (.wh fg t b) rest) pn ρ) Q:=by
 obtain⟨r,e,q⟩:=lC (fg:=fg) (ft:=bB Γ t) (fb:=aH Γ N b pn) (Q:=Kt Γ N rest pn Q) I (λm ρ hI=>(hs m ρ hI).mono λp hp=>⟨hp.1,λe=>(hp.2 e).mono λr hr=>hr.imp id λ⟨k,d,ρ',e,q⟩=>⟨k,d,ρ',e,q⟩⟩) N m0 ρ hm h0;exact cj ⟨r,by rw[BL];exact e,q⟩
noncomputable def iI:Nat->List (List Bool)
 |0=>[[]]
 |m+1=>(iI m).map (false::·)++(iI m).map (true::·)
theorem km:∀m,(iI m).length=2^m
 |0=>rfl
 |m+1=>by rw[iI,K5,Kc,Kc,km m,LO];lia
theorem ko:∀{m:Nat} {l:List Bool},l.length=m->l∈iI m
 |0,[],_=>by simp[iI]
 |m+1,b::l,h=>by
  have:=ko (m:=m) (l:=l) (by simpa using h);rw[iI,Lb]
  cases b with
  |false=>exact .inl (LQ this)
  |true=>exact .inr (LQ this)
noncomputable def Ck(m n:Nat):List P:=(iI m).flatMap λx=>(iI n).map λy=>(x,y)
theorem vH(m n:Nat):(Ck m n).length=2^m*2^n:=by
 unfold Ck;rw[List.length_flatMap,<- km m];have:((iI m).map λx=>((iI n).map λy=>((x,y):P)).length)=(iI m).map λ_=>2^n:=Lg λx _=>by rw[Kc,km]
 rw[this];generalize iI m=l
 induction l with
 |nil=>simp
 |cons a l ih=>rw[KM,List.sum_cons,ih,KS,Nat.add_mul];lia
theorem g9{fs:List P}{m n:Nat}(hn:fs.Nodup)(h:∀p∈fs,p.1.length=m/\p.2.length=n):fs.length<=2^m*2^n:=by
 rw[<- vH];refine hn.length_le_of_subset λp hp=>?_;unfold Ck;rw[List.mem_flatMap];exact⟨p.1,ko (h p hp).1,KW.mpr ⟨p.2,ko (h p hp).2,rfl⟩⟩
noncomputable def Lead(a b:Ci):List (List Bool)->P->P->Prop
 |[],s,e=>s=e
 |x::xs,s,e=>(∃i,i<2^a.ins/\x=rb a.ins i)/\dH a b s x=true/\Lead a b xs (bn a b s x) e
theorem Lead.snoc{a b:Ci}{i:Nat}(hi:i<2^a.ins):∀{xs:List (List Bool)} {s e:P},Lead a b xs s e->dH a b e (rb a.ins i)=true->Lead a b (xs++[rb a.ins i]) s (bn a b e (rb a.ins i))
 |[],s,e,h,ha=>by cases(show s=e from h);exact⟨⟨i,hi,rfl⟩,ha,rfl⟩
 |x::xs,s,e,h,ha=>⟨h.1,h.2.1,Lead.snoc hi h.2.2 ha⟩
noncomputable abbrev i5(a b:Ci):P:=(cc a,cc b)
structure SI(a b:Ci)(at_:Nat)(fs:List P)(rows:List (List (List Bool))):Prop where
 len:rows.length=fs.length
 nd:fs.Nodup
 ok:∀p∈fs,p.1.length=a.mems.length/\p.2.length=b.mems.length
 hd:fs[0]?=some (i5 a b)
 rl:∀(j:Nat) r,rows[j]?=some r->r.length<=j
 lead:∀(j:Nat) p r,fs[j]?=some p->rows[j]?=some r->Lead a b r (i5 a b) p
 done:∀(j:Nat) p,j<at_->fs[j]?=some p->∀i,i<2^a.ins->dH a b p (rb a.ins i)=true/\bn a b p (rb a.ins i)∈fs
noncomputable def Cl(a b:Ci)(row:Option (List (List Bool)))(fs:List P):Prop:=match row with
 |none=>fs.Nodup/\(∀p∈fs,p.1.length=a.mems.length/\p.2.length=b.mems.length)/\i5 a b∈fs/\∀p∈fs,∀i,i<2^a.ins->dH a b p (rb a.ins i)=true/\bn a b p (rb a.ins i)∈fs
 |some r=>∃xs e i,r=xs++[rb a.ins i]/\xs.length<=256/\i<2^a.ins/\Lead a b xs (i5 a b) e/\dH a b e (rb a.ins i)=false
noncomputable def gh(r:List (List Bool)):D:=.lst (r.map λx=>.lst (x.map bD))
noncomputable def i6:Option (List (List Bool))->D
 |none=>.non
 |some r=>gh r
noncomputable def CK(fs:List P):D:=.nd (.dic 4 (fs.map pk)) (fs.map λ_=>.bl true)
theorem vI{fs:List P}{T:Bool->Prop}(q:T (!decide (p∈fs))):Wp (bI .NotIn (g8 p) (CK fs)) T:=by
 refine⟨!decide (p∈fs),?_,q⟩
 show(match kG (g8 p) with|some k=>if rH 4 k=true then some (!(bN (fs.map pk) k).isSome) else none|none=>none)=_
 rw[pI,<- n5];rfl
theorem vJ{es:List Ow}{fs:List P}{p:P}(hp:p∉fs)(hl:fs.length<1000)(he:es.length<=fs.length):gX es .fz (.dic 4 (fs.map pk)) (fs.map λ_=>.bl true) (g8 p) (.sh,.bl true)=some (.dic 4 ((fs++[p]).map pk),(fs++[p]).map λ_=>.bl true):=by
 have hf:bN (fs.map pk) (pk p)=none:=by
  have:=n5 fs p;rw[decide_eq_false hp] at this
  cases e:bN (fs.map pk) (pk p) with
  |none=>rfl
  |some j=>rw[e] at this;cases this
 unfold gX;rw[pI];dsimp only;rw[if_pos ⟨rfl,by rw[Kc];lia⟩,hf];dsimp only;rw[if_pos ⟨by rw[Kc];exact he,rfl⟩,Kq,Kq];rfl
theorem pJ{ds:List D}{P:List Nat×List D->Prop}(h:fw k ds=true)(q:P (oM k,ds.mapIdx λi d=>D.tup [.int i,d])):Wp (m9 (some (k,.nd .lst ds))) P:=by
 refine⟨_,?_,q⟩
 show(if fw k ds=true then some (oM k,ds) else none).map _=_
 rw[if_pos h];rfl
theorem kq{α:Type}{l:List α}{x y:α}{j:Nat}(h:(l++[x])[j]?=some y):l[j]?=some y\/(j=l.length/\y=x):=by
 by_cases hj:j<l.length
 ·rw[Ks hj] at h;exact .inl h
 ·have hl:=(Kb.mp h).1;simp at hl;have:j=l.length:=by lia
  subst this;rw[KP (Ki _),Lw] at h;cases h;exact .inr ⟨rfl,rfl⟩
theorem SI.add{a b:Ci}{at_:Nat}{fs:List P}{rows:List (List (List Bool))}{r:List (List Bool)}{s:Nat}(h:SI a b at_ fs rows)(hp:fs[at_]?=some p)(hr:rows[at_]?=some r)(hs:s<2^a.ins)(ha:dH a b p (rb a.ins s)=true)(hq:bn a b p (rb a.ins s)∉fs):SI a b at_ (fs++[bn a b p (rb a.ins s)]) (rows++[r++[rb a.ins s]]):=by
 have hat:=(Kb.mp hp).1;refine⟨by simp[h.len],?_,λq hq'=>?_,?_,λj x hx=>?_,λj q x hq' hx=>?_,λj q hj hq' i hi=>?_⟩
 ·rw[List.nodup_append];exact⟨h.nd,by simp,λx hx y hy e=>hq (by simp at hy;rw[<- hy,<- e];exact hx)⟩
 ·rcases Lb.mp hq' with h1|h1
  ·exact h.ok q h1
  ·cases K0.mp h1;exact⟨by simp[bn,nextOf],by simp[bn,nextOf]⟩
 ·rw[Ks (by lia)];exact h.hd
 ·rcases kq hx with h1|⟨rfl,rfl⟩
  ·exact h.rl j x h1
  ·have:=h.rl at_ r hr;have:=h.len;simp;lia
 ·rcases kq hq' with h1|⟨e1,e2⟩
  ·have hj:=(Kb.mp h1).1;rw[Ks (by rw[h.len];exact hj)] at hx;exact h.lead j q x h1 hx
  ·subst e2;rw[e1,<- h.len,KP (Ki _),Lw] at hx;cases hx;exact Lead.snoc hs (h.lead at_ p r hp hr) ha
 ·rw[Ks (by lia)] at hq';have:=h.done j q hj hq' i hi;exact⟨this.1,Lk _ this.2⟩
noncomputable abbrev RS(a b:Ci)(at_:Nat)(fs:List P)(rows:List (List (List Bool)))(x6 x7 x8 x9:Option Sl):Ro:=[some ⟨false,.fz,cD a⟩,some ⟨false,.fz,cD b⟩,some ⟨false,k0,.lst (fs.map aM)⟩,some ⟨false,k0,.lst (rows.map gh)⟩,some ⟨false,k0,CK fs⟩,some ⟨false,.fz,iD at_⟩,x6,x7,x8,x9]
noncomputable abbrev ag(d:D):Option Sl:=some ⟨false,.fz,d⟩
theorem yu{a b:Ci}{at_:Nat}{fs:List P}{rows:List (List (List Bool))}{p:P}{r:List (List Bool)}{s:Nat}(ha:Ok a)(hm:a.mems.length+b.mems.length<=8)(h:SI a b at_ fs rows)(hp:fs[at_]?=some p)(hr:rows[at_]?=some r)(hs:s<2^a.ins){Q:Res->Prop}
  (q1:dH a b p (rb a.ins s)=false->∀ρ,Q (.rt .sh (.tup [gh (r++[rb a.ins s]),.lst (fs.map aM)]) ρ)) (q2:dH a b p (rb a.ins s)=true->∀fs' rows' x9,SI a b at_ fs' rows'->(∀(j:Nat) x,fs[j]?=some x->fs'[j]?=some x)->(∀(j:Nat) x,rows[j]?=some x->rows'[j]?=some x)->bn a b p (rb a.ins s)∈fs'->Q (.nx (RS a b at_ fs' rows' (ag (iD s)) (ag (.bl true)) (ag (aM (bn a b p (rb a.ins s)))) x9))) :
  Wp (aH Γ_12 1000 (match b7 with|.cons _ (.cons _ (.cons _ (.cons _ (.cons _ (.cons (.wh _ _ (.cons (.fo _ _ _ c) _)) _)))))=>c|c=>c) [] (RS a b at_ fs rows (ag (iD s)) (ag (.bl (dH a b p (rb a.ins s)))) (ag (aM (bn a b p (rb a.ins s)))) none)) Q:=by
 unfold b7
 have hfs:fs.length<=256:=by
  have h1:=g9 h.nd h.ok;rw[<- Mf] at h1;exact KF h1 (KI (n:=2) (by decide) hm)
 have hat:=(Kb.mp hp).1;have hrl:=h.rl at_ r hr;have hlen:=h.len;refine aE (ao (ah (aw (aa rfl (aa rfl (aj (n:=at_) (d:=gh r) (.inl rfl) rfl (by rw[Kf,hr];rfl) (bf (ab (bE (φ:=EZ) rfl (ab (aa rfl (ab (aw (aa rfl (ac (aj (n:=0) (.inr rfl) rfl rfl (ad (bz ⟨_,sA ha.bi s,rfl,.inl rfl,ad (bj rfl (kg ⟨rfl,rfl,by simp;lia⟩ ⟨⟨rfl,by decide⟩,?_⟩))⟩))))))))))))))))));have e9:(r.map λx=>D.lst (x.map bD))++[D.lst ((rb a.ins s).map bD)]=(r++[rb a.ins s]).map λx=>D.lst (x.map bD):=by rw[Kq];rfl
 show Wp (aH _ _ _ [] (RS a b at_ fs rows (ag (iD s)) (ag (.bl (dH a b p (rb a.ins s)))) (ag (aM (bn a b p (rb a.ins s)))) (some ⟨false,k0,.lst ((r.map λx=>D.lst (x.map bD))++[D.lst ((rb a.ins s).map bD)])⟩))) _;rw[e9]
 cases hal:dH a b p (rb a.ins s) with
 |false=>
  refine a5 (z:=true) (iF (cY rfl (aa rfl (pB rfl rfl)))) (λ_=>?_) λe=>by cases e
  exact aT (cZ (aO (dG rfl ⟨rfl,aU (dG rfl (ad (aV rfl ⟨rfl,iU (q1 hal _)⟩)))⟩)))
 |true=>
  refine a5 (z:=false) (iF (cY rfl (aa rfl (pB rfl rfl)))) (λe=>by cases e) λ_=>bw ?_;have hke:=vG (bn a b p (rb a.ins s));refine a5 (z:=!decide (bn a b p (rb a.ins s)∈fs)) (aL (bE (φ:=BZ) rfl (ab (aa rfl (ad (bz ⟨_,hke,rfl,.inl rfl,aa rfl (vI rfl)⟩)))))) (λe=>?_) λe=>bw (aN (q2 hal fs rows _ h (λ_ _ h=>h) (λ_ _ h=>h) ?_))
  ·have hq:bn a b p (rb a.ins s)∉fs:=by simpa using e
   refine c6 (ao (bE (φ:=ψ9) rfl (ab (ah (bh (ab (aa rfl (ad (dP (ac (bc (ad (bz ⟨(.sh,.non),?_,rfl,.inl rfl,?_⟩)))))))))))))
   ·show ψ9 [.int (((fs.map aM).length:Int)+1)]=_;rw[Kc];exact yq (n:=fs.length+1) (by lia)
   refine iV (ao (ac (nX rfl (bE (φ:=BZ) rfl (ab (aa rfl (ad (bz ⟨_,hke,rfl,.inl rfl,fj rfl rfl rfl (eI (vJ hq (by lia) (KJ _)) ?_)⟩))))))));refine c6 (dl (aa rfl ⟨[],.fz,_,rfl,⟨KJ _,rfl,by rw[Kc];lia⟩,?_⟩));refine c6 (pA rfl (dG rfl ⟨[],.fz,_,rfl,⟨KJ _,rfl,by rw[Kc];lia⟩,aN (br (aN ?_))⟩));have e1:fs.map aM++[aM (bn a b p (rb a.ins s))]=(fs++[bn a b p (rb a.ins s)]).map aM:=by rw[Kq];rfl
   have e2:rows.map gh++[D.lst ((r++[rb a.ins s]).map λx=>D.lst (x.map bD))]=(rows++[r++[rb a.ins s]]).map gh:=(Kq (f:=gh) (l₁:=rows) (l₂:=[r++[rb a.ins s]])).symm;show Q (.nx [some ⟨false,.fz,cD a⟩,some ⟨false,.fz,cD b⟩,some ⟨false,k0,.lst (fs.map aM++[aM (bn a b p (rb a.ins s))])⟩,some ⟨false,k0,.lst (rows.map gh++[D.lst ((r++[rb a.ins s]).map λx=>D.lst (x.map bD))])⟩,some ⟨false,k0,CK (fs++[bn a b p (rb a.ins s)])⟩,some ⟨false,.fz,iD at_⟩,ag (iD s),ag (.bl true),ag (aM (bn a b p (rb a.ins s))),none]);rw[e1,e2];exact q2 hal _ _ _ (h.add hp hr hs hal hq) (λj x hx=>by rw[Ks (Kb.mp hx).1];exact hx) (λj x hx=>by rw[Ks (Kb.mp hx).1];exact hx) (by simp)
  ·have:decide (bn a b p (rb a.ins s)∈fs)=true:=by simpa using e
   exact of_decide_eq_true this
theorem yw{a b:Ci}{at_:Nat}{fs:List P}{rows:List (List (List Bool))}{x9:Option Sl}(ha:Ok a)(hb:Ok b)(hi:a.ins=b.ins)(hm:a.mems.length+b.mems.length<=8)(h:SI a b at_ fs rows)(hat:at_<fs.length){Q:Res->Prop}
  (q1:∀row fs' ρ,Cl a b (some row) fs'->Q (.rt .sh (.tup [gh row,.lst (fs'.map aM)]) ρ)) (q2:∀fs' rows' x6 x7 x8 x9,SI a b (at_+1) fs' rows'->Q (.nx (RS a b (at_+1) fs' rows' x6 x7 x8 x9))) :
  Wp (aH Γ_12 1000 (match b7 with|.cons _ (.cons _ (.cons _ (.cons _ (.cons _ (.cons (.wh _ _ c) _)))))=>c|c=>c) [] (RS a b at_ fs rows none none none x9)) Q:=by
 have hp:fs[at_]?=some fs[at_]:=Kg hat;generalize fs[at_]=p at hp;have hr:rows[at_]?=some (rows[at_]'(by rw[h.len];exact hat)):=Kg _;generalize (rows[at_]'(by rw[h.len];exact hat))=r at hr;have hpo:=h.ok p (Kw hp);have hw:2^a.ins<=64:=KI (n:=2) (by decide) ha.bi;have body:=@yu a b at_;unfold b7 at body⊢;refine BX (bU (j8 (bE (φ:=E1) rfl (ab (aa rfl (ab (aa rfl (ab (aw (aa rfl (aa rfl (aj (n:=at_) (d:=aM p) (.inl rfl) rfl (by rw[Kf,hp];rfl) (ad (bz ⟨_,yt ha hb hi hpo.1 hpo.2,rfl,.inl rfl,pJ rfl ⟨λs ρ=>∃fs' rows' x6 x7 x8 x9,ρ=RS a b at_ fs' rows' x6 x7 x8 x9/\SI a b at_ fs' rows'/\fs'[at_]?=some p/\rows'[at_]?=some r/\∀i,i<s->dH a b p (rb a.ins i)=true/\bn a b p (rb a.ins i)∈fs',λk d ρ=>k=.sh/\∃row fs',d=.tup [gh row,.lst (fs'.map aM)]/\Cl a b (some row) fs',⟨fs,rows,none,none,none,x9,rfl,h,hp,hr,λi hi=>absurd hi (Ma _)⟩,λs d ρ hd hI=>?_,λρ hI=>?_,λk d ρ hR=>?_⟩⟩))))))))))))))
 ·obtain⟨fs',rows',x6,x7,x8,x9,rfl,h',hp',hr',hA⟩:=hI;have hd:(((Kh (2^a.ins)).map (Fu a b p)).mapIdx λi d=>D.tup [.int i,d])[s]?=some d:=hd;rw[Lc,Kf] at hd
  cases e:(Kh (2^a.ins))[s]? with
  |none=>rw[e] at hd;cases hd
  |some s'=>
   have hs:=(Kb.mp e).1;rw[Kx] at hs;rw[KN hs] at hd;cases hd
   have hrl:r.length<=256:=by
    have h1:=g9 h'.nd h'.ok;rw[<- Mf] at h1;have h2:=KF h1 (KI (n:=2) (by decide) hm);have h3:=h'.rl at_ r hr';have h4:=(Kb.mp hp').1
    lia
   refine⟨[(6,iD s),(7,.bl (dH a b p (rb a.ins s))),(8,aM (bn a b p (rb a.ins s)))],rfl,rfl,?_⟩;refine body ha hm h' hp' hr' hs (λhal ρ=>.inr ⟨.sh,_,ρ,rfl,rfl,_,fs',rfl,r,p,s,rfl,hrl,hs,h'.lead at_ p r hp' hr',hal⟩) λhal fs2 rows2 x9' h2 k1 k2 hin=>.inl ⟨_,.inl rfl,fs2,rows2,_,_,_,x9',rfl,h2,k1 _ _ hp',k2 _ _ hr',λi hi=>?_⟩;by_cases e:i=s
   ·subst e;exact⟨hal,hin⟩
   ·obtain⟨g1,g2⟩:=hA i (by lia);obtain⟨j,hj⟩:=Lx.mp g2;exact⟨g1,Kw (k1 j _ hj)⟩
 ·obtain⟨fs',rows',x6,x7,x8,x9,rfl,h',hp',hr',hA⟩:=hI;have hB:∀i,i<(((Kh (2^a.ins)).map (Fu a b p)).mapIdx λi d=>D.tup [.int i,d]).length->dH a b p (rb a.ins i)=true/\bn a b p (rb a.ins i)∈fs':=hA;rw[My,Kc,Kx] at hB;show Wp (aH _ _ _ [] (RS a b at_ fs' rows' none none none none)) _;refine EF rfl (ao (ac ⟨by decide,⟨.int ((at_:Int)+1),rfl,aN (q2 fs' rows' none none none none ⟨h'.len,h'.nd,h'.ok,h'.hd,h'.rl,h'.lead,λj q hj hq i hi=>?_⟩)⟩⟩));by_cases e:j=at_
  ·subst e;rw[hp'] at hq;cases hq;exact hB i hi
  ·exact h'.done j q (by lia) hq i hi
 ·obtain⟨rfl,row,fs',rfl,hF⟩:=hR;exact⟨rfl,q1 row fs' _ hF⟩
theorem sC{a b:Ci}(ha:Ok a)(hb:Ok b)(hi:a.ins=b.ins)(ho:a.outs.length=b.outs.length)(hm:a.mems.length+b.mems.length<=8):∃row fs,ψ7 [cD a,cD b]=some (.sh,.tup [i6 row,.lst (fs.map aM)])/\Cl a b row fs:=by
 suffices h:Wp (ψ7 [cD a,cD b]) λx=>∃row fs,x=(.sh,.tup [i6 row,.lst (fs.map aM)])/\Cl a b row fs by
  obtain⟨x,e,row,fs,rfl,hF⟩:=h;exact⟨row,fs,e,hF⟩
 unfold ψ7;refine cU rfl ?_;have turn:=@yw a b;unfold b7 at turn⊢
 walk_at "nm"
 have e0:([(cc a,cc b)]:List P).map aM=[.tup [.lst ((cc a).map bD),.lst ((cc b).map bD)]]:=rfl;refine c6 (ao (bE (φ:=ψ8) rfl (ab (aa rfl (ab (aa rfl (ad (bz ⟨_,sB ha hi ho,rfl,.inl rfl,?_⟩))))))));refine aE (ao (bf (ab (bQ (ab (bE (φ:=ψ1) rfl (ab (aa rfl (ad (bz ⟨_,nY ha,rfl,.inl rfl,ab (bE (φ:=ψ1) rfl (ab (aa rfl (ad (bz ⟨_,nY hb,rfl,.inl rfl,ad (aV rfl (ad (bj rfl ⟨⟨rfl,by decide⟩,?_⟩)))⟩)))))⟩))))))))));refine aE (ao (bf (ab (bf (ad (bj rfl (ad (bj rfl ⟨⟨rfl,by decide⟩,?_⟩))))))));refine aE (ao (yp (bE (φ:=BZ) rfl (ab (aw (aa rfl (ac (aj (n:=0) (d:=aM (i5 a b)) (.inl rfl) rfl rfl (ad (bz ⟨_,vG (i5 a b),rfl,.inl rfl,ac ⟨(.fr bq,CK [i5 a b]),?_,⟨rfl,by decide⟩,?_⟩⟩))))))))))
 ·unfold jJ;dsimp only;rw[pI];rfl
 refine aE (ao (ac ⟨⟨rfl,by decide⟩,?_⟩));show Wp (aH _ _ _ [] (RS a b 0 [i5 a b] [[]] none none none none)) _
 have h0:SI a b 0 [i5 a b] [[]]:=by
  refine⟨rfl,by simp,λp hp=>?_,rfl,λj r hr=>?_,λj p r hp hr=>?_,λj p hj=>absurd hj (Ma _)⟩
  ·cases K0.mp hp;exact⟨by simp[cc],by simp[cc]⟩
  ·cases j with
   |zero=>cases hr;exact Ki _
   |succ j=>cases hr
  ·cases j with
   |zero=>cases hr;cases hp;rfl
   |succ j=>cases hr
 refine Fw (λm ρ=>∃at_ fs rows x6 x7 x8 x9,ρ=RS a b at_ fs rows x6 x7 x8 x9/\SI a b at_ fs rows/\m+at_=300) (m0:=300) (by decide) ⟨0,_,_,none,none,none,none,rfl,h0,rfl⟩ λm ρ hI=>?_;obtain⟨at_,fs,rows,x6,x7,x8,x9,rfl,h,hme⟩:=hI
 have hfs:fs.length<=256:=by
  have h1:=g9 h.nd h.ok;rw[<- Mf] at h1;exact KF h1 (KI (n:=2) (by decide) hm)
 show Wp (bB _ _ (RS a b at_ fs rows none none none x9)) _;refine vi (aL (aa rfl (bh (ab (aa rfl (ad (dP (vd ⟨λe=>?_,λe=>?_⟩))))))))
 ·have hat:¬(at_:Int)<((fs.map aM).length:Int):=of_decide_eq_false e;rw[Kc] at hat;refine aT (cZ (aO (ao (ac ⟨rfl,aU (dG rfl (ad (aV rfl ⟨rfl,bv rfl ⟨none,fs,rfl,h.nd,h.ok,Kw h.hd,λp hp i hi=>?_⟩⟩)))⟩))));obtain⟨j,hj⟩:=Lx.mp hp;have:=(Kb.mp hj).1;exact h.done j p (by lia) hj i hi
 ·have hat:(at_:Int)<((fs.map aM).length:Int):=of_decide_eq_true e;rw[Kc] at hat;exact turn ha hb hi hm h (by lia) (λrow fs' ρ hF=>.inr ⟨_,_,_,rfl,bv rfl ⟨some row,fs',rfl,hF⟩⟩) λfs' rows' x6 x7 x8 x9 h'=>.inl ⟨_,m-1,.inl rfl,by lia,at_+1,fs',rows',x6,x7,x8,x9,rfl,h',by lia⟩
theorem lE{fs:List P}(h:ψ7 [cD a,cD b]=some (.sh,.tup [i6 row,.lst (fs.map aM)])):ψ5 [cD a,cD b]=some (.sh,i6 row):=by
 unfold ψ5;refine bS (cU rfl ?_);unfold b5
 walk_at "nm"
 refine dW (ao (bE (φ:=ψ7) rfl (ab (aa rfl (ab (aa rfl (ad (bz ⟨_,h,rfl,.inl rfl,_,_,_,rfl,rfl,⟨rfl,rfl⟩,?_⟩))))))))
 exact aT (ao (aa rfl ⟨by cases row<;>rfl,by cases row<;>exact bv rfl rfl⟩))
noncomputable def kr(row:Option (List (List Bool)))(fs:List P):D:=match row with
 |none=>.lst (fs.map aM)
 |some _=>.non
theorem vK{fs:List P}(h:ψ7 [cD a,cD b]=some (.sh,.tup [i6 row,.lst (fs.map aM)])):ψ6 [cD a,cD b]=some (.sh,kr row fs):=by
 unfold ψ6;refine bS (cU rfl ?_);unfold b6
 walk_at "nm"
 refine dW (ao (bE (φ:=ψ7) rfl (ab (aa rfl (ab (aa rfl (ad (bz ⟨_,h,rfl,.inl rfl,_,_,_,rfl,rfl,⟨rfl,rfl⟩,?_⟩))))))))
 cases row with
 |none=>exact aT (ao (ph (aL (aa rfl (ac (dO ⟨λ_=>aa rfl ⟨rfl,bv rfl rfl⟩,λe=>by cases e⟩))))))
 |some r=>exact aT (ao (ph (aL (aa rfl (ac (dO ⟨λe=>(by cases e),λ_=>ac ⟨rfl,bv rfl rfl⟩⟩))))))
theorem vL{Q:KD->Prop}(h:fw k ds=true)(q:Q (.fr bq,.lst ds)):Wp (dR "list" [(k,.nd .tup ds)]) Q:=⟨_,if_pos h,q⟩
theorem yx{ds:List D}{P:List Nat×List D->Prop}(h:fw k ds=true)(q:P ([],ds.mapIdx λi d=>D.tup [.int i,d])):Wp (m9 (some (k,.nd .tup ds))) P:=by
 refine⟨_,?_,q⟩
 show(if fw k ds=true then some ([],ds) else none).map _=_
 rw[if_pos h];rfl
theorem vM{vs:List Bool}{p:Nat}(h:p<vs.length):(vs.map bD)[p]?=some (bD (vs.getD p false)):=by
 rw[Kf,Kr,Kg h];rfl
theorem Fx{k:Nat}(h:k<3):[iD 1,iD 2,iD 4][k]?=some (iD (2^k)):=by
 match k,h with
 |0,_=>rfl
 |1,_=>rfl
 |2,_=>rfl
noncomputable abbrev RV(c:Ci)(st x vs:List Bool)(x4 x5 x6 x7 x8:Option Sl):Ro:=[some ⟨false,.fz,cD c⟩,some ⟨false,.fz,.tup (st.map bD)⟩,some ⟨false,.fz,.lst (x.map bD)⟩,some ⟨false,k0,.lst (vs.map bD)⟩,x4,x5,x6,x7,x8]
theorem sD{c:Ci}{st x:List Bool}(h:Ok c)(hs:st.length=c.mems.length)(hx:x.length=c.ins):E7 [cD c,.tup (st.map bD),.lst (x.map bD)]=some (.fr k0,.lst ((vals c st x).map bD)):=by
 have hi:=h.bi;have hm:=h.bm;have hg:=h.bg;unfold E7;refine bS (cU rfl ?_);unfold Iv
 walk_at "nm"
 refine aE (ao (ah (bh (ab (aa rfl (ad (qQ rfl (bh (ab (aa rfl (ad (vL rfl (kg ⟨rfl,rfl,by simp;lia⟩ ⟨⟨rfl,by decide⟩,?_⟩)))))))))))));show Wp (aH _ _ _ _ [some ⟨false,.fz,cD c⟩,some ⟨false,.fz,.tup (st.map bD)⟩,some ⟨false,.fz,.lst (x.map bD)⟩,some ⟨false,k0,.lst (x.map bD++st.map bD)⟩,none,none,none,none,none]) _;rw[<- Kq];refine c7 (bU (ge (aw (aa rfl (ac (aj (n:=2) (.inr rfl) rfl rfl (c4 rfl ⟨λs ρ=>∃vs x4 x5 x6 x7 x8,ρ=RV c st x vs x4 x5 x6 x7 x8/\vs=(c.gates.take s).foldl c8 (x++st),⟨_,none,none,none,none,none,rfl,rfl⟩,λs d ρ hd hI=>?_,λρ hI=>?_⟩)))))))
 ·obtain⟨vs,x4,x5,x6,x7,x8,rfl,hv⟩:=hI;have hd:(c.gates.map aF)[s]?=some d:=hd;rw[Kf] at hd
  cases e:c.gates[s]? with
  |none=>rw[e] at hd;cases hd
  |some g=>
   rw[e] at hd;cases hd;obtain⟨g1,g2,g3⟩:=h.g s g e;have hs':=(Kb.mp e).1;have hl:vs.length=c.ins+c.mems.length+s:=by rw[hv,pC,K5,KQ];lia
   refine⟨[(4,iD g.1),(5,.tup (g.2.map iD))],rfl,rfl,?_⟩;show Wp (aH _ _ _ [] (RV c st x vs (ag (iD g.1)) (ag (.tup (g.2.map iD))) none none none)) _;refine aE (ao (ac ⟨⟨rfl,by decide⟩,?_⟩));refine c7 (bU (j8 (aa rfl (yx rfl ⟨λk ρ=>∃x7 x8,ρ=RV c st x vs (ag (iD g.1)) (ag (.tup (g.2.map iD))) (ag (iD (dq ((g.2.take k).map λp=>vs.getD p false)))) x7 x8,⟨none,none,rfl⟩,λk d ρ hd hI=>?_,λρ hI=>?_⟩))))
   ·obtain⟨x7,x8,rfl⟩:=hI;have hd:((g.2.map iD).mapIdx λi d=>D.tup [.int i,d])[k]?=some d:=hd;rw[Lc,Kf] at hd
    cases e2:g.2[k]? with
    |none=>rw[e2] at hd;cases hd
    |some p=>
     rw[e2] at hd;cases hd;have hk:=(Kb.mp e2).1;have hp:=g3 p (Kw e2);refine⟨[(7,iD k),(8,iD p)],rfl,rfl,?_⟩;show Wp (aH _ _ _ [] (RV c st x vs (ag (iD g.1)) (ag (.tup (g.2.map iD))) (ag (iD (dq ((g.2.take k).map λp=>vs.getD p false)))) (ag (iD k)) (ag (iD p)))) _
     have hb:((vs.getD p false).toNat:Int).natAbs<lim:=by cases vs.getD p false<;>decide
     have hc:((2^k:Nat):Int).natAbs<lim:=by
      have:k<3:=by lia
      match k,this with
      |0,_=>decide
      |1,_=>decide
      |2,_=>decide
     refine aE (ao (ah (aa rfl (ah (aw (aa rfl (aa rfl (aj (n:=p) (.inl rfl) rfl (vM (by rw[hl];exact hp)) (aw (bf (ab (ac (ab (ac (ab (ac (ad (bj rfl (aa rfl (aj (n:=k) (.inl rfl) rfl (Fx (by lia)) (j9 ⟨hb,hc⟩ (bc ⟨⟨rfl,by decide⟩,aN ⟨_,.inl rfl,ag (iD k),ag (iD p),?_⟩⟩))))))))))))))))))))))
     have:(dq ((g.2.take k).map λp=>vs.getD p false):Int)+((vs.getD p false).toNat:Int)*((2^k:Nat):Int)=(dq ((g.2.take (k+1)).map λp=>vs.getD p false):Int):=by
      rw[K8,e2,Kq];show _=((dq (_++[vs.getD p false]):Nat):Int);rw[iH,Kc,KQ,Nat.min_eq_left (by lia),Nat.mul_comm];simp
     show RV c st x vs (ag (iD g.1)) (ag (.tup (g.2.map iD))) (ag (.int ((dq ((g.2.take k).map λp=>vs.getD p false):Int)+((vs.getD p false).toNat:Int)*((2^k:Nat):Int)))) (ag (iD k)) (ag (iD p))=_;rw[this]
   ·obtain⟨x7,x8,rfl⟩:=hI;show Wp (aH _ _ _ [] (RV c st x vs (ag (iD g.1)) (ag (.tup (g.2.map iD))) (ag (iD (dq ((g.2.take ((g.2.map iD).mapIdx λi d=>D.tup [.int i,d]).length).map λp=>vs.getD p false)))) none none)) _;rw[My,Kc,K7];refine c6 (dl (mw (x:=g.1) (i:=dq (g.2.map λp=>vs.getD p false)) (aa rfl rfl) (aa rfl rfl) ⟨[],.fz,_,rfl,⟨KJ _,rfl,by rw[Kc];lia⟩,aN ⟨_,.inl rfl,c8 vs g,ag (iD g.1),ag (.tup (g.2.map iD)),ag (iD (dq (g.2.map λp=>vs.getD p false))),none,none,?_,?_⟩⟩))
    ·simp only[RV,c8,Kq];rfl
    ·rw[K8,e,MG,<- hv];rfl
 ·obtain⟨vs,x4,x5,x6,x7,x8,rfl,hv⟩:=hI;have hv:vs=(c.gates.take (c.gates.map aF).length).foldl c8 (x++st):=hv;rw[Kc,K7] at hv;subst hv;exact aT (dG rfl ⟨rfl,bv rfl rfl⟩)
noncomputable def Jz(c:Ci)(st x:List Bool):D:=.tup [.lst ((a8 c st x).map bD),.tup ((nextOf c st x).map bD)]
theorem hJ{c:Ci}{st x:List Bool}(h:Ok c)(hs:st.length=c.mems.length)(hx:x.length=c.ins):zw [cD c,.tup (st.map bD),.lst (x.map bD)]=some (.sh,Jz c st x):=by
 have hm:=h.bm;have ho:=h.bo;have hl:=vt (c:=c) hs hx;unfold zw;refine bS (cU rfl ?_);unfold Iy
 walk_at "nm"
 refine aE (ao (bE (φ:=E7) rfl (ab (aa rfl (ab (aa rfl (ab (aa rfl (ad (bz ⟨_,sD h hs hx,rfl,.inl rfl,⟨rfl,by decide⟩,?_⟩))))))))));refine aT (ao (bQ (ab (i4 (l:=c.outs) (f:=iD) (g:=λo=>bD ((vals c st x).getD o false)) (.inl rfl) (aw (aa rfl (ac (aj (n:=3) (.inr rfl) rfl rfl ⟨rfl,rfl⟩)))) (by lia) (λo ho=>sr rfl (aw (aa rfl (aa rfl (aj (n:=o) (.inl rfl) rfl (vM (by rw[hl];exact h.o o ho)) ⟨_,rfl,rfl⟩))))) (ab (bh (ab (i4 (l:=c.mems) (f:=aZ) (g:=λm=>bD ((vals c st x).getD m.2 false)) (.inl rfl) (aw (aa rfl (ac (aj (n:=1) (.inr rfl) rfl rfl ⟨rfl,rfl⟩)))) (by lia) (λm hm=>Fl rfl (aw (aa rfl (aa rfl (aj (n:=m.2) (.inl rfl) rfl (vM (by rw[hl];exact h.m m hm)) ⟨_,rfl,rfl⟩))))) (ad (bY rfl (ad (aV rfl ⟨rfl,bv rfl ?_⟩))))))))))));unfold Jz a8 nextOf;rw[<- kl,<- kl];rfl
theorem fG(h:Ok c):zx [cD c]=some (.sh,.tup ((cc c).map bD)):=by
 have hm:=h.bm;unfold zx;refine bS (cU rfl ?_);unfold IB
 walk_at "nm"
 refine aT (ao (bh (ab (i4 (l:=c.mems) (f:=aZ) (g:=λm=>bD m.1) (.inl rfl) (aw (aa rfl (ac (aj (n:=1) (.inr rfl) rfl rfl ⟨rfl,rfl⟩)))) (by lia) (λm _=>Fl rfl (aa rfl ⟨_,rfl,rfl⟩)) (ad (bY rfl ⟨rfl,bv rfl ?_⟩))))));rw[kl];rfl
theorem pK{n:Nat}(hn:n<=6):E8 [iD n]=some (.fr k0,.lst ((Kh (2^n)).map λi=>.lst ((rb n i).map bD))):=by
 have h2:2^n<=64:=KI (n:=2) (by decide) hn;have h1:(1:Int)*2^((n:Int)).toNat=((2^n:Nat):Int):=by rw[KC];simp
 unfold E8;refine bS (cU rfl ?_);unfold IF
 walk_at "nm"
 refine aT (ao (vC (n:=2^n) (g:=λi=>.lst ((rb n i).map bD)) (ah (ac (aa rfl (eE ⟨by lia,by lia,by decide⟩ (congrArg D.int h1))))) (by lia) (λi hi=>sr rfl (vC (n:=n) (g:=λk=>bD (i.testBit (n-1-k))) (aa rfl rfl) (by lia) (λk hk=>sr rfl (mw (x:=i) (i:=n-1-k) (aa rfl rfl) (ah (ah (aa rfl (ac (ci (aa rfl (ci ?_))))))) ⟨_,rfl,rfl⟩)) ⟨.fr k0,?_,rfl⟩)) ⟨rfl,bv rfl rfl⟩))
 ·exact congrArg D.int (by lia)
 ·unfold rb;rw[<- kl]
theorem n6{Γ:GG}{N:Nat}{pn:List Nat}{ρ:Ro}{Q:Res->Prop}{rest:bX}{is:List Nat}{s:IS}(h:Wp (aH Γ N (.cons s rest) pn (frzN is ρ)) Q):Wp (aH Γ N (.cons (.pre is s) rest) pn ρ) Q:=by
 obtain⟨r,e,q⟩:=h;refine⟨r,?_,q⟩;rw[aH] at e⊢;rw[show dN Γ N (.pre is s) pn ρ=dN Γ N s pn (frzN is ρ) by rw[xZ]];exact e
section
variable {Γ:Nat->Option Fn} {ρ:Ro} {a b:IE} {r:fW} {T:Bool->Prop}
theorem hU(ha:Wp (ba Γ a ρ) λz=>z=false)(hb:Wp (ba Γ (.bool .Or (.cons b r)) ρ) T):Wp (ba Γ (.bool .Or (.cons a (.cons b r))) ρ) T:=cR (ha.mono λz e=>by subst e;exact⟨λ_=>hb,λh=>absurd rfl h⟩)
theorem jl{S:Str}(h:ng S d=some true)(ha:Wp (af Γ a ρ) λx=>x.2=d):Wp (ba Γ (.not (.isi S a)) ρ) λz=>z=false:=iF (cY rfl (dF (ha.mono λx hx=>⟨true,by rw[hx];exact h,true,rfl,rfl⟩)))
theorem yy{S:Str}(h:ng S d=some false)(ha:Wp (af Γ a ρ) λx=>x.2=d):Wp (ba Γ (.isi S a) ρ) λz=>z=false:=cY rfl (dF (ha.mono λx hx=>⟨false,by rw[hx];exact h,false,rfl,rfl⟩))
theorem sE{Q:Bool->Prop}(h:Wp (af Γ a ρ) λx=>Wp (af Γ b ρ) λy=>Wp (bI op x.2 y.2) λr=>(r=true->Wp (af Γ d ρ) λz=>Wp (bI op' y.2 z.2) Q)/\(r=false->Q false)):Wp (ba Γ (.chain op op' a b d) ρ) Q:=by
 obtain⟨x,ex,y,ey,r,er,q1,q2⟩:=h
 cases r with
 |true=>
  obtain⟨z,ez,w,ew,q⟩:=q1 rfl;refine⟨w,?_,q⟩;rw[jP,ex,ey,ez];unfold ed;dsimp only;rw[er];dsimp only;rw[ew]
 |false=>
  refine⟨false,?_,q2 rfl⟩;rw[jP,ex,ey];unfold ed;dsimp only;rw[er]
theorem ku{i:Nat}{φ:Fn}(hΓ:Γ i=some φ)(he:Wp (aR Γ es ρ) λkds=>kds.map (·.2)=ds)(hφ:φ ds=some (.sh,.bl true)):Wp (ba Γ (.not (.fn i es)) ρ) λz=>z=false:=by
 refine iF (cY rfl (bE hΓ (he.mono λkds hk=>bz ⟨(.sh,.bl true),?_,rfl,.inr rfl,true,rfl,rfl⟩)));rw[hk];exact hφ
theorem sM{i:Nat}{φ:Fn}{x:KD}{Q:KD->Prop}(hΓ:Γ i=some φ)(he:Wp (aR Γ es ρ) λkds=>kds.map (·.2)=ds/\(kds.all λp=>mz p.1 p.2)=true)(hφ:φ ds=some x)(hb:bW x.1=false)(q:Q x):Wp (af Γ (.fn i es) ρ) Q:=
 bE hΓ (he.mono λkds hk=>bz ⟨x,by rw[hk.1];exact hφ,hb,.inl hk.2,q⟩)
theorem yz{t:Nat}{r:Ow}{Q:KD->Prop}(q:Q (.fr (.own [] r),.dic t [] [])):Wp (af Γ (.dnew t r) ρ) Q:=⟨_,by rw[um];rfl,q⟩
theorem Fz{n:Nat}(hh:ua (.nd hd ds)=some n)(ha:Wp (af Γ a ρ) λx=>x.2=.nd hd ds):Wp (af Γ (.blt "len" (.cons a .nil)) ρ) λx=>x=(.sh,.int n):=by
 refine bh (ab (ha.mono λx hx=>ad ?_));obtain⟨kx,dx⟩:=x;cases(show dx=_ from hx);exact vf hh rfl
theorem ck{α:Type}{l:List α}{f:α->D}(hh:hd=.lst\/hd=.tup\/∃t ks,hd=.dic t ks)(ha:Wp (af Γ a ρ) λx=>x.2=.nd hd (l.map f)):Wp (af Γ (.blt "len" (.cons a .nil)) ρ) λx=>x=(.sh,iD l.length):=
 Fz (by rcases hh with rfl|rfl|⟨t,ks,rfl⟩<;>exact congrArg some (Kc _)) ha
end
theorem iJ{x:List Bool}{n:Nat}(h:x.length=n):Cb [.lst (x.map bD),iD n]=some (.sh,.bl true):=by
 unfold Cb;refine bS (cU rfl ?_);unfold IJ
 walk_at "nm"
 refine a5 (z:=false) (hU (jl rfl (aa rfl rfl)) (bC (aL (g7 (ck (l:=x) (.inl rfl) (aa rfl rfl)) (aa rfl (lz ?_)))))) (λe=>by cases e) λ_=>bw ?_
 ·rw[h,decide_eq_true rfl];rfl
 refine c7 (bU (ge (aa rfl (c4 rfl ⟨λs ρ=>∃x2,ρ=[some ⟨false,.fz,.lst (x.map bD)⟩,some ⟨false,.fz,iD n⟩,x2],⟨none,rfl⟩,λs d ρ hd hI=>?_,λρ hI=>?_⟩))))
 ·obtain⟨x2,rfl⟩:=hI;have hd:(x.map bD)[s]?=some d:=hd;rw[Kf] at hd
  cases e:x[s]? with
  |none=>rw[e] at hd;cases hd
  |some b=>
   rw[e] at hd;cases hd;refine⟨[(2,bD b)],rfl,rfl,?_⟩;show Wp (aH _ _ _ [] [some ⟨false,.fz,.lst (x.map bD)⟩,some ⟨false,.fz,iD n⟩,some ⟨false,.fz,bD b⟩]) _;refine a5 (z:=false) (hU (jl rfl (aa rfl rfl)) (hU (yy rfl (aa rfl rfl)) (bC (iF (sE (ac (aa rfl (ve ⟨λ_=>ac (ve ?_),λe=>?_⟩)))))))) (λe=>by cases e) λ_=>bw (aN ⟨_,.inl rfl,_,rfl⟩)
   ·cases b<;>rfl
   ·cases b<;>exact absurd e (by decide)
 ·obtain⟨x2,rfl⟩:=hI;exact aT (ao (ac ⟨rfl,bv rfl rfl⟩))
theorem vN{r:List (List Bool)}{n:Nat}(hl:r.length<=100000)(h:∀x∈r,x.length=n):E9 [gh r,iD n]=some (.sh,.bl true):=by
 unfold E9;refine bS (cU rfl ?_);unfold IM
 walk_at "nm"
 refine aT (ao (j7 (dF (aa rfl ⟨true,rfl,true,rfl,λ_=>j6 (bh (ab (i4 (l:=r) (f:=λx=>.lst (x.map bD)) (g:=λ_=>.bl true) (.inl rfl) (aa rfl ⟨rfl,rfl⟩) hl (λx hx=>sr rfl (bE (φ:=Cb) rfl (ab (aa rfl (ab (aa rfl (ad (bz ⟨_,iJ (h x hx),rfl,.inr rfl,_,rfl,rfl⟩)))))))) (ad ?_)))),λh=>absurd rfl h⟩))));rw[show(r.map λ_=>D.bl true)=(r.map λ_=>true).map D.bl by rw[KH];rfl];refine BV ⟨rfl,bv rfl ?_⟩;rw[show(r.map λ_=>true).all id=true by simp];rfl
theorem yA{i:Int}:(!decide (i=i))=false:=by simp
theorem vO:∀x:List Bool,(x.map bK).map kK=x.map bD
 |[]=>rfl
 |b::x=>by rw[KM,KM,KM,vO x];rfl
theorem Ja(p:P):FH (pk p)=g8 p:=by
 show D.tup [D.tup ((p.1.map bK).map kK),D.tup ((p.2.map bK).map kK)]=_;rw[vO,vO];rfl
theorem FA{fs:List P}{R:List Nat×List D->Prop}(h:fw k (fs.map λ_=>D.bl true)=true)(q:R (oM k,fs.map g8)):Wp (l8 (some (k,CK fs))) R:=by
 refine⟨_,if_pos ⟨h,by decide⟩,?_⟩;rw[KH,show(FH∘pk)=g8 from funext Ja];exact q
theorem Cm{n:Nat}{s:Nat}(hd:((Kh (2^n)).map λi=>D.lst ((rb n i).map bD))[s]?=some d):s<2^n/\d=.lst ((rb n s).map bD):=by
 rw[Kf] at hd
 cases e:(Kh (2^n))[s]? with
 |none=>rw[e] at hd;cases hd
 |some s'=>
  have hs:=(Kb.mp e).1;rw[Kx] at hs;rw[KN hs] at hd;cases hd;exact⟨hs,rfl⟩
noncomputable abbrev RC(a b:Ci)(fs gs:List P)(k:Ow)(x4 x5 x6 x7 x8 x9 x10 x11:Option Sl):Ro:=[ag (.lst (fs.map aM)),ag (cD a),ag (cD b),some ⟨false,k,CK gs⟩,x4,x5,x6,x7,x8,x9,x10,x11]
theorem sG{a b:Ci}{fs:List P}(ha:Ok a)(hb:Ok b)(hi:a.ins=b.ins)(hm:a.mems.length+b.mems.length<=8)(h:Cl a b none fs):Fe [.lst (fs.map aM),cD a,cD b]=some (.sh,.bl true):=by
 obtain⟨nd,ok,hf,hc⟩:=h
 have hfs:fs.length<=256:=by
  have h1:=g9 nd ok;rw[<- Mf] at h1;exact KF h1 (KI (n:=2) (by decide) hm)
 unfold Fe;refine bS (cU rfl ?_);unfold IQ
 walk_at "nm"
 refine a5 (z:=false) (jl rfl (aa rfl rfl)) (λe=>by cases e) λ_=>bw ?_;refine aE (ao (yz ⟨⟨rfl,by decide⟩,?_⟩));refine c7 (bU (ge (aa rfl (c4 rfl ⟨λs ρ=>∃x4,ρ=RC a b fs (fs.take s) k0 x4 none none none none none none none,⟨none,rfl⟩,λs d ρ hd hI=>?_,λρ hI=>?_⟩))))
 ·obtain⟨x4,rfl⟩:=hI;have hd:(fs.map aM)[s]?=some d:=hd;rw[Kf] at hd
  cases e:fs[s]? with
  |none=>rw[e] at hd;cases hd
  |some p=>
   rw[e] at hd;cases hd;have hs:=(Kb.mp e).1;have hpo:=ok p (Kw e)
   have hni:p∉fs.take s:=λz=>by
    obtain⟨j,hj⟩:=Lx.mp z;have hjl:=(Kb.mp hj).1;rw[KQ] at hjl;rw[List.getElem?_take,if_pos (by lia)] at hj;have:=(List.getElem?_inj (by lia) nd).mp (hj.trans e.symm)
    lia
   refine⟨[(4,aM p)],rfl,rfl,?_⟩;show Wp (aH _ _ _ [] (RC a b fs (fs.take s) k0 (ag (aM p)) none none none none none none none)) _;refine a5 (z:=false) (hU (jl rfl (aa rfl rfl)) (bC (aL (g7 (Fz (n:=2) rfl (aa rfl rfl)) (ac (lz rfl)))))) (λe=>by cases e) λ_=>bw ?_;refine a5 (z:=false) (hU (ku (φ:=Cb) (ds:=[.lst (p.1.map bD),iD a.mems.length]) rfl (ab (aw (aa rfl (ac (aj (n:=0) (.inr rfl) rfl rfl (ab (g7 (ck (l:=a.mems) (.inl rfl) (aw (aa rfl (ac (aj (n:=1) (.inr rfl) rfl rfl rfl))))) (ad rfl)))))))) (iJ hpo.1)) (bC (ku (φ:=Cb) (ds:=[.lst (p.2.map bD),iD b.mems.length]) rfl (ab (aw (aa rfl (ac (aj (n:=1) (.inr rfl) rfl rfl (ab (g7 (ck (l:=b.mems) (.inl rfl) (aw (aa rfl (ac (aj (n:=1) (.inr rfl) rfl rfl rfl))))) (ad rfl)))))))) (iJ hpo.2)))) (λe=>by cases e) λ_=>bw ?_;refine iV (ao (ac (nX rfl (bQ (ab (bh (ab (aw (aa rfl (ac (aj (n:=0) (.inr rfl) rfl rfl (ad (bY rfl (ab (bh (ab (aw (aa rfl (ac (aj (n:=1) (.inr rfl) rfl rfl (ad (bY rfl (ad (aV rfl (fj rfl rfl rfl (eI (vJ hni (by rw[KQ];lia) (KJ _)) (aN ⟨_,.inl rfl,ag (aM p),?_⟩)))))))))))))))))))))))))));rw[K8,e];rfl
 ·obtain⟨x4,rfl⟩:=hI;have hlen:(fs.map aM).length=fs.length:=Kc _;show Wp (aH _ _ _ [] (RC a b fs (fs.take (fs.map aM).length) k0 none none none none none none none none)) _;rw[hlen,K7];refine a5 (z:=false) (hU (aL (g7 (ck (l:=fs) (f:=λ_=>.bl true) (.inr (.inr ⟨4,fs.map pk,rfl⟩)) (aa rfl rfl)) (g7 (ck (l:=fs) (f:=aM) (.inl rfl) (aa rfl rfl)) (lz yA)))) (bC (aL ?_))) (λe=>by cases e) λ_=>bw ?_
  ·exact bQ (ab (sM (φ:=zx) (ds:=[cD a]) rfl (ab (aa rfl (ad ⟨rfl,rfl⟩))) (fG ha) rfl (ab (sM (φ:=zx) (ds:=[cD b]) rfl (ab (aa rfl (ad ⟨rfl,rfl⟩))) (fG hb) rfl (ad (aV rfl (aa rfl (vI (p:=i5 a b) (by rw[decide_eq_true hf];rfl)))))))))
  refine n6 ?_;show Wp (aH _ _ _ [] (RC a b fs fs .fz none none none none none none none none)) _;refine c7 (bU (ge (aa rfl (FA rfl ⟨λs ρ=>∃x5 x6 x7 x8 x9 x10 x11,ρ=RC a b fs fs .fz none x5 x6 x7 x8 x9 x10 x11,⟨none,none,none,none,none,none,none,rfl⟩,λs d ρ hd hI=>?_,λρ hI=>?_⟩))))
  ·obtain⟨x5,x6,x7,x8,x9,x10,x11,rfl⟩:=hI;have hd:(fs.map g8)[s]?=some d:=hd;rw[Kf] at hd
   cases e:fs[s]? with
   |none=>rw[e] at hd;cases hd
   |some p=>
    rw[e] at hd;cases hd;have hpm:=Kw e;have hpo:=ok p hpm;refine⟨[(5,.tup (p.1.map bD)),(6,.tup (p.2.map bD))],rfl,rfl,?_⟩;show Wp (aH _ _ _ [] (RC a b fs fs .fz none (ag (.tup (p.1.map bD))) (ag (.tup (p.2.map bD))) none x8 x9 x10 x11)) _;refine c7 (bU (ge (bE (φ:=E8) rfl (ab (aw (aa rfl (ac (aj (n:=0) (.inr rfl) rfl rfl (ad (bz ⟨_,pK ha.bi,rfl,.inl rfl,c4 rfl ⟨λs ρ=>∃x7 x8 x9 x10 x11,ρ=RC a b fs fs .fz none (ag (.tup (p.1.map bD))) (ag (.tup (p.2.map bD))) x7 x8 x9 x10 x11,⟨none,x8,x9,x10,x11,rfl⟩,λi d ρ hd hI=>?_,λρ hI=>?_⟩⟩))))))))))
    ·obtain⟨x7,x8,x9,x10,x11,rfl⟩:=hI;obtain⟨hi2,rfl⟩:=Cm hd;obtain⟨c1,c2⟩:=hc p hpm i hi2;refine⟨[(7,.lst ((rb a.ins i).map bD))],rfl,rfl,?_⟩;show Wp (aH _ _ _ [] (RC a b fs fs .fz none (ag (.tup (p.1.map bD))) (ag (.tup (p.2.map bD))) (ag (.lst ((rb a.ins i).map bD))) none none none none)) _;refine dW (ao (bE (φ:=zw) rfl (ab (aa rfl (ab (aa rfl (ab (aa rfl (ad (bz ⟨_,hJ ha hpo.1 mt,rfl,.inl rfl,_,_,_,rfl,rfl,⟨rfl,rfl⟩,?_⟩))))))))));refine dW (ao (bE (φ:=zw) rfl (ab (aa rfl (ab (aa rfl (ab (aa rfl (ad (bz ⟨_,hJ hb hpo.2 (by rw[mt,hi]),rfl,.inl rfl,_,_,_,rfl,rfl,⟨rfl,rfl⟩,?_⟩))))))))));refine a5 (z:=false) (hU (aL (aa rfl (aa rfl (vE ?_)))) (bC (aL (bQ (ab (aa rfl (ab (aa rfl (ad (aV rfl (aa rfl (vI (p:=bn a b p (rb a.ins i)) (by rw[decide_eq_true c2];rfl))))))))))))) (λe=>by cases e) λ_=>bw (aN ⟨_,.inl rfl,_,_,_,_,_,rfl⟩);have c1:decide (a8 a p.1 (rb a.ins i)=a8 b p.2 (rb a.ins i))=true:=c1;rw[c1];rfl
    ·obtain⟨x7,x8,x9,x10,x11,rfl⟩:=hI;exact aN ⟨_,.inl rfl,ag (.tup (p.1.map bD)),ag (.tup (p.2.map bD)),none,none,none,none,none,rfl⟩
  ·obtain⟨x5,x6,x7,x8,x9,x10,x11,rfl⟩:=hI;exact aT (ao (ac ⟨rfl,bv rfl rfl⟩))
theorem yB{x y:Bool}{T:Bool->Prop}(q:T (!(x==y))):Wp (bI .NotEq (.bl x) (.bl y)) T:=pq ⟨rfl,rfl⟩ (by
 have:sI (.bl x) (.bl y)=(x==y):=by unfold sI py;simp[PyData.eqv]
 rw[this];exact q)
noncomputable abbrev RP(a b:Ci)(r:List (List Bool))(p:P)(x5 x6 x7 x8:Option Sl):Ro:=[ag (gh r),ag (cD a),ag (cD b),ag (.tup (p.1.map bD)),ag (.tup (p.2.map bD)),x5,x6,x7,x8]
theorem Lead.len{a b:Ci}:∀{xs:List (List Bool)} {s e:P},Lead a b xs s e->∀x∈xs,x.length=a.ins
 |[],_,_,_,x,hx=>by simp at hx
 |y::xs,s,e,h,x,hx=>by
  rcases Kn.mp hx with rfl|hx
  ·obtain⟨i,_,rfl⟩:=h.1;exact mt
  ·exact Lead.len h.2.2 x hx
theorem vP{a b:Ci}(ha:Ok a)(hb:Ok b)(hi:a.ins=b.ins)(h:Cl a b (some r) fs):Ff [gh r,cD a,cD b]=some (.sh,.bl true):=by
 obtain⟨xs,e,i,rfl,hxl,hi2,hl,hal⟩:=h
 have hx:∀x∈xs++[rb a.ins i],x.length=a.ins:=λx hx=>by
  rcases Lb.mp hx with h1|h1
  ·exact hl.len x h1
  ·cases K0.mp h1;exact mt
 have hlen:(xs++[rb a.ins i]).length=xs.length+1:=by simp
 unfold Ff;refine bS (cU rfl ?_);unfold IW
 walk_at "nm"
 refine a5 (z:=false) (hU (ku (φ:=E9) (ds:=[gh (xs++[rb a.ins i]),iD a.ins]) rfl (ab (aa rfl (ab (aw (aa rfl (ac (aj (n:=0) (.inr rfl) rfl rfl (ad rfl)))))))) (vN (by lia) hx)) (bC (aL (g7 (ck (l:=xs++[rb a.ins i]) (.inl rfl) (aa rfl rfl)) (ac (eY ?_)))))) (λe=>by cases e) λ_=>bw ?_
 ·exact decide_eq_false (by lia)
 refine aE (ao (sM (φ:=zx) (ds:=[cD a]) rfl (ab (aa rfl (ad ⟨rfl,rfl⟩))) (fG ha) rfl ⟨⟨rfl,by decide⟩,?_⟩));refine aE (ao (sM (φ:=zx) (ds:=[cD b]) rfl (ab (aa rfl (ad ⟨rfl,rfl⟩))) (fG hb) rfl ⟨⟨rfl,by decide⟩,?_⟩));show Wp (aH _ _ _ [] (RP a b (xs++[rb a.ins i]) (i5 a b) none none none none)) _;refine c7 (bU (j8 (aa rfl (pJ rfl ⟨λs ρ=>∃p x5 x6 x7 x8,ρ=RP a b (xs++[rb a.ins i]) p x5 x6 x7 x8/\(p.1.length=a.mems.length/\p.2.length=b.mems.length)/\(s<=xs.length->Lead a b (xs.drop s) p e),⟨i5 a b,none,none,none,none,rfl,⟨by simp[cc],by simp[cc]⟩,λ_=>hl⟩,λs d ρ hd hI=>?_,λρ hI=>?_⟩))))
 ·obtain⟨p,x5,x6,x7,x8,rfl,hpo,hL⟩:=hI;have hd:(((xs++[rb a.ins i]).map λx=>D.lst (x.map bD)).mapIdx λi d=>D.tup [.int i,d])[s]?=some d:=hd;rw[Lc,Kf] at hd
  cases e1:(xs++[rb a.ins i])[s]? with
  |none=>rw[e1] at hd;cases hd
  |some x=>
   rw[e1] at hd;cases hd;have hxl:=hx x (Kw e1);have hs:=(Kb.mp e1).1;refine⟨[(5,iD s),(6,.lst (x.map bD))],rfl,rfl,?_⟩;show Wp (aH _ _ _ [] (RP a b (xs++[rb a.ins i]) p (ag (iD s)) (ag (.lst (x.map bD))) none none)) _;refine dW (ao (sM (φ:=zw) (ds:=[cD a,.tup (p.1.map bD),.lst (x.map bD)]) rfl (ab (aa rfl (ab (aa rfl (ab (aa rfl (ad ⟨rfl,rfl⟩))))))) (hJ ha hpo.1 hxl) rfl ⟨_,_,_,rfl,rfl,⟨rfl,rfl⟩,?_⟩));refine dW (ao (sM (φ:=zw) (ds:=[cD b,.tup (p.2.map bD),.lst (x.map bD)]) rfl (ab (aa rfl (ab (aa rfl (ab (aa rfl (ad ⟨rfl,rfl⟩))))))) (hJ hb hpo.2 (by rw[hxl,hi])) rfl ⟨_,_,_,rfl,rfl,⟨rfl,rfl⟩,?_⟩));show Wp (aH _ _ _ [] (RP a b (xs++[rb a.ins i]) (bn a b p x) (ag (iD s)) (ag (.lst (x.map bD))) (ag (.lst ((a8 a p.1 x).map bD))) (ag (.lst ((a8 b p.2 x).map bD))))) _
   have key:(!((!decide (a8 a p.1 x=a8 b p.2 x))==decide ((s:Int)=((xs++[rb a.ins i]).length:Int)-1)))=false/\(s+1<=xs.length->Lead a b (xs.drop (s+1)) (bn a b p x) e):=by
    by_cases hs2:s<xs.length
    ·have hL:=hL (by lia);rw[Ll hs2] at hL;rw[Ks hs2,Kg hs2] at e1;cases e1;obtain⟨l1,l2,l3⟩:=hL;have l2:decide (a8 a p.1 xs[s]=a8 b p.2 xs[s])=true:=l2;rw[l2,decide_eq_false (show ¬((s:Int)=((xs++[rb a.ins i]).length:Int)-1) by lia)];exact⟨rfl,λ_=>l3⟩
    ·have hs3:s=xs.length:=by lia
     subst hs3;have hL:=hL (Ki _);rw[MN] at hL;have hL:p=e:=hL;subst hL;rw[KP (Ki _),Lw] at e1;cases e1;have hal:decide (a8 a p.1 (rb a.ins i)=a8 b p.2 (rb a.ins i))=false:=hal;rw[hal,decide_eq_true (show((xs.length:Int)=((xs++[rb a.ins i]).length:Int)-1) by lia)];exact⟨rfl,λh=>by lia⟩
   refine a5 (z:=false) ?_ (λe=>by cases e) λ_=>bw (aN ⟨_,.inl rfl,bn a b p x,ag (iD s),ag (.lst (x.map bD)),ag (.lst ((a8 a p.1 x).map bD)),ag (.lst ((a8 b p.2 x).map bD)),rfl,⟨by simp[bn,nextOf],by simp[bn,nextOf]⟩,key.2⟩);exact aL (f9 (aa rfl (aa rfl (vE (f9 (aa rfl (ah (g7 (ck (l:=xs++[rb a.ins i]) (.inl rfl) (aa rfl rfl)) (ac (ci (eY (yB key.1))))))))))))
 ·obtain⟨p,x5,x6,x7,x8,rfl,hpo,hL⟩:=hI;exact aT (ao (ac ⟨rfl,bv rfl rfl⟩))
noncomputable def d7(d:D):Prop:=∃(xs:List Int) (s:Int),d=.lst ((xs++[s]).map D.int)/\(∀x∈xs,0<=x)/\0<=s/\s<2305843009213693951
theorem yC{ρ:Ro}{i:Nat}{Q:Kd×D×Ro->Prop}(h:ρ[i]?=some (some ⟨false,k0,.nd .lst (d::ds)⟩))(q:Q (.sh,d,ρ.set i (some ⟨false,k0,.lst ds⟩))):Wp (aP Γ (.mut "pop" (.nm i) (.cons (.lit (.int 0)) .nil)) ρ) Q:=by
 refine⟨_,?_,q⟩;rw[fF,aR,aR,qk];show eW "pop" i (ll Γ.fn (.nm i) ρ) (some [(.sh,.int 0)]) ρ=_;rw[ll,h]
 show(match jY "pop" [] .fz (d::ds) [(.sh,.int 0)],ρ[i]? with|some (d',ds'),some (some ⟨false,k,_⟩)=>some (Kd.sh,d',ρ.set i (some ⟨false,k,id (.lst ds')⟩))|_,_=>none)=_
 have e0:seqIndex? 0 (d::ds).length=some 0:=by unfold seqIndex?;simp
 have:jY "pop" [] .fz (d::ds) [(.sh,.int 0)]=some (d,ds):=by
  show(if lc (.own [] .fz)=true/\-(2^63)<=(0:Int)/\(0:Int)<2^63 then(match seqIndex? 0 (d::ds).length with|some j=>((d::ds)[j]?).map λx=>(x,(d::ds).eraseIdx j)|none=>none) else none)=_
  rw[if_pos ⟨rfl,by decide,by decide⟩,e0];rfl
 rw[this,h];rfl
theorem yD{m:Nat}{Q:Kd×D×List (Option jb)->Prop}(h:d7 d)(hm:0<m)(hm2:m<2^64)(q:∀(r:Nat) d',r<m->d7 d'->Q (.sh,iD r,[some (k0,d'),none])):Wp (CJ [(k0,d),(.fz,iD m)]) Q:=by
 have ml:((m:Nat):Int).natAbs<lim:=by
  rw[Mx];exact LF hm2 (by unfold lim;decide)
 have rr:∀z:Int,∃r:Nat,z%(m:Int)=(r:Int)/\r<m:=λz=>by
  have h1:=Mb z (show(m:Int)≠0 by lia);have h2:=LU z (show(0:Int)<(m:Int) by lia);exact⟨(z%(m:Int)).toNat,by lia,by lia⟩
 obtain⟨xs,s,rfl,hx,hs0,hs1⟩:=h;unfold CJ;refine sg rfl ?_;unfold HX
 walk_at "nm"
 cases xs with
 |nil=>
  refine a5 (z:=false) (aL (bh (ab (aa rfl (ad (dP (ac (fN rfl)))))))) (λe=>by cases e) λ_=>bw ?_
  have hl1:s.natAbs<lim:=by
   have h1:s.natAbs<2^64:=by lia
   exact LF h1 (by unfold lim;decide)
  refine iV (ao (ah (ah (ah (aw (aa rfl (ac (aj (n:=0) (d:=.int s) (.inl rfl) rfl rfl (ac (j9 ⟨hl1,by decide⟩ (ac (bc (ac (kf (by decide) (nX rfl (ac (fj rfl rfl rfl (eI rfl ?_))))))))))))))))));have h1:=Mb (s*1181783497276652981+12345678910987) (show(2305843009213693951:Int)≠0 by decide);have h2:=LU (s*1181783497276652981+12345678910987) (show(0:Int)<2305843009213693951 by decide);generalize (s*1181783497276652981+12345678910987)%2305843009213693951=t at h1 h2⊢;obtain⟨r,e,hr⟩:=rr (t / 65537);show Wp (aH _ _ _ _ [some ⟨false,k0,.lst [.int t]⟩,ag (iD m),none]) _;refine aT (ao (ah (ah (aw (aa rfl (ac (aj (n:=0) (d:=.int t) (.inl rfl) rfl rfl (ac (qO ⟨by decide,by decide⟩ (aa rfl (kf (by lia) ⟨rfl,fP rfl ?_⟩)))))))))));show Q (.sh,.int (t / 65537%(m:Int)),_);rw[e];exact q r (.lst [.int t]) hr ⟨[],t,rfl,λx hx=>by simp at hx,h1,h2⟩
 |cons x xs=>
  have hx0:=hx x KA;refine a5 (z:=true) (aL (bh (ab (aa rfl (ad (dP (ac (fN (decide_eq_true ?_))))))))) (λ_=>?_) λe=>by cases e
  ·rw[Kc];simp;lia
  obtain⟨r,e,hr⟩:=rr x;refine aE (ao (ah (aw (aa rfl (ac (aj (n:=0) (d:=.int x) (.inl rfl) rfl rfl (aa rfl (kf (by lia) ⟨⟨rfl,by decide⟩,?_⟩))))))));rw[e];refine iV (ao (ah (aw (aa rfl (ac (aj (n:=0) (d:=.int x) (.inl rfl) rfl rfl (aa rfl (qO ⟨by lia,ml⟩ (nX rfl (ac (fj rfl rfl rfl (eI (r:=(.lst,.int (x / (m:Int))::(xs++[s]).map D.int)) ?_ ?_))))))))))))
  ·show(match iK ((x::xs++[s]).map D.int).length 0 with|some j=>if cw .fz (.sh,.int (x / (m:Int)))=true then some (Hd.lst,((x::xs++[s]).map D.int).set j (.int (x / (m:Int)))) else none|none=>none)=_
   rw[gY (by decide) (by simp;lia)];rfl
  have hq0:0<=x / (m:Int):=Int.ediv_nonneg hx0 (by lia);have hxs:∀y∈xs,0<=y:=λy hy=>hx y (Kp _ hy);show Wp (aH _ _ _ _ [some ⟨false,k0,.lst (.int (x / (m:Int))::(xs++[s]).map D.int)⟩,ag (iD m),ag (iD r)]) _;refine a5 (z:=decide (x / (m:Int)=0)) (aL (aw (aa rfl (ac (aj (n:=0) (d:=.int (x / (m:Int))) (.inl rfl) rfl rfl (ac (eY rfl))))))) (λ_=>?_) λ_=>bw ?_
  ·refine c6 (yC rfl (aN (br (aT (ao (aa rfl ⟨rfl,iU (fP rfl (q r _ hr ⟨xs,s,rfl,hxs,hs0,hs1⟩))⟩))))))
  ·refine aT (ao (aa rfl ⟨rfl,iU (fP rfl (q r _ hr ⟨x / (m:Int)::xs,s,rfl,λy hy=>?_,hs0,hs1⟩))⟩));rcases Kn.mp hy with rfl|hy
   ·exact hq0
   ·exact hxs y hy
theorem c5{Γ:GG}{ρ:Ro}{i m:Nat}{Q:Kd×D×Ro->Prop}(hΓ:Γ.fm 15=some CJ)(hρ:ρ[i]?=some (some ⟨false,k0,d⟩))(h:d7 d)(he:Wp (af Γ.fn e ρ) λx=>x=(.sh,iD m))(hm:0<m)(hm2:m<2^64)(q:∀(r:Nat) d',r<m->d7 d'->Q (.sh,iD r,ρ.set i (some ⟨false,k0,d'⟩))):Wp (aP Γ (.io 15 (.ref i (.val (.p e) .nil))) ρ) Q:=by
 refine lA hΓ (gg hρ (eZ (ao (he.mono λx hx=>?_))));subst hx;refine⟨rfl,gf ⟨by simp[cL],[(k0,d),(.fz,iD m)],?_,yD h hm hm2 λr d' hr hs=>⟨rfl,rfl,q r d' hr hs⟩⟩⟩
 show(match ρ[i]?,some [((.fz:Ow),iD m)] with|some (some ⟨false,k,d⟩),some ks=>some ((k,d)::ks)|_,_=>none)=_
 rw[hρ]
theorem zD{f:D->Option (Option KD)}(P:D->Prop):∀{ds:List D},(∀d∈ds,Wp (f d) λo=>o=none\/∃kd,o=some kd/\cw r kd=true/\P kd.2)->Wp (aX r f ds) λys=>ys.length<=ds.length/\∀y∈ys,P y
 |[],_=>⟨[],rfl,Ki _,λy hy=>by simp at hy⟩
 |d::ds,h=>by
  obtain⟨ys,e1,l1,p1⟩:=zD P (ds:=ds) λx hx=>h x (Kp _ hx);obtain⟨o,e2,ho⟩:=h d KA;rcases ho with rfl|⟨kd,rfl,hf,hp⟩
  ·exact⟨ys,by simp[aX,e1,e2],by simp;lia,p1⟩
  ·refine⟨kd.2::ys,by simp[aX,e1,e2,hf],by simp;lia,λy hy=>?_⟩;rcases Kn.mp hy with rfl|hy
   ·exact hp
   ·exact p1 y hy
theorem Cn{ft:Ro->Option Bool}{fe:Ro->Option KD}{Q:Option KD->Prop}(h1:nh tg d=some ps)(h2:dA ps ρ0=true)(h:Wp (ft (setAll ps ρ0)) λb=>(b=true->Wp (fe (setAll ps ρ0)) λx=>Q (some x))/\(b=false->Q none)):Wp (ef tg ft fe ρ0 d) Q:=by
 obtain⟨b,eb,q1,q2⟩:=h
 cases b with
 |true=>exact vm h1 h2 eb (q1 rfl)
 |false=>exact⟨none,by unfold ef;rw[h1];dsimp only;rw[if_pos h2,eb],q2 rfl⟩
theorem vQ{Q:KD->Prop}{i:Int}(q:Q (.sh,.int (if i<0 then -i else i))):Wp (dR "abs" [(k,.int i)]) Q:=⟨_,rfl,q⟩
theorem qW:∀{ys:List D},(∀y∈ys,∃z:Int,y=.int z/\0<=z)->∃zs:List Int,ys=zs.map D.int/\∀z∈zs,0<=z
 |[],_=>⟨[],rfl,λz hz=>by simp at hz⟩
 |y::ys,h=>by
  obtain⟨zs,rfl,hz⟩:=qW (ys:=ys) λx hx=>h x (Kp _ hx);obtain⟨z,rfl,h0⟩:=h y KA;exact⟨z::zs,rfl,λx hx=>(Kn.mp hx).elim (λe=>e▸h0) (hz x)⟩
theorem vR{ns:List Int}(hl:ns.length<=63){Q:KD->Prop}(q:∀d,d7 d->Q (.fr k0,d)):Wp (E2 [.scr ns]) Q:=by
 obtain⟨ms,em,lm⟩:∃ms:List Int,kI (ns.map D.int) none (some 63)=ms.map D.int/\ms.length<=63:=by
  refine⟨(ns.drop (HT.ju (ns.map D.int).length 0 none)).take (HT.ju (ns.map D.int).length (ns.map D.int).length (some 63)-HT.ju (ns.map D.int).length 0 none),?_,?_⟩
  ·unfold kI;rw[List.map_take,List.map_drop]
  ·rw[KQ,MK];lia
 have hsl:∀{Γ:Nat->Option Fn} {ρ:Ro} {R:KD->Prop},ρ[0]?=some (some ⟨false,.fz,.scr ns⟩)->R (.fr bq,.lst (ms.map D.int))->Wp (af Γ (.sl (.var 0) .non (.som (.lit (.int 63)))) ρ) R:=λh q=>zo (aa h (pi (vb (ac ⟨63,rfl,⟨(.fr bq,.lst (kI (ns.map D.int) none (some 63))),rfl,by rw[em];exact q⟩⟩))));unfold E2;refine cU rfl ?_;unfold H9
 walk_at "nm"
 refine aE (ao (ac ⟨⟨rfl,by decide⟩,?_⟩));refine c7 (bU (ge (hsl rfl (c4 rfl ⟨λs ρ=>∃(t:Int) (x2:Option Sl),ρ=[ag (.scr ns),ag (.int t),x2]/\0<=t/\t<2305843009213693951,⟨1000003,none,rfl,by decide,by decide⟩,λs d ρ hd hI=>?_,λρ hI=>?_⟩))))
 ·obtain⟨t,x2,rfl,h0,h1⟩:=hI;have hd:(ms.map D.int)[s]?=some d:=hd;rw[Kf] at hd
  cases e:ms[s]? with
  |none=>rw[e] at hd;cases hd
  |some z=>
   rw[e] at hd;cases hd;refine⟨[(2,.int z)],rfl,rfl,?_⟩;show Wp (aH _ _ _ [] [ag (.scr ns),ag (.int t),ag (.int z)]) _;have hl1:t.natAbs<lim:=LF (show t.natAbs<2^64 by lia) (by unfold lim;decide);refine aE (ao (ah (ah (ah (ah (aa rfl (ac (j9 ⟨hl1,by decide⟩ (ah (aa rfl (ah (ac (ac (pj (by decide) (kf (by decide) (bc (ac (bc (ac (kf (by decide) ⟨⟨rfl,by decide⟩,aN ⟨_,.inl rfl,_,_,rfl,Mb _ (by decide),LU _ (by decide)⟩⟩))))))))))))))))))))
 ·obtain⟨t,x2,rfl,h0,h1⟩:=hI;refine aT (ao (ah (jh (ge (hsl rfl (c4 rfl ⟨by rw[Kc];lia,(zD (λy=>∃z:Int,y=.int z/\0<=z) λd hd=>?_).mono λys hy=>?_⟩))))))
  ·obtain⟨z,_,rfl⟩:=KW.mp hd;refine Cn (ps:=[(1,.int z)]) rfl rfl (aL (bh (ab (aa rfl (ad (vQ (ah (ac (ac (pj (by decide) (zq ⟨λ_=>bh (ab (aa rfl (ad (vQ (.inr ⟨_,rfl,rfl,_,rfl,?_⟩))))),λ_=>.inl rfl⟩)))))))))))
   split<;>lia
  ·obtain⟨zs,rfl,hz⟩:=qW hy.2;rw[Kc,Kc] at hy;refine bf (ab (aa rfl (ad (bj rfl (kg ⟨rfl,rfl,by simp;lia⟩ ⟨rfl,bv rfl (q _ ⟨zs,t,?_,hz,h0,h1⟩)⟩)))));rw[Kq];rfl
theorem yE{xs:List Nat}{Q:Kd×D×List (Option jb)->Prop}(h:d7 d)(hl:0<xs.length)(hl2:xs.length<1000)(q:∀(x:Nat) d',x∈xs->d7 d'->Q (.sh,iD x,[some (k0,d'),none])):Wp (Ca [(k0,d),(.fz,.lst (xs.map iD))]) Q:=by
 unfold Ca;refine sg rfl ?_;unfold Il
 walk_at "nm"
 refine aT (nU (aO (ao (aa rfl ⟨rfl,aU (c5 (m:=xs.length) rfl rfl h (ck (l:=xs) (.inl rfl) (aa rfl rfl)) hl (by lia) λr d' hr hs=>ad ⟨_,_,rfl,aj (n:=r) (d:=iD (xs.getD r 0)) (.inl rfl) rfl (qV hr) ⟨rfl,fP rfl (q _ _ ?_ hs)⟩⟩)⟩))));rw[Kr,Kg hr];exact Lo hr
theorem pick{Γ:GG}{ρ:Ro}{i:Nat}{xs:List Nat}{Q:Kd×D×Ro->Prop}(hΓ:Γ.fm 20=some Ca)(hρ:ρ[i]?=some (some ⟨false,k0,d⟩))(h:d7 d)(he:Wp (af Γ.fn e ρ) λx=>x=(.sh,.lst (xs.map iD)))(hl:0<xs.length)(hl2:xs.length<1000)(q:∀(x:Nat) d',x∈xs->d7 d'->Q (.sh,iD x,ρ.set i (some ⟨false,k0,d'⟩))):Wp (aP Γ (.io 20 (.ref i (.val (.p e) .nil))) ρ) Q:=by
 refine lA hΓ (gg hρ (eZ (ao (he.mono λx hx=>?_))));subst hx;refine⟨rfl,gf ⟨by simp[cL],[(k0,d),(.fz,.lst (xs.map iD))],?_,yE h hl hl2 λr d' hr hs=>⟨rfl,rfl,q r d' hr hs⟩⟩⟩
 show(match ρ[i]?,some [((.fz:Ow),D.lst (xs.map iD))] with|some (some ⟨false,k,d⟩),some ks=>some ((k,d)::ks)|_,_=>none)=_
 rw[hρ]
theorem Jb:∀r,r<8->∃n,n<=3/\[iD 0,iD 1,iD 1,iD 2,iD 2,iD 2,iD 3,iD 3][r]?=some (iD n)
 |0,_=>⟨0,by decide,rfl⟩
 |1,_=>⟨1,by decide,rfl⟩
 |2,_=>⟨1,by decide,rfl⟩
 |3,_=>⟨2,by decide,rfl⟩
 |4,_=>⟨2,by decide,rfl⟩
 |5,_=>⟨2,by decide,rfl⟩
 |6,_=>⟨3,by decide,rfl⟩
 |7,_=>⟨3,by decide,rfl⟩
 |n+8,h=>by lia
theorem Jc:∀n,n<=3->[iD 2,iD 4,iD 16,iD 256][n]?=some (iD (2^2^n))/\2^2^n<=256
 |0,_=>⟨rfl,by decide⟩
 |1,_=>⟨rfl,by decide⟩
 |2,_=>⟨rfl,by decide⟩
 |3,_=>⟨rfl,by decide⟩
 |n+4,h=>by lia
noncomputable def yF(below:Nat)(g:Nat×List Nat):Prop:=g.2.length<=3/\g.1<2^2^g.2.length/\∀p∈g.2,p<below
theorem yG{below:Nat}{Q:Kd×D×List (Option jb)->Prop}(h:d7 d)(hb:below<1000)(q:∀g d',yF below g->d7 d'->Q (.sh,aF g,[some (k0,d'),none])):Wp (E3 [(k0,d),(.fz,iD below)]) Q:=by
 have tail:∀(n:Nat) (d:D),n<=3->(below=0->n=0)->d7 d->Wp (aH Γ_16 1000 (match EL with|.cons _ (.cons _ r)=>r|r=>r) [0] [some ⟨false,k0,d⟩,ag (iD below),ag (iD n),none,none,none]) λr=>Wp (j5 2 [0] (some r)) Q:=by
  intro n d hn hn0 h;unfold EL;refine aE (ao (bf (ad (bj rfl ⟨⟨rfl,by decide⟩,?_⟩))));refine c7 (bU (iG (ac (aa rfl (ff (bR (by lia) (by lia) (by lia) (by lia) (by lia)) ⟨λs ρ=>∃d ps x4 x5,ρ=[some ⟨false,k0,d⟩,ag (iD below),ag (iD n),some ⟨false,k0,.lst (K6 iD ps)⟩,x4,x5]/\d7 d/\ps.length=s/\s<=n/\∀p∈ps,p<below,⟨d,[],none,none,rfl,h,rfl,KJ _,λp hp=>by simp at hp⟩,λs x ρ hd hI=>?_,λρ hI=>?_⟩)))))
  ·obtain⟨d,ps,x4,x5,rfl,hS,hl,hs,hp⟩:=hI;obtain⟨rfl,hj⟩:=gZ hd
   have hb0:0<below:=by
    rcases Nat.eq_zero_or_pos below with e|e
    ·have:=hn0 e;lia
    ·exact e
   refine⟨[(4,.int (0+s))],rfl,rfl,?_⟩;show Wp (aH _ _ _ [0] [some ⟨false,k0,d⟩,ag (iD below),ag (iD n),some ⟨false,k0,.lst (K6 iD ps)⟩,ag (.int (0+s)),none]) _;refine aE (pv (aO (ao (aa rfl ⟨rfl,aU (nU (aO (ao (bf (ab (aa rfl (ab (ac (ad (bj rfl ⟨rfl,aU (c5 (m:=2) rfl rfl hS (ac rfl) (by decide) (by decide) λr d' hr hS'=>ad ⟨_,_,rfl,?_⟩)⟩))))))))))⟩))))
   obtain⟨z,hz,hz0,hz1⟩:∃z:Nat,[iD below,iD 4][r]?=some (iD z)/\0<z/\(z=below\/z=4):=by
    match r,hr with
    |0,_=>exact⟨below,rfl,hb0,.inl rfl⟩
    |1,_=>exact⟨4,rfl,by decide,.inr rfl⟩
   refine aj (n:=r) (d:=iD z) (.inl rfl) rfl hz (ad (vg ⟨⟨rfl,by decide⟩,?_⟩))
   obtain⟨w,hw,hw0,hw1⟩:∃w:Nat,(if(z:Int)<(below:Int) then(z:Int) else(below:Int))=(w:Int)/\0<w/\w<=below:=by
    by_cases hzb:(z:Int)<(below:Int)
    ·exact⟨z,if_pos hzb,hz0,by lia⟩
    ·exact⟨below,if_neg hzb,hb0,Ki _⟩
   show Wp (aH _ _ _ [0] [some ⟨false,k0,d'⟩,ag (iD below),ag (iD n),some ⟨false,k0,.lst (K6 iD ps)⟩,ag (.int (0+s)),ag (.int (if(z:Int)<(below:Int) then(z:Int) else(below:Int)))]) _
   rw[hw];refine c6 (pA rfl (mr (aO (ao (ah (aa rfl (ac (ci ⟨rfl,aU (c5 (m:=w) rfl rfl hS' (aa rfl rfl) hw0 (by lia) λr2 d2 hr2 hS2=>ad ⟨_,_,rfl,ci ⟨[],.fz,_,rfl,⟨KJ _,rfl,by rw[Kc];lia⟩,aN ⟨_,.inl rfl,d2,ps++[below-1-r2],ag (.int (0+s)),ag (iD w),?_,hS2,by simp;lia,by lia,λp hp'=>?_⟩⟩⟩)⟩))))))))
   ·have e1:((below:Int)-1-(r2:Int))=((below-1-r2:Nat):Int):=by lia
    show [some ⟨false,k0,d2⟩,ag (iD below),ag (iD n),some ⟨false,k0,.lst (K6 iD ps++[.int ((below:Int)-1-(r2:Int))])⟩,ag (.int (0+s)),ag (iD w)]=_;rw[e1,Kq];rfl
   ·rcases Lb.mp hp' with h1|h1
    ·exact hp p h1
    ·cases K0.mp h1;lia
  ·obtain⟨d,ps,x4,x5,rfl,hS,hl,hs,hp⟩:=hI;have hl:ps.length=(cI 0 (n:Int)).length:=hl;rw[cF,Kc,Kx] at hl;obtain⟨t1,t2⟩:=Jc n hn;refine aT (cZ (aU (c5 (m:=2^2^n) rfl rfl hS (aw (bf (ab (ac (ab (ac (ab (ac (ab (ac (ad (bj rfl (aa rfl (aj (n:=n) (.inl rfl) rfl t1 rfl)))))))))))))) (LC _) (by lia) λr d' hr hS'=>ab (bh (ab (aa rfl (ad (bY rfl (ad (aV rfl ⟨rfl,fP rfl (q (r,ps) d' ⟨by show ps.length<=3;lia,by show r<2^2^ps.length;rw[hl];exact hr,hp⟩ hS')⟩))))))))))
 unfold E3;refine sg rfl ?_;unfold EL at tail⊢
 walk_at "nm"
 refine aE (nU (aO (ao (bf (ab (ac (ab (ac (ab (ac (ab (ac (ab (ac (ab (ac (ab (ac (ab (ac (ad (bj rfl ⟨rfl,aU (c5 (m:=8) rfl rfl h (ac rfl) (by decide) (by decide) λr d' hr hS=>ad ⟨_,_,rfl,?_⟩)⟩))))))))))))))))))))));obtain⟨n,hn,en⟩:=Jb r hr;refine aj (n:=r) (d:=iD n) (.inl rfl) rfl en ⟨⟨rfl,by decide⟩,?_⟩;show Wp (aH _ _ _ [0] [some ⟨false,k0,d'⟩,ag (iD below),ag (iD n),none,none,none]) _;refine a5 (z:=decide ((below:Int)=0)) (aL (aa rfl (ac (eY rfl)))) (λe=>?_) λe=>bw (tail n d' hn (λe0=>?_) hS)
 ·exact aE (ao (ac ⟨⟨rfl,by decide⟩,aN (br (tail 0 d' (by lia) (λ_=>rfl) hS))⟩))
 ·have:=of_decide_eq_false e;lia
theorem yH{r p:Nat}(h:r<2):D.tup [iD r,iD p]=aZ (decide (r=1),p):=by
 match r,h with
 |0,_=>rfl
 |1,_=>rfl
theorem fH{α:Type}{P:α->Prop}{l:List α}{x:α}(h:∀y∈l,P y)(hx:P x):∀y∈l++[x],P y:=λy hy=>(Lb.mp hy).elim (h y) λz=>by cases K0.mp z;exact hx
theorem GOk.snoc{n:Nat}{gs:List (Nat×List Nat)}{g:Nat×List Nat}(h:GOk n gs)(hg:yF (n+gs.length) g):GOk n (gs++[g]):=λk x hx=>by
 rcases kq hx with h1|⟨rfl,rfl⟩
 ·exact h k x h1
 ·exact hg
structure Bd(c:Ci)(i m g o:Nat):Prop where
 i:c.ins<=i
 m:c.mems.length<=m
 g:c.gates.length<=g
 o:c.outs.length<=o
theorem draws{Γ:GG}{n:Nat}{k:Nat}{a:Option Sl}{R:List D×Ro->Prop}(hΓ:Γ.fm 15=some CJ)(hn:0<n)(hn2:n<1000)(h:d7 d)(q:∀(ps:List Nat) d',ps.length=k->(∀p∈ps,p<n)->d7 d'->R (ps.map iD,[none,none,none,ag (iD n),some ⟨false,k0,d'⟩])) :
  Wp (aD .fz (eV [none,none,none,some 6,some 0] (.nm 1) (jZ Γ .non) (aP Γ (.io 15 (.ref 4 (.val (.p (.var 3)) .nil))))) ((Kh k).map iD) [none,none,none,ag (iD n),some ⟨false,k0,d⟩]) R:=by
 refine nW (λj ys ρ=>∃(ps:List Nat) (d:D),ys=ps.map iD/\ps.length=j/\(∀p∈ps,p<n)/\d7 d/\ρ=[none,none,none,ag (iD n),some ⟨false,k0,d⟩]) ⟨[],d,rfl,rfl,λp hp=>by simp at hp,h,rfl⟩ (λj x ys ρ hx hI=>?_) λys ρ hI=>?_
 ·obtain⟨ps,d,rfl,hl,hp,hS,rfl⟩:=hI;refine kh (ps:=[(1,x)]) rfl ⟨rfl,rfl⟩ rfl (c5 (m:=n) hΓ rfl hS (aa rfl rfl) hn (by lia) λr d' hr hS'=>⟨_,rfl,rfl,ps++[r],d',?_,by simp[hl],fH hp hr,hS',rfl⟩);rw[Kq];rfl
 ·obtain⟨ps,d,rfl,hl,hp,hS,rfl⟩:=hI;exact q ps d (by rw[hl,Kc,Kx]) hp hS
theorem pL{s0 s1 s2 s3:Nat}{Q:Kd×D×List (Option jb)->Prop}(h:d7 d)(h0:s0<=6)(h1:s1<=9)(h2:s2<=9)(h3:s3<=9)(q:∀c d',Ok c->Bd c s0 s1 s2 s3->d7 d'->Q (.sh,cD c,[some (k0,d'),none])):Wp (E4 [(k0,d),(.fz,.lst [iD s0,iD s1,iD s2,iD s3])]) Q:=by
 unfold E4;refine sg rfl ?_;unfold Ig
 walk_at "nm"
 have add1:∀n:Nat,(.sh,D.int ((n:Int)+1))=((.sh,iD (n+1)):KD):=λn=>rfl;refine aE (c5 (m:=s0+1) rfl rfl h (ah (aw (aa rfl (ac (aj (n:=0) (d:=iD s0) (.inl rfl) rfl rfl (ac (bc rfl))))))) (by lia) (by lia) λi d hi h=>⟨⟨rfl,by decide⟩,?_⟩);refine aE (c5 (m:=s1+1) rfl rfl h (ah (aw (aa rfl (ac (aj (n:=1) (d:=iD s1) (.inl rfl) rfl rfl (ac (bc rfl))))))) (by lia) (by lia) λm d hm h=>⟨⟨rfl,by decide⟩,?_⟩);refine aE (ao (bf (ad (bj rfl ⟨⟨rfl,by decide⟩,?_⟩))));refine c7 (jk (c5 (m:=s2+1) rfl rfl h (ah (aw (aa rfl (ac (aj (n:=2) (d:=iD s2) (.inl rfl) rfl rfl (ac (bc rfl))))))) (by lia) (by lia) λg d hg h=>ff (bR (by lia) (by lia) (by lia) (by lia) (by lia)) ⟨λs ρ=>∃d gs x5,ρ=[some ⟨false,k0,d⟩,ag (.lst [iD s0,iD s1,iD s2,iD s3]),ag (iD i),ag (iD m),some ⟨false,k0,.lst (K6 aF gs)⟩,x5,none,none,none]/\d7 d/\gs.length=s/\GOk (i+m) gs,⟨d,[],none,rfl,h,rfl,λk x hx=>by simp at hx⟩,λs x ρ hd hI=>?_,λρ hI=>?_⟩))
 ·obtain⟨d,gs,x5,rfl,hS,hl,hG⟩:=hI;obtain⟨rfl,hj⟩:=gZ hd;refine⟨[(5,.int (0+s))],rfl,rfl,?_⟩;rw[Mw] at hj⊢;show Wp (aH _ _ _ [0] [some ⟨false,k0,d⟩,ag (.lst [iD s0,iD s1,iD s2,iD s3]),ag (iD i),ag (iD m),some ⟨false,k0,.lst (K6 aF gs)⟩,ag (iD s),none,none,none]) _;refine c6 (pA rfl (lA (φ:=E3) rfl (gg (i:=0) rfl (eZ (ao (ah (ah (aa rfl (aa rfl (bc (aa rfl (bc ⟨rfl,gf ⟨by simp[cL],[(k0,d),(.fz,iD (i+m+s))],rfl,yG hS (by lia) λg d' hg hS'=>⟨rfl,rfl,[],.fz,_,rfl,⟨KJ _,rfl,by rw[Kc];lia⟩,aN ⟨_,.inl rfl,d',gs++[g],ag (iD s),?_,hS',by simp[hl],hG.snoc (by rw[hl];exact hg)⟩⟩⟩⟩))))))))))));rw[Kq];rfl
 ·obtain⟨d,gs,x5,rfl,hS,hl,hG⟩:=hI;have hl:gs.length=(cI 0 (g:Int)).length:=hl;rw[cF,Kc,Kx] at hl;show Wp (aH _ _ _ [0] [some ⟨false,k0,d⟩,ag (.lst [iD s0,iD s1,iD s2,iD s3]),ag (iD i),ag (iD m),some ⟨false,k0,.lst (K6 aF gs)⟩,none,none,none,none]) _;refine aE (ao (ah (ah (aa rfl (aa rfl (bc (g7 (ck (l:=gs) (.inl rfl) (aa rfl rfl)) (bc ⟨⟨rfl,by decide⟩,?_⟩))))))));have en:∃n:Nat,n=i+m+gs.length:=⟨_,rfl⟩;obtain⟨n,en⟩:=en;show Wp (aH _ _ _ [0] [some ⟨false,k0,d⟩,ag (.lst [iD s0,iD s1,iD s2,iD s3]),ag (iD i),ag (iD m),some ⟨false,k0,.lst (K6 aF gs)⟩,none,ag (iD (i+m+gs.length)),none,none]) _;rw[<- en]
  have fin:∀(ms:List (Bool×Nat)) (os:List Nat) (d:D),ms.length=m->(∀x∈ms,x.2<n)->(∀o∈os,o<n)->os.length<=s3->d7 d->Q (.sh,cD ⟨i,ms,gs,os⟩,[some (k0,d),none]):=λms os d hm' hms hos hl3 hS=>by
   have en':Ci.n ⟨i,ms,gs,os⟩=n:=by show i+ms.length+gs.length=n;lia
   refine q ⟨i,ms,gs,os⟩ d ⟨?_,λx hx=>by rw[en'];exact hms x hx,λo ho=>by rw[en'];exact hos o ho,?_,?_,?_,?_⟩ ⟨?_,?_,?_,?_⟩ hS
   ·show GOk (i+ms.length) gs;rw[hm'];exact hG
   ·show i<=6;lia
   ·show ms.length<=100;lia
   ·show gs.length<=100;lia
   ·show os.length<=100;lia
   ·show i<=s0;lia
   ·show ms.length<=s1;lia
   ·show gs.length<=s2;lia
   ·exact hl3
  have hlen:(cI 0 ((m:Nat):Int)).length=m:=by rw[cF,Kc,Kx]
  refine aE (eG (bU (iG (ac (aa rfl (ff (bR (by lia) (by lia) (by lia) (by lia) (by lia)) ⟨rfl,by show(cI 0 (m:Int)).length<=_;lia,?_⟩))))));show Wp (aD .fz _ (cI 0 (m:Int)) [none,none,none,ag (iD n),some ⟨false,k0,d⟩]) _;refine nW (λj ys ρ=>∃(ms:List (Bool×Nat)) (d:D),ys=ms.map aZ/\ms.length=j/\(∀x∈ms,x.2<n)/\d7 d/\ρ=[none,none,none,ag (iD n),some ⟨false,k0,d⟩]) ⟨[],d,rfl,rfl,λp hp=>by simp at hp,hS,rfl⟩ (λj x ys ρ hx hI=>?_) λys ρ hI=>?_
  ·obtain⟨ms,d,rfl,hl',hms,hS,rfl⟩:=hI;obtain⟨rfl,hj⟩:=gZ hx;refine kh (ps:=[(1,.int (0+j))]) rfl ⟨rfl,rfl⟩ rfl (cZ (aO (c5 (m:=2) rfl rfl hS (ac rfl) (by decide) (by decide) λr1 d1 hr1 hS1=>⟨rfl,aU (c5 (m:=n) rfl rfl hS1 (aa rfl rfl) (by lia) (by lia) λr2 d2 hr2 hS2=>ad (aV rfl ⟨_,rfl,rfl,ms++[(decide (r1=1),r2)],d2,?_,by simp[hl'],fH hms hr2,hS2,rfl⟩))⟩)));show ms.map aZ++[D.tup [iD r1,iD r2]]=(ms++[(decide (r1=1),r2)]).map aZ;rw[yH hr1,Kq];rfl
  ·obtain⟨ms,d,rfl,hl',hms,hS,rfl⟩:=hI;have hl':ms.length=(cI 0 (m:Int)).length:=hl';rw[hlen] at hl';refine⟨rfl,⟨rfl,by decide⟩,?_⟩;show Wp (aH _ _ _ [0] [some ⟨false,k0,d⟩,ag (.lst [iD s0,iD s1,iD s2,iD s3]),ag (iD i),ag (iD m),some ⟨false,k0,.lst (K6 aF gs)⟩,none,ag (iD n),some ⟨false,k0,.lst (K6 aZ ms)⟩,none]) _;refine aE (ao (bf (ad (bj rfl ⟨⟨rfl,by decide⟩,?_⟩))));refine a5 (z:=decide ((0:Int)<(n:Int))) (aL (aa rfl (ac (fN rfl)))) (λe=>?_) λe=>bw ?_
   ·have e:(0:Int)<(n:Int):=of_decide_eq_true e;refine aE (eG (jk (c5 (m:=s3+1) rfl rfl hS (ah (aw (aa rfl (ac (aj (n:=3) (d:=iD s3) (.inl rfl) rfl rfl (ac (bc rfl))))))) (by lia) (by lia) λk d hk hS=>ff (bR (by lia) (by lia) (by lia) (by lia) (by lia)) ⟨rfl,?_,?_⟩)))
    ·show(cI 0 (k:Int)).length<=_;rw[cF,Kc,Kx];lia
    show Wp (aD .fz _ (cI 0 (k:Int)) [none,none,none,ag (iD n),some ⟨false,k0,d⟩]) _;rw[cF];refine draws (a:=none) rfl (by lia) (by lia) hS λos d hlo hos hS=>⟨rfl,⟨rfl,by decide⟩,aN (br ?_)⟩;show Wp (aH _ _ _ [0] [some ⟨false,k0,d⟩,ag (.lst [iD s0,iD s1,iD s2,iD s3]),ag (iD i),ag (iD m),some ⟨false,k0,.lst (K6 aF gs)⟩,none,ag (iD n),some ⟨false,k0,.lst (K6 aZ ms)⟩,some ⟨false,k0,.lst (os.map iD)⟩]) _;exact aT (cZ (aO (ao (aa rfl ⟨rfl,aO (dG rfl ⟨rfl,aO (dG rfl ⟨rfl,aU (dG rfl (ad (aV rfl ⟨rfl,fP rfl (fin ms os d hl' hms hos (by lia) hS)⟩)))⟩)⟩)⟩))))
   ·exact aT (cZ (aO (ao (aa rfl ⟨rfl,aO (dG rfl ⟨rfl,aO (dG rfl ⟨rfl,aU (dG rfl (ad (aV rfl ⟨rfl,fP rfl (fin ms [] d hl' hms (λo ho=>by simp at ho) (KJ _) hS)⟩)))⟩)⟩)⟩))))
theorem vS{f:D->Ro->Option (Option KD×Ro)}(S:Ro->Prop)(P:D->Prop):∀{ds:List D} {ρ:Ro},S ρ->(∀d∈ds,∀ρ,S ρ->Wp (f d ρ) λo=>S o.2/\∀kd,o.1=some kd->cw r kd=true/\P kd.2)->Wp (aD r f ds ρ) λz=>(z.1.length<=ds.length/\∀y∈z.1,P y)/\S z.2
 |[],ρ,h0,_=>⟨([],ρ),rfl,⟨Ki _,λy hy=>by simp at hy⟩,h0⟩
 |d::ds,ρ,h0,h=>by
  obtain⟨⟨o,ρ1⟩,e1,s1,k1⟩:=h d KA ρ h0;obtain⟨⟨ys,ρ2⟩,e2,⟨l2,p2⟩,s2⟩:=vS S P (ds:=ds) (ρ:=ρ1) s1 λx hx=>h x (Kp _ hx)
  cases o with
  |none=>exact⟨(ys,ρ2),by unfold aD;rw[e1];exact e2,⟨by simp at l2⊢;lia,p2⟩,s2⟩
  |some kd=>
   obtain⟨hf,hp⟩:=k1 kd rfl;refine⟨(kd.2::ys,ρ2),by unfold aD;rw[e1];dsimp only;rw[if_pos hf,e2],⟨by simp at l2⊢;lia,λy hy=>?_⟩,s2⟩;rcases Kn.mp hy with rfl|hy
   ·exact hp
   ·exact p2 y hy
theorem qX{n:Nat}:∀{ys:List D},(∀y∈ys,∃z:Nat,y=iD z/\z<n)->∃zs:List Nat,ys=zs.map iD/\∀z∈zs,z<n
 |[],_=>⟨[],rfl,λz hz=>by simp at hz⟩
 |y::ys,h=>by
  obtain⟨zs,rfl,hz⟩:=qX (ys:=ys) λx hx=>h x (Kp _ hx);obtain⟨z,rfl,h0⟩:=h y KA;exact⟨z::zs,rfl,λx hx=>(Kn.mp hx).elim (λe=>e▸h0) (hz x)⟩
theorem Co{Q:Kd×D×Ro->Prop}(h:Wp (aY Γ as ρ) λp=>∃x y,p.1=[x,y]/\Wp (oV x y) λr=>Q (r.1,r.2,p.2)):Wp (aP Γ (.slh as) ρ) Q:=by
 rw[xM];exact nT (h.mono λp ⟨x,y,e,w⟩=>by rw[e];exact w)
theorem Jd{xs:List D}{n:Nat}{Q:KD->Prop}(h:fw k xs=true)(q:Q (.fr bq,.lst (xs.take n))):Wp (oV (k,.nd .lst xs) (k',iD n)) Q:=by
 refine⟨_,if_pos h,?_⟩;unfold kI;rw[HT.wB,HT.tw,List.drop_zero,Nat.sub_zero];by_cases hn:n<=xs.length
 ·rw[Nat.min_eq_left hn];exact q
 ·rw[Nat.min_eq_right (by lia),K7,<- List.take_of_length_le (i:=n) (show xs.length<=n by lia)];exact q
noncomputable abbrev lD(l:List Nat):D:=.lst (l.map iD)
theorem vT{es:List Ow}{ds:List D}{x:KD}(h:es.length<=ds.length/\cw r x=true/\ds.length<100000):jY "append" es r ds [x]=some (.non,ds++[x.2]):=if_pos h
theorem vU{Γ:GG}{ρ:Ro}{i j:Nat}{ls:List (List Nat)}{l:List Nat}{x:Nat}{Q:Kd×D×Ro->Prop}(h:ρ[i]?=some (some ⟨false,.own [] k0,.nd .lst (ls.map lD)⟩))(he:Wp (af Γ.fn e ρ) λy=>y.2=iD j)(hj:ls[j]?=some l)(hx:Wp (af Γ.fn e' ρ) λy=>y=(.sh,iD x))(hl:l.length<1000)(q:Q (.sh,.non,ρ.set i (some ⟨false,.own [] k0,.lst ((ls.set j (l++[x])).map lD)⟩))):Wp (aP Γ (.mut "append" (.ix (.nm i) e) (.cons e' .nil)) ρ) Q:=by
 obtain⟨⟨ky,dy⟩,ey,hy⟩:=he;cases(show dy=_ from hy);obtain⟨y,ex,rfl⟩:=hx;have hjl:=(Kb.mp hj).1;refine⟨_,?_,q⟩;rw[fF,aR,aR,ex];show eW "append" i (nB (ll Γ.fn (.nm i) ρ) (af Γ.fn e ρ)) (some [(.sh,iD x)]) ρ=_;rw[ll,h,ey]
 have e1:nB (jX (some (some ⟨false,.own [] k0,.nd .lst (ls.map lD)⟩))) (some (ky,iD j))=some (k0,lD l,λz=>D.nd .lst ((ls.map lD).set j z)):=by
  show(match iK (ls.map lD).length (j:Int) with|some j=>(match (ls.map lD)[j]? with|some d=>some (([]:List Ow).getD j k0,d,λz=>id (D.nd .lst ((ls.map lD).set j z)))|none=>none)|none=>none)=_
  rw[gY (by lia) (by rw[Kc];lia),KC];dsimp only;rw[Kf,hj];rfl
 rw[e1]
 show(match jY "append" [] .fz (l.map iD) [(.sh,iD x)],ρ[i]? with|some (d',ds'),some (some ⟨false,k,_⟩)=>some (Kd.sh,d',ρ.set i (some ⟨false,k,D.nd .lst ((ls.map lD).set j (.lst ds'))⟩))|_,_=>none)=_
 have e2:=vT (es:=[]) (r:=.fz) (ds:=l.map iD) (x:=(.sh,iD x)) ⟨KJ _,rfl,by rw[Kc];lia⟩
 have e3:(ls.map lD).set j (D.lst (l.map iD++[iD x]))=(ls.set j (l++[x])).map lD:=by
  rw[List.map_set];congr 2;rw[Kq];rfl
 rw[e2,h];dsimp only;rw[e3]
noncomputable def SpOk(sp:List (List Nat))(n m:Nat):Prop:=sp.length=n/\∀l∈sp,0<l.length/\l.length<1000/\∀x∈l,x<m
theorem SpOk.at{sp:List (List Nat)}{n m p:Nat}(h:SpOk sp n m)(hp:p<n):∃l,sp[p]?=some l/\0<l.length/\l.length<1000/\∀x∈l,x<m:=by
 have e:sp[p]?=some (sp[p]'(by rw[h.1];exact hp)):=Kg _;exact⟨_,e,h.2 _ (Lo _)⟩
theorem qY{Γ:GG}{ρ:Ro}{i j k:Nat}{sp:List (List Nat)}{n m p:Nat}{Q:Kd×D×Ro->Prop}(hΓ:Γ.fm 20=some Ca)(hρ:ρ[i]?=some (some ⟨false,k0,d⟩))(hj:ρ[j]?=some (some ⟨false,k0,.lst (sp.map lD)⟩))(he:Wp (af Γ.fn e ρ) λy=>y.2=iD p)(hsp:SpOk sp n m)(hp:p<n)(h:d7 d)(q:∀(x:Nat) d',x<m->d7 d'->Q (.sh,iD x,ρ.set i (some ⟨false,k0,d'⟩))):Wp (aP Γ (.io 20 (.ref i (.val (.p (.ix (.var j) e)) .nil))) ρ) Q:=by
 obtain⟨l,el,l0,l1,l2⟩:=hsp.at hp;refine pick (xs:=l) hΓ hρ h (aw (aa hj (he.mono λy hy=>?_))) l0 l1 λx d' hx hS=>q x d' (l2 x hx) hS;obtain⟨ky,dy⟩:=y;cases(show dy=_ from hy);exact aj (n:=p) (d:=lD l) (.inl rfl) rfl (by rw[Kf,el];rfl) rfl
theorem zE{Γ:GG}{sp:List (List Nat)}{n m:Nat}{ps:List Nat}{R:List D×Ro->Prop}(hΓ:Γ.fm 20=some Ca)(hsp:SpOk sp n m)(hp:∀p∈ps,p<n)(h:d7 d)(q:∀(xs:List Nat) d',xs.length=ps.length->(∀x∈xs,x<m)->d7 d'->R (xs.map iD,[none,none,none,some ⟨false,k0,.lst (sp.map lD)⟩,some ⟨false,k0,d'⟩])) :
  Wp (aD .fz (eV [none,none,none,some 10,some 0] (.nm 1) (jZ Γ .non) (aP Γ (.io 20 (.ref 4 (.val (.p (.ix (.var 3) (.var 1))) .nil))))) (ps.map iD) [none,none,none,some ⟨false,k0,.lst (sp.map lD)⟩,some ⟨false,k0,d⟩]) R:=by
 refine nW (λj ys ρ=>∃(xs:List Nat) (d:D),ys=xs.map iD/\xs.length=j/\(∀x∈xs,x<m)/\d7 d/\ρ=[none,none,none,some ⟨false,k0,.lst (sp.map lD)⟩,some ⟨false,k0,d⟩]) ⟨[],d,rfl,rfl,λp hp=>by simp at hp,h,rfl⟩ (λj y ys ρ hy hI=>?_) λys ρ hI=>?_
 ·obtain⟨xs,d,rfl,hl,hx,hS,rfl⟩:=hI;rw[Kf] at hy
  cases e:ps[j]? with
  |none=>rw[e] at hy;cases hy
  |some p=>
   rw[e] at hy;cases hy;refine kh (ps:=[(1,iD p)]) rfl ⟨rfl,rfl⟩ rfl (qY (k:=0) (p:=p) hΓ rfl rfl (aa rfl rfl) hsp (hp p (Kw e)) hS λx d' hx' hS'=>⟨_,rfl,rfl,xs++[x],d',?_,by simp[hl],fH hx hx',hS',rfl⟩);rw[Kq];rfl
 ·obtain⟨xs,d,rfl,hl,hx,hS,rfl⟩:=hI;exact q xs d (by rw[hl,Kc]) hx hS
noncomputable abbrev RO(c:Ci)(most:Nat)(d:D)(x7:Option Sl)(ks:List Nat)(F:Nat)(k10:Ow)(sp:List (List Nat))(x11 x12 x13 x14 x15:Option Sl):Ro:=[some ⟨false,k0,d⟩,ag (cD c),ag (iD most),ag (iD c.ins),ag (.lst (c.mems.map aZ)),ag (.lst (c.gates.map aF)),ag (.lst (c.outs.map iD)),x7,some ⟨false,k0,lD ks⟩,ag (iD F),some ⟨false,k10,.lst (sp.map lD)⟩,x11,x12,x13,x14,x15,none,none]
noncomputable abbrev vV(fr:List (Nat×List Nat)):Option Sl:=some ⟨false,k0,.lst (fr.map aF)⟩
structure JA(c c':Ci)(most:Nat):Prop where
 ok:Ok c'
 i:c'.ins=c.ins
 o:c'.outs.length=c.outs.length
 m:c'.mems.length<=c.mems.length+most
theorem yI{c:Ci}{most F:Nat}{ks:List Nat}{sp:List (List Nat)}{fr:List (Nat×List Nat)}{d:D}{x7 x11 x13 x14 x15:Option Sl}{Q:Kd×D×List (Option jb)->Prop}(hc:Ok c)(hbm:c.mems.length<=9)(hbg:c.gates.length<=9)(hm1:most<=1)(hks:∀k∈ks,k<c.mems.length)(hkl:ks.length<=most)(hF:F=c.ins+c.mems.length+ks.length)(hsp:SpOk sp c.n (F+fr.length))(hfr:GOk F fr)(hfl:fr.length<=2*c.gates.length)(hS:d7 d)(q:∀c' d',JA c c' most->d7 d'->Q (.sh,cD c',[some (k0,d'),none,none])) :
  Wp (aH Γ_20 1000 (match BY with|.cons _ (.cons _ (.cons _ (.cons _ (.cons _ (.cons _ (.cons _ r))))))=>r|r=>r) [0] (RO c most d x7 ks F k0 sp x11 (vV fr) x13 x14 x15)) λr=>Wp (j5 3 [0] (some r)) Q:=by
 have hco:=hc.bo;have hci:=hc.bi;unfold BY;refine aE (ao (ah (yf (g7 (ck (l:=c.mems) (.inl rfl) (aa rfl rfl)) ⟨(.fr bq,.lst ((Kh c.mems.length).map iD)),?_,aa rfl (kg ⟨rfl,rfl,by simp;lia⟩ ⟨⟨rfl,by decide⟩,?_⟩)⟩))))
 ·show(if(0:Int)<=(c.mems.length:Int)/\(c.mems.length:Int)<=100000 then some (Kd.fr bq,D.lst (((Kh ((c.mems.length:Int)).toNat).map λ(i:Nat)=>(i:Int)).map D.int)) else none)=_
  rw[if_pos ⟨by lia,by lia⟩,KC,KH];rfl
 refine n6 ?_;have eo:((Kh c.mems.length).map iD)++ks.map iD=(Kh c.mems.length++ks).map iD:=by rw[Kq]
 have ho:∀k∈Kh c.mems.length++ks,k<c.mems.length:=λk hk=>(Lb.mp hk).elim Lu.mp (hks k);have hol:(Kh c.mems.length++ks).length=c.mems.length+ks.length:=by simp
 show Wp (aH _ _ _ [0] [some ⟨false,k0,d⟩,ag (cD c),ag (iD most),ag (iD c.ins),ag (.lst (c.mems.map aZ)),ag (.lst (c.gates.map aF)),ag (.lst (c.outs.map iD)),x7,some ⟨false,k0,lD ks⟩,ag (iD F),some ⟨false,k0,.lst (sp.map lD)⟩,x11,vV fr,x13,x14,x15,ag (.lst (((Kh c.mems.length).map iD)++ks.map iD)),none]) _;rw[eo];generalize Kh c.mems.length++ks=ord at ho hol
 have fin:∀(ms:List (Bool×Nat)) (os:List Nat) (d:D),ms.length=c.mems.length+ks.length->(∀x∈ms,x.2<F+fr.length)->(∀o∈os,o<F+fr.length)->os.length=c.outs.length->d7 d->Q (.sh,cD ⟨c.ins,ms,fr,os⟩,[some (k0,d),none,none]):=λms os d hm' hms hos hlo hS=>by
  have en':Ci.n ⟨c.ins,ms,fr,os⟩=F+fr.length:=by show c.ins+ms.length+fr.length=_;lia
  refine q ⟨c.ins,ms,fr,os⟩ d ⟨⟨?_,λx hx=>by rw[en'];exact hms x hx,λo ho=>by rw[en'];exact hos o ho,hci,?_,?_,?_⟩,rfl,hlo,?_⟩ hS
  ·show GOk (c.ins+ms.length) fr;rw[hm',<- LI,<- hF];exact hfr
  ·show ms.length<=100;lia
  ·show fr.length<=100;lia
  ·show os.length<=100;lia
  ·show ms.length<=_;lia
 refine aE (eG (bU (ge (aa rfl (c4 rfl ⟨rfl,by show(ord.map iD).length<=_;rw[Kc];lia,?_⟩)))));show Wp (aD .fz _ (ord.map iD) [none,none,none,ag (.lst (c.mems.map aZ)),some ⟨false,k0,.lst (sp.map lD)⟩,some ⟨false,k0,d⟩]) _;refine nW (λj ys ρ=>∃(ms:List (Bool×Nat)) (d:D),ys=ms.map aZ/\ms.length=j/\(∀x∈ms,x.2<F+fr.length)/\d7 d/\ρ=[none,none,none,ag (.lst (c.mems.map aZ)),some ⟨false,k0,.lst (sp.map lD)⟩,some ⟨false,k0,d⟩]) ⟨[],d,rfl,rfl,λp hp=>by simp at hp,hS,rfl⟩ (λj y ys ρ hy hI=>?_) λys ρ hI=>?_
 ·obtain⟨ms,d,rfl,hl,hms,hS,rfl⟩:=hI;rw[Kf] at hy
  cases e:ord[j]? with
  |none=>rw[e] at hy;cases hy
  |some k=>
   rw[e] at hy;cases hy;have hk:=ho k (Kw e);have em:c.mems[k]?=some c.mems[k]:=Kg hk;have hmk:=hc.m c.mems[k] (Lo hk);generalize c.mems[k]=mk at em hmk;have emD:(c.mems.map aZ)[k]?=some (aZ mk):=by rw[Kf,em];rfl
   refine kh (ps:=[(1,iD k)]) rfl ⟨rfl,rfl⟩ rfl (cZ (aO (ao (aw (aw (aa rfl (aa rfl (aj (n:=k) (d:=aZ mk) (.inl rfl) rfl emD (ac (aj (n:=0) (.inr rfl) rfl rfl ⟨rfl,aU (qY (k:=0) (p:=mk.2) rfl rfl rfl (aw (aw (aa rfl (aa rfl (aj (n:=k) (d:=aZ mk) (.inl rfl) rfl emD (ac (aj (n:=1) (.inr rfl) rfl rfl rfl))))))) hsp hmk hS λx d' hx hS'=>ad (aV rfl ⟨_,rfl,rfl,ms++[(mk.1,x)],d',?_,by simp[hl],fH hms hx,hS',rfl⟩))⟩))))))))));rw[Kq];rfl
 ·obtain⟨ms,d,rfl,hl,hms,hS,rfl⟩:=hI;have hl:ms.length=(ord.map iD).length:=hl;rw[Kc,hol] at hl;refine⟨rfl,⟨rfl,by decide⟩,?_⟩;show Wp (aH _ _ _ [0] [some ⟨false,k0,d⟩,ag (cD c),ag (iD most),ag (iD c.ins),ag (.lst (c.mems.map aZ)),ag (.lst (c.gates.map aF)),ag (.lst (c.outs.map iD)),x7,some ⟨false,k0,lD ks⟩,ag (iD F),some ⟨false,k0,.lst (sp.map lD)⟩,x11,vV fr,x13,x14,x15,ag (.lst (ord.map iD)),some ⟨false,k0,.lst (ms.map aZ)⟩]) _;refine aT (cZ (aO (ao (aa rfl ⟨rfl,aO (dG rfl ⟨rfl,aO (dG rfl ⟨rfl,aU (eG (bU (ge (aa rfl (c4 rfl ⟨rfl,by show(c.outs.map iD).length<=_;rw[Kc];lia,?_⟩)))))⟩)⟩)⟩))));exact zE rfl hsp (λp hp=>hc.o p hp) hS λos d hlo hos hS=>⟨rfl,ad (aV rfl ⟨rfl,fP rfl (fin ms os d hl hms hos hlo hS)⟩)⟩
theorem SpOk.more{n m m':Nat}(h:SpOk sp n m)(hm:m<=m'):SpOk sp n m':=⟨h.1,λl hl=>⟨(h.2 l hl).1,(h.2 l hl).2.1,λx hx=>Km ((h.2 l hl).2.2 x hx) hm⟩⟩
theorem SpOk.snoc{sp:List (List Nat)}{n m:Nat}{l:List Nat}(h:SpOk sp n m)(hl:0<l.length/\l.length<1000/\∀x∈l,x<m):SpOk (sp++[l]) (n+1) m:=⟨by simp[h.1],fH h.2 hl⟩
theorem vW{x:Nat}{m:Nat}(h:x<m):0 < [x].length/\[x].length<1000/\∀y∈[x],y<m:=⟨by simp,by simp,λy hy=>by cases K0.mp hy;exact h⟩
theorem yJ{n t:Nat}(hn:n<=3)(ht:t<2^2^n):(1:Int)*2^((1:Int)*2^((n:Int)).toNat).toNat-1-(t:Int)=((2^2^n-1-t:Nat):Int)/\2^2^n-1-t<2^2^n:=by
 have:n=0\/n=1\/n=2\/n=3:=by lia
 rcases this with rfl|rfl|rfl|rfl
 ·have e:(1:Int)*2^((1:Int)*2^(((0:Nat):Int)).toNat).toNat=2:=by decide
  have e2:2^2^0=2:=by decide
  rw[e];lia
 ·have e:(1:Int)*2^((1:Int)*2^(((1:Nat):Int)).toNat).toNat=4:=by decide
  have e2:2^2^1=4:=by decide
  rw[e];lia
 ·have e:(1:Int)*2^((1:Int)*2^(((2:Nat):Int)).toNat).toNat=16:=by decide
  have e2:2^2^2=16:=by decide
  rw[e];lia
 ·have e:(1:Int)*2^((1:Int)*2^(((3:Nat):Int)).toNat).toNat=256:=by decide
  have e2:2^2^3=256:=by decide
  rw[e];lia
theorem vX{n:Nat}(hn:n<=3):(0<=(n:Int)/\(n:Int)<=1000000/\(1:Int).natAbs<lim)/\(0<=(1:Int)*2^((n:Int)).toNat/\(1:Int)*2^((n:Int)).toNat<=1000000/\(1:Int).natAbs<lim):=by
 have:n=0\/n=1\/n=2\/n=3:=by lia
 rcases this with rfl|rfl|rfl|rfl<;>exact⟨⟨by decide,by decide,by decide⟩,⟨by decide,by decide,by decide⟩⟩
theorem vY{c:Ci}{most F n:Nat}{ks:List Nat}{sp:List (List Nat)}{fr:List (Nat×List Nat)}{d:D}{x7 x11:Option Sl}{g:Nat×List Nat}{Q:Res->Prop}(hF:F<=100)(hfl:fr.length<=100)(hsl:sp.length<=1000)(hg:yF n g)(hsp:SpOk sp n (F+fr.length))(hfr:GOk F fr)(hS:d7 d)
  (q:∀d' fr' y x15,SpOk (sp++[[y]]) (n+1) (F+fr'.length)->GOk F fr'->fr'.length<=fr.length+2->d7 d'->Q (.nx (RO c most d' x7 ks F k0 (sp++[[y]]) x11 (vV fr') (ag (iD g.1)) (ag (.tup (g.2.map iD))) x15))) :
  Wp (aH Γ_20 1000 (match BY with|.cons _ (.cons _ (.cons _ (.cons _ (.cons _ (.cons _ (.cons (.fo _ _ _ r) _))))))=>r|r=>r) [0] (RO c most d x7 ks F k0 sp x11 (vV fr) (ag (iD g.1)) (ag (.tup (g.2.map iD))) none)) Q:=by
 obtain⟨g1,g2,g3⟩:=hg;unfold BY
 have last:∀(d:D) (fr':List (Nat×List Nat)) (x15:Option Sl),0<fr'.length->fr'.length<=fr.length+2->GOk F fr'->fr.length<=fr'.length->d7 d->Wp (aH Γ_20 1000 (.cons (.exp (.mut "append" (.nm 10) (.cons (.lst (.own [] .fz) (.cons (.bin .Sub (.bin .Add (.var 9) (.blt "len" (.cons (.var 12) .nil))) (.lit (.int 1))) .nil)) .nil))) .nil) [0] (RO c most d x7 ks F k0 sp x11 (vV fr') (ag (iD g.1)) (ag (.tup (g.2.map iD))) x15)) Q:=by
  intro d fr' x15 h0 h2 hG hle hS;refine c6 (dl (bf (ab (ah (ah (aa rfl (g7 (ck (l:=fr') (.inl rfl) (aa rfl rfl)) (bc (ac (ci (ad (bj rfl ⟨[],.fz,_,rfl,⟨KJ _,rfl,by rw[Kc];lia⟩,aN ?_⟩))))))))))));have e1:(F:Int)+(fr'.length:Int)-1=((F+fr'.length-1:Nat):Int):=by lia
  have e2:sp.map lD++[D.lst [.int ((F:Int)+(fr'.length:Int)-1)]]=(sp++[[F+fr'.length-1]]).map lD:=by rw[e1,Kq];rfl
  show Q (.nx [some ⟨false,k0,d⟩,ag (cD c),ag (iD most),ag (iD c.ins),ag (.lst (c.mems.map aZ)),ag (.lst (c.gates.map aF)),ag (.lst (c.outs.map iD)),x7,some ⟨false,k0,lD ks⟩,ag (iD F),some ⟨false,k0,.lst (sp.map lD++[D.lst [.int ((F:Int)+(fr'.length:Int)-1)]])⟩,x11,vV fr',ag (iD g.1),ag (.tup (g.2.map iD)),x15,none,none]);rw[e2];exact q d fr' _ x15 ((hsp.more (by lia)).snoc (vW (by lia))) hG h2 hS
 refine aE (pv (aU (eG (bU (ge (aa rfl (vj rfl ⟨rfl,by show(g.2.map iD).length<=_;rw[Kc];lia,?_⟩)))))));refine zE rfl hsp g3 hS λxs d hxl hxs hS=>⟨rfl,ad (bY rfl ⟨⟨rfl,by decide⟩,?_⟩)⟩;show Wp (aH _ _ _ [0] (RO c most d x7 ks F k0 sp x11 (vV fr) (ag (iD g.1)) (ag (.tup (g.2.map iD))) (ag (.tup (xs.map iD))))) _;refine vk (ji (aU (c5 (m:=3) rfl rfl hS (ac rfl) (by decide) (by decide) λr d hr hS=>ab (ac (ad ⟨_,_,rfl,eY ⟨λe=>?_,λe=>?_⟩⟩)))))
 ·show Wp (aH _ _ _ [0] (RO c most d x7 ks F k0 sp x11 (vV fr) (ag (iD g.1)) (ag (.tup (g.2.map iD))) (ag (.tup (xs.map iD))))) _;obtain⟨n1,n2⟩:=yJ g1 g2;have sh:=vX g1;refine c6 (dl (bQ (ab (ah (ah (ah (ac (ah (ac (g7 (ck (l:=g.2) (.inr (.inl rfl)) (aa rfl rfl)) (eE sh.1 (eE sh.2 (ac (ci (aa rfl (ci (ab (aa rfl (ad (aV rfl ⟨[],.fz,_,rfl,⟨KJ _,rfl,by rw[Kc];lia⟩,?_⟩))))))))))))))))))));have e1:fr.map aF++[D.tup [.int ((1:Int)*2^((1:Int)*2^((g.2.length:Int)).toNat).toNat-1-(g.1:Int)),.tup (xs.map iD)]]=(fr++[(2^2^g.2.length-1-g.1,xs)]).map aF:=by rw[n1,Kq];rfl
  show Wp (aH _ _ _ [0] [some ⟨false,k0,d⟩,ag (cD c),ag (iD most),ag (iD c.ins),ag (.lst (c.mems.map aZ)),ag (.lst (c.gates.map aF)),ag (.lst (c.outs.map iD)),x7,some ⟨false,k0,lD ks⟩,ag (iD F),some ⟨false,k0,.lst (sp.map lD)⟩,x11,some ⟨false,k0,.lst (fr.map aF++[D.tup [.int ((1:Int)*2^((1:Int)*2^((g.2.length:Int)).toNat).toNat-1-(g.1:Int)),.tup (xs.map iD)]])⟩,ag (iD g.1),ag (.tup (g.2.map iD)),ag (.tup (xs.map iD)),none,none]) _;rw[e1];have hG1:GOk F (fr++[(2^2^g.2.length-1-g.1,xs)]):=hfr.snoc ⟨by show xs.length<=3;lia,by show _<2^2^xs.length;rw[hxl];exact n2,hxs⟩;have hl1:(fr++[(2^2^g.2.length-1-g.1,xs)]).length=fr.length+1:=by simp
  generalize fr++[(2^2^g.2.length-1-g.1,xs)]=fr1 at hG1 hl1;refine c6 (dl (bQ (ab (ac (ab (bQ (ab (ah (ah (aa rfl (g7 (ck (l:=fr1) (.inl rfl) (aa rfl rfl)) (bc (ac (ci (ad (aV rfl (ad (aV rfl ⟨[],.fz,_,rfl,⟨KJ _,rfl,by rw[Kc];lia⟩,aN (br ?_)⟩))))))))))))))))));have e2:(F:Int)+(fr1.length:Int)-1=((F+fr.length:Nat):Int):=by lia
  have e3:fr1.map aF++[D.tup [.int 1,.tup [.int ((F:Int)+(fr1.length:Int)-1)]]]=(fr1++[(1,[F+fr.length])]).map aF:=by rw[e2,Kq];rfl
  show Wp (aH _ _ _ [0] [some ⟨false,k0,d⟩,ag (cD c),ag (iD most),ag (iD c.ins),ag (.lst (c.mems.map aZ)),ag (.lst (c.gates.map aF)),ag (.lst (c.outs.map iD)),x7,some ⟨false,k0,lD ks⟩,ag (iD F),some ⟨false,k0,.lst (sp.map lD)⟩,x11,some ⟨false,k0,.lst (fr1.map aF++[D.tup [.int 1,.tup [.int ((F:Int)+(fr1.length:Int)-1)]]])⟩,ag (iD g.1),ag (.tup (g.2.map iD)),ag (.tup (xs.map iD)),none,none]) _;rw[e3];refine last d _ _ (by simp) (by simp;lia) (hG1.snoc ⟨by simp,by simp,λp hp=>?_⟩) (by simp;lia) hS;cases K0.mp hp
  lia
 ·show Wp (aH _ _ _ [0] (RO c most d x7 ks F k0 sp x11 (vV fr) (ag (iD g.1)) (ag (.tup (g.2.map iD))) (ag (.tup (xs.map iD))))) _;refine c6 (dl (bQ (ab (aa rfl (ab (aa rfl (ad (aV rfl ⟨[],.fz,_,rfl,⟨KJ _,rfl,by rw[Kc];lia⟩,aN (br ?_)⟩))))))));have e1:fr.map aF++[D.tup [iD g.1,.tup (xs.map iD)]]=(fr++[(g.1,xs)]).map aF:=by rw[Kq];rfl
  show Wp (aH _ _ _ [0] [some ⟨false,k0,d⟩,ag (cD c),ag (iD most),ag (iD c.ins),ag (.lst (c.mems.map aZ)),ag (.lst (c.gates.map aF)),ag (.lst (c.outs.map iD)),x7,some ⟨false,k0,lD ks⟩,ag (iD F),some ⟨false,k0,.lst (sp.map lD)⟩,x11,some ⟨false,k0,.lst (fr.map aF++[D.tup [iD g.1,.tup (xs.map iD)]])⟩,ag (iD g.1),ag (.tup (g.2.map iD)),ag (.tup (xs.map iD)),none,none]) _;rw[e1];exact last d _ _ (by simp) (by simp) (hfr.snoc ⟨by show xs.length<=3;lia,by show g.1<2^2^xs.length;rw[hxl];exact g2,hxs⟩) (by simp) hS
theorem SpOk.put{sp:List (List Nat)}{n m j x:Nat}{l:List Nat}(h:SpOk sp n m)(hj:sp[j]?=some l)(hx:x<m)(hl:l.length<500):SpOk (sp.set j (l++[x])) n m:=by
 refine⟨by simp[h.1],λy hy=>?_⟩;rcases LD hy with h1|rfl
 ·exact h.2 y h1
 ·have:=h.2 l (Kw hj);exact⟨by simp,by simp;lia,fH this.2.2 hx⟩
theorem mx{c:Ci}{most:Nat}{Q:Kd×D×List (Option jb)->Prop}(h:d7 d)(hc:Ok c)(hbm:c.mems.length<=9)(hbg:c.gates.length<=9)(hm1:most<=1)(q:∀c' d',JA c c' most->d7 d'->Q (.sh,cD c',[some (k0,d'),none,none])):Wp (E5 [(k0,d),(.fz,cD c),(.fz,iD most)]) Q:=by
 have hci:=hc.bi;have endd:=@yI c most;have gate:=@vY c most;unfold E5;refine sg rfl ?_;unfold BY at endd gate⊢
 walk_at "nm"
 refine dW (ao (aa rfl ⟨_,_,_,rfl,rfl,⟨rfl,rfl⟩,?_⟩));show Wp (aH _ _ _ [0] [some ⟨false,k0,d⟩,ag (cD c),ag (iD most),ag (iD c.ins),ag (.lst (c.mems.map aZ)),ag (.lst (c.gates.map aF)),ag (.lst (c.outs.map iD)),none,none,none,none,none,none,none,none,none,none,none]) _;have hlen:(cI 0 ((c.mems.length:Nat):Int)).length=c.mems.length:=by rw[cF,Kc,Kx]
 refine aE (Co (aU (eG (bU (iG (ac (g7 (ck (l:=c.mems) (.inl rfl) (aa rfl rfl)) (ff (bR (by lia) (by lia) (by lia) (by lia) (by lia)) ⟨rfl,by show(cI 0 (c.mems.length:Int)).length<=_;lia,(vS (λρ=>∃d,d7 d/\ρ=[none,none,none,some ⟨false,k0,d⟩]) (λy=>∃z:Nat,y=iD z/\z<c.mems.length) ⟨d,h,rfl⟩ λx hx ρ hρ=>?_).mono λz hz=>?_⟩))))))))
 ·obtain⟨d,hS,rfl⟩:=hρ;have hx:x∈cI 0 (c.mems.length:Int):=hx;rw[cF] at hx;obtain⟨k,hk,rfl⟩:=KW.mp hx;have hk:=Lu.mp hk;exact vn (ps:=[(1,iD k)]) rfl ⟨rfl,rfl⟩ (ji (aU (c5 (m:=2) rfl rfl hS (ac rfl) (by decide) (by decide) λr d' hr hS'=>ab (ac (ad ⟨_,_,rfl,eY ⟨λ_=>ao (aa rfl ⟨⟨d',hS',rfl⟩,λkd e=>by cases e;exact⟨rfl,k,rfl,hk⟩⟩),λ_=>⟨⟨d',hS',rfl⟩,λkd e=>by cases e⟩⟩⟩)))))
 obtain⟨ys,ρ'⟩:=z;obtain⟨⟨hz1,hz2⟩,d,hS,e⟩:=hz;have e:ρ'=_:=e;subst e;have hz1:ys.length<=(cI 0 (c.mems.length:Int)).length:=hz1;obtain⟨zs,ez,hzs⟩:=qX hz2;have ez:ys=zs.map iD:=ez;subst ez;rw[hlen,Kc] at hz1;refine⟨rfl,ab (aa rfl (ad ⟨_,_,rfl,Jd (n:=most) rfl ⟨⟨rfl,by decide⟩,?_⟩⟩))⟩;have hks:∀k∈zs.take most,k<c.mems.length:=λk hk=>hzs k (List.mem_of_mem_take hk);have hkl:(zs.take most).length<=most:=by rw[KQ];lia
 show Wp (aH _ _ _ [0] [some ⟨false,k0,d⟩,ag (cD c),ag (iD most),ag (iD c.ins),ag (.lst (c.mems.map aZ)),ag (.lst (c.gates.map aF)),ag (.lst (c.outs.map iD)),none,some ⟨false,k0,.lst ((zs.map iD).take most)⟩,none,none,none,none,none,none,none,none,none]) _;rw[<- List.map_take];generalize zs.take most=ks at hks hkl;refine aE (ao (ah (ah (aa rfl (g7 (ck (l:=c.mems) (.inl rfl) (aa rfl rfl)) (bc (g7 (ck (l:=ks) (.inl rfl) (aa rfl rfl)) (bc ⟨⟨rfl,by decide⟩,?_⟩))))))));have eF:∃F:Nat,F=c.ins+c.mems.length+ks.length:=⟨_,rfl⟩;obtain⟨F,eF⟩:=eF;show Wp (aH _ _ _ [0] [some ⟨false,k0,d⟩,ag (cD c),ag (iD most),ag (iD c.ins),ag (.lst (c.mems.map aZ)),ag (.lst (c.gates.map aF)),ag (.lst (c.outs.map iD)),none,some ⟨false,k0,lD ks⟩,ag (iD (c.ins+c.mems.length+ks.length)),none,none,none,none,none,none,none,none]) _;rw[<- eF];refine aE (ao (vC (n:=c.ins+c.mems.length) (g:=λk=>lD [k]) (ah (aa rfl (g7 (ck (l:=c.mems) (.inl rfl) (aa rfl rfl)) (bc rfl)))) (by lia) (λk _=>sr rfl (bf (ab (aa rfl (ad (bj rfl ⟨.fr k0,rfl,rfl⟩)))))) ⟨⟨rfl,by decide⟩,?_⟩))
 have sp0:SpOk ((Kh (c.ins+c.mems.length)).map λk=>[k]) (c.ins+c.mems.length) F:=by
  refine⟨by simp,λl hl=>?_⟩;obtain⟨k,hk,rfl⟩:=KW.mp hl;have hk:=Lu.mp hk;exact vW (by lia)
 have sl0:∀l∈(Kh (c.ins+c.mems.length)).map λk=>[k],l.length<=1:=λl hl=>by
  obtain⟨k,hk,rfl⟩:=KW.mp hl;simp
 have es0:((Kh (c.ins+c.mems.length)).map λk=>lD [k])=((Kh (c.ins+c.mems.length)).map λk=>[k]).map lD:=by rw[KH];rfl
 show Wp (aH _ _ _ [0] [some ⟨false,k0,d⟩,ag (cD c),ag (iD most),ag (iD c.ins),ag (.lst (c.mems.map aZ)),ag (.lst (c.gates.map aF)),ag (.lst (c.outs.map iD)),none,some ⟨false,k0,lD ks⟩,ag (iD F),some ⟨false,.own [] k0,.lst ((Kh (c.ins+c.mems.length)).map λk=>lD [k])⟩,none,none,none,none,none,none,none]) _;rw[es0];generalize ((Kh (c.ins+c.mems.length)).map λk=>[k])=sp at sp0 sl0;refine c7 (bU (j8 (aa rfl (pJ rfl ⟨λs ρ=>∃sp x7 x11,ρ=[some ⟨false,k0,d⟩,ag (cD c),ag (iD most),ag (iD c.ins),ag (.lst (c.mems.map aZ)),ag (.lst (c.gates.map aF)),ag (.lst (c.outs.map iD)),x7,none,ag (iD F),some ⟨false,.own [] k0,.lst (sp.map lD)⟩,x11,none,none,none,none,none,none]/\SpOk sp (c.ins+c.mems.length) F/\(∀l∈sp,l.length<=1+s),⟨sp,none,none,rfl,sp0,sl0⟩,λs x ρ hd hI=>?_,λρ hI=>?_⟩))))
 ·obtain⟨sp,x7,x11,rfl,hsp,hsl⟩:=hI;have hd:((ks.map iD).mapIdx λi d=>D.tup [.int i,d])[s]?=some x:=hd;rw[Lc,Kf] at hd
  cases e:ks[s]? with
  |none=>rw[e] at hd;cases hd
  |some k=>
   rw[e] at hd;cases hd;have hs:=(Kb.mp e).1;have hk:=hks k (Kw e);obtain⟨l,el,l0,l1,l2⟩:=hsp.at (p:=c.ins+k) (by lia);have hll:=hsl l (Kw el);refine⟨[(11,iD s),(7,iD k)],rfl,rfl,?_⟩;show Wp (aH _ _ _ [0,8] [some ⟨false,k0,d⟩,ag (cD c),ag (iD most),ag (iD c.ins),ag (.lst (c.mems.map aZ)),ag (.lst (c.gates.map aF)),ag (.lst (c.outs.map iD)),ag (iD k),none,ag (iD F),some ⟨false,.own [] k0,.lst (sp.map lD)⟩,ag (iD s),none,none,none,none,none,none]) _;refine c6 (vU (j:=c.ins+k) (l:=l) (x:=c.ins+c.mems.length+s) rfl (ah (aa rfl (aa rfl (bc rfl)))) el (ah (ah (aa rfl (g7 (ck (l:=c.mems) (.inl rfl) (aa rfl rfl)) (bc (aa rfl (bc rfl))))))) l1 (aN ⟨_,.inl rfl,sp.set (c.ins+k) (l++[c.ins+c.mems.length+s]),ag (iD k),ag (iD s),rfl,hsp.put el (by lia) (by lia),λy hy=>?_⟩));rcases LD hy with h1|rfl
   ·have:=hsl y h1;lia
   ·simp;lia
 ·obtain⟨sp,x7,x11,rfl,hsp,hsl⟩:=hI;refine n6 ?_;show Wp (aH _ _ _ [0] [some ⟨false,k0,d⟩,ag (cD c),ag (iD most),ag (iD c.ins),ag (.lst (c.mems.map aZ)),ag (.lst (c.gates.map aF)),ag (.lst (c.outs.map iD)),x7,some ⟨false,k0,lD ks⟩,ag (iD F),some ⟨false,k0,.lst (sp.map lD)⟩,none,none,none,none,none,none,none]) _;refine aE (ao (bf (ad (bj rfl ⟨⟨rfl,by decide⟩,?_⟩))));refine c7 (bU (ge (aa rfl (c4 rfl ⟨λs ρ=>∃d sp fr x13 x14 x15,ρ=RO c most d x7 ks F k0 sp none (vV fr) x13 x14 x15/\SpOk sp (c.ins+c.mems.length+s) (F+fr.length)/\GOk F fr/\fr.length<=2*s/\d7 d,⟨d,sp,[],none,none,none,rfl,hsp,λk x hx=>by simp at hx,Ki _,hS⟩,λs x ρ hd hI=>?_,λρ hI=>?_⟩))))
  ·obtain⟨d,sp,fr,x13,x14,x15,rfl,hsp,hfr,hfl,hS⟩:=hI;have hd:(c.gates.map aF)[s]?=some x:=hd;rw[Kf] at hd
   cases e:c.gates[s]? with
   |none=>rw[e] at hd;cases hd
   |some g=>
    rw[e] at hd;cases hd;have hs:=(Kb.mp e).1;have hsl:=hsp.1;refine⟨[(13,iD g.1),(14,.tup (g.2.map iD))],rfl,rfl,?_⟩;exact gate (by lia) (by lia) (by lia) (hc.g s g e) hsp hfr hS λd' fr' y x15 h1 h2 h3 h4=>⟨_,.inl rfl,d',sp++[[y]],fr',_,_,x15,rfl,h1,h2,by lia,h4⟩
  ·obtain⟨d,sp,fr,x13,x14,x15,rfl,hsp,hfr,hfl,hS⟩:=hI;have hsp:SpOk sp (c.ins+c.mems.length+(c.gates.map aF).length) (F+fr.length):=hsp;have hfl:fr.length<=2*(c.gates.map aF).length:=hfl;rw[Kc] at hsp hfl;exact endd (x7:=x7) (x11:=none) (x13:=none) (x14:=none) (x15:=none) hc hbm hbg hm1 hks hkl eF hsp hfr hfl hS q
noncomputable def pl:Nat->D->Bool
 |_,.int _=>true
 |n+1,.nd .lst ds=>decide (ds.length<=1000)&&ds.all (pl n)
 |n+1,.nd .tup ds=>decide (ds.length<=1000)&&ds.all (pl n)
 |_,_=>false
noncomputable def Je:D->Kd
 |.nd .lst _=>.fr k0
 |.nd .tup _=>.fr (.own [] k0)
 |_=>.sh
theorem yK:∀(n:Nat) (d:D),pl n d=true->recI Γ_18 19 1000 1 1 sL (n+1) [d]=some (Je d,d):=by
 intro n
 induction n with
 |zero=>
  intro d h
  cases d with
  |int i=>
   show bT (Γ_18.addI 19 (recI Γ_18 19 1000 1 1 sL 0)) 1000 1 1 sL [.int i]=_;refine bS (cU rfl ?_);unfold sL
   walk_at "nm"
   exact a5 (z:=false) (cY rfl (dF (aa rfl ⟨false,rfl,false,rfl,rfl⟩))) (λe=>by cases e) λ_=>bw (a5 (z:=false) (cY rfl (dF (aa rfl ⟨false,rfl,false,rfl,rfl⟩))) (λe=>by cases e) λ_=>bw (aT (ao (aa rfl ⟨rfl,bv rfl rfl⟩))))
  |nd hd ds=>cases hd<;>cases h
  |_=>cases h
 |succ n ih=>
  intro d h;show bT (Γ_18.addI 19 (recI Γ_18 19 1000 1 1 sL (n+1))) 1000 1 1 sL [d]=_;refine bS (cU rfl ?_);unfold sL
  walk_at "nm"
  have comp:∀{r:Ow} {hd:Hd} {ds:List D} {Q:KD->Prop},(hd=.lst\/hd=.tup)->ds.length<=1000->(∀x∈ds,pl n x=true)->(∀x∈ds,cw r (Je x,x)=true)->Q (.fr (.own [] r),.lst ds)->Wp (af (Γ_18.addI 19 (recI Γ_18 19 1000 1 1 sL (n+1))).fn (.comp r [none,none,none] (.nm 1) (.e (.var 0)) .non (.fn 19 (.cons (.var 1) .nil))) [some ⟨false,.fz,.nd hd ds⟩]) Q:=by
   intro r hd ds Q hh hl hp hf q
   have:=i4 (Γ:=(Γ_18.addI 19 (recI Γ_18 19 1000 1 1 sL (n+1))).fn) (ρ:=[some ⟨false,.fz,.nd hd ds⟩]) (Q:=Q) (l:=ds) (f:=λx=>x) (g:=λx=>x) (hd:=hd) (r:=r) (cap:=[none,none,none]) (tg:=.nm 1) (a:=.var 0) (elt:=.fn 19 (.cons (.var 1) .nil)) hh (aa rfl ⟨rfl,by rw[List.map_id'];rfl⟩) (by lia) (λx hx=>sr rfl (sM (φ:=recI Γ_18 19 1000 1 1 sL (n+1)) (ds:=[x]) rfl (ab (aa rfl (ad ⟨rfl,rfl⟩))) (ih x (hp x hx)) (by cases x with|nd h ds=>cases h<;>rfl|_=>rfl) ⟨_,rfl,hf x hx⟩)) (by rw[List.map_id'];exact q)
   exact this
  cases d with
  |int i=>
   exact a5 (z:=false) (cY rfl (dF (aa rfl ⟨false,rfl,false,rfl,rfl⟩))) (λe=>by cases e) λ_=>bw (a5 (z:=false) (cY rfl (dF (aa rfl ⟨false,rfl,false,rfl,rfl⟩))) (λe=>by cases e) λ_=>bw (aT (ao (aa rfl ⟨rfl,bv rfl rfl⟩))))
  |nd hd ds=>
   cases hd with
   |lst=>
    have h:(decide (ds.length<=1000)&&ds.all (pl n))=true:=h;rw[Ke,decide_eq_true_eq,KO] at h;refine a5 (z:=true) (cY rfl (dF (aa rfl ⟨true,rfl,true,rfl,rfl⟩))) (λ_=>aT (ao (comp (.inl rfl) h.1 h.2 (λx _=>?_) ⟨rfl,iU (bv rfl rfl)⟩))) λe=>by cases e
    cases x with
    |nd hd ds=>cases hd<;>rfl
    |_=>rfl
   |tup=>
    have h:(decide (ds.length<=1000)&&ds.all (pl n))=true:=h;rw[Ke,decide_eq_true_eq,KO] at h;refine a5 (z:=false) (cY rfl (dF (aa rfl ⟨false,rfl,false,rfl,rfl⟩))) (λe=>by cases e) λ_=>bw (a5 (z:=true) (cY rfl (dF (aa rfl ⟨true,rfl,true,rfl,rfl⟩))) (λ_=>aT (ao (bh (ab (comp (.inr rfl) h.1 h.2 (λx hx=>?_) (ad (bY rfl ⟨rfl,iU (bv rfl rfl)⟩))))))) λe=>by cases e);have hx':=h.2 x hx
    cases n with
    |zero=>
     cases x with
     |int i=>rfl
     |nd hd ds=>cases hd<;>cases hx'
     |_=>cases hx'
    |succ n=>
     cases x with
     |int i=>rfl
     |nd hd ds=>cases hd<;>first|rfl|cases hx'
     |_=>cases hx'
   |_=>cases h
  |_=>cases h
theorem my:∀(n:Nat) (d:D),pl n d=true->pl (n+1) d=true
 |0,.int _,_=>rfl
 |0,.nd hd ds,h=>by cases hd<;>cases h
 |0,.non,h=>by cases h
 |0,.bl _,h=>by cases h
 |0,.str _,h=>by cases h
 |0,.scr _,h=>by cases h
 |n+1,.int _,_=>rfl
 |n+1,.nd .lst ds,h=>by
  have h:(decide (ds.length<=1000)&&ds.all (pl n))=true:=h;show(decide (ds.length<=1000)&&ds.all (pl (n+1)))=true;rw[Ke,KO] at h⊢;exact⟨h.1,λx hx=>my n x (h.2 x hx)⟩
 |n+1,.nd .tup ds,h=>by
  have h:(decide (ds.length<=1000)&&ds.all (pl n))=true:=h;show(decide (ds.length<=1000)&&ds.all (pl (n+1)))=true;rw[Ke,KO] at h⊢;exact⟨h.1,λx hx=>my n x (h.2 x hx)⟩
 |n+1,.nd (.dic _ _) ds,h=>by cases h
 |n+1,.nd (.obj _ _) ds,h=>by cases h
 |n+1,.non,h=>by cases h
 |n+1,.bl _,h=>by cases h
 |n+1,.str _,h=>by cases h
 |n+1,.scr _,h=>by cases h
theorem vZ{n:Nat}(h:pl n d=true):∀k,pl (n+k) d=true
 |0=>h
 |k+1=>my _ _ (vZ h k)
theorem v5{d:D}{n:Nat}(hn:n<=39)(h:pl n d=true):Gg [d]=some (Je d,d):=by
 have:=yK 39 d (by have:=vZ h (39-n);rwa [show n+(39-n)=39 by lia] at this);exact this
theorem qZ{n:Nat}{l:List Nat}:(l.map iD).all (pl n)=true:=by
 rw[KO];intro x hx;obtain⟨k,_,rfl⟩:=KW.mp hx
 cases n<;>rfl
theorem Cp(h:Ok c):pl 4 (cD c)=true:=by
 have h1:=h.bm;have h2:=h.bg;have h3:=h.bo
 have e1:pl 3 (.lst (c.mems.map aZ))=true:=by
  show(decide ((c.mems.map aZ).length<=1000)&&(c.mems.map aZ).all (pl 2))=true;rw[Ke,decide_eq_true_eq,Kc,KO];refine⟨by lia,λx hx=>?_⟩;obtain⟨m,_,rfl⟩:=KW.mp hx;rfl
 have e2:pl 3 (.lst (c.gates.map aF))=true:=by
  show(decide ((c.gates.map aF).length<=1000)&&(c.gates.map aF).all (pl 2))=true;rw[Ke,decide_eq_true_eq,Kc,KO];refine⟨by lia,λx hx=>?_⟩;obtain⟨g,hg,rfl⟩:=KW.mp hx;obtain⟨k,hk⟩:=Lx.mp hg;have h4:=(h.g k g hk).1;show(decide ((2:Nat)<=1000)&&(true&&((decide ((g.2.map iD).length<=1000)&&(g.2.map iD).all (pl 0))&&true)))=true;rw[qZ,Kc,decide_eq_true (show g.2.length<=1000 by lia)];rfl
 have e3:pl 3 (.lst (c.outs.map iD))=true:=by
  show(decide ((c.outs.map iD).length<=1000)&&(c.outs.map iD).all (pl 2))=true;rw[qZ,Kc,decide_eq_true (show c.outs.length<=1000 by lia)];rfl
 show(decide ((4:Nat)<=1000)&&(true&&(pl 3 (.lst (c.mems.map aZ))&&(pl 3 (.lst (c.gates.map aF))&&(pl 3 (.lst (c.outs.map iD))&&true)))))=true;rw[e1,e2,e3];rfl
structure J8(c c':Ci):Prop where
 ok:Ok c'
 i:c'.ins=c.ins
 m:c'.mems.length=c.mems.length
 g:c'.gates.length=c.gates.length
 o:c'.outs.length=c.outs.length
noncomputable abbrev RH(c:Ci)(d:D)(ms:List (Bool×Nat))(gs:List (Nat×List Nat))(os:List Nat)(x6 x7 x8 x9 x10:Option Sl):Ro:=[some ⟨false,k0,d⟩,ag (cD c),some ⟨false,k0,iD c.ins⟩,some ⟨false,k0,.lst (ms.map aZ)⟩,some ⟨false,k0,.lst (gs.map aF)⟩,some ⟨false,k0,.lst (os.map iD)⟩,x6,x7,x8,x9,x10]
theorem pM{z w:Bool}(ha:Wp (ba Γ a ρ) λx=>x=z)(hb:Wp (ba Γ b ρ) λx=>x=w):Wp (ba Γ (.bool .And (.cons a (.cons b .nil))) ρ) λx=>x=(z&&w):=cR (ha.mono λx e=>by
 subst e
 cases x with
 |true=>exact⟨λ_=>bC hb,λh=>absurd rfl h⟩
 |false=>exact⟨λh=>absurd h (by decide),λ_=>rfl⟩)
theorem jm{α:Type}{f:α->D}{l:List α}{k:Nat}{x:α}(hk:k<l.length)(ho:mz kd (f x)=true):gX [] .fz .lst (l.map f) (iD k) (kd,f x)=some (.lst,(l.set k x).map f):=by
 show(match iK (l.map f).length (k:Int) with|some j=>if cw (([]:List Ow).getD j .fz) (kd,f x)=true then some (Hd.lst,(l.map f).set j (f x)) else none|none=>none)=_
 rw[gY (by lia) (by rw[Kc];lia),KC];dsimp only;rw[if_pos (by exact ho),List.map_set]
theorem pN{α:Type}{P:α->Prop}{l:List α}{k:Nat}{x:α}(h:∀y∈l,P y)(hx:P x):∀y∈l.set k x,P y:=λy hy=>(LD hy).elim (h y) λe=>e▸hx
theorem GOk.put{n k:Nat}{gs:List (Nat×List Nat)}(h:GOk n gs)(hg:yF (n+k) g):GOk n (gs.set k g):=λj x hx=>by
 rw[List.getElem?_set] at hx;split at hx
 ·rename_i e;subst e;split at hx
  ·cases hx;exact hg
  ·cases hx
 ·exact h j x hx
theorem Cq{Γ:GG}{N:Nat}{pn:List Nat}{ρ:Ro}{Q:Res->Prop}{rest:bX}{i:Nat}{as:hV}{s:Sl}(h0:ρ[i]?=some (some s))(h:Wp (aY Γ as ρ) λp=>∃x y es r ds,p.1=[x,y]/\p.2[i]?=some (some ⟨false,.own es r,.nd .lst ds⟩)/\Wp (gX es r .lst ds y.2 (dC x.1 x.2,x.2)) λz=>Wp (aH Γ N rest pn (p.2.set i (some ⟨false,.own es r,.nd z.1 z.2⟩))) Q):Wp (aH Γ N (.cons (.putM i as) rest) pn ρ) Q:=by
 obtain⟨⟨kds,ρ1⟩,ea,x,y,es,r,ds,e1,e2,⟨hd',ds'⟩,ez,w⟩:=h;dsimp only at e1 e2 ez w;subst e1;refine cj ⟨.nx _,?_,br w⟩;rw[u4,ea,h0];unfold lw;dsimp only;rw[e2];dsimp only;rw[ez]
theorem pO{d:D}{c:Ci}{Q:Kd×D×List (Option jb)->Prop}(h:d7 d)(hc:Ok c)(q:∀c' d',J8 c c'->d7 d'->Q (.sh,cD c',[some (k0,d'),none])):Wp (E6 [(k0,d),(.fz,cD c)]) Q:=by
 have hci:=hc.bi;have hcm:=hc.bm;have hcg:=hc.bg;have hco:=hc.bo
 have last:∀(d:D) (ms:List (Bool×Nat)) (gs:List (Nat×List Nat)) (os:List Nat) (x6 x7 x8 x9 x10:Option Sl),ms.length=c.mems.length->gs.length=c.gates.length->os.length=c.outs.length->GOk (c.ins+c.mems.length) gs->(∀m∈ms,m.2<c.n)->(∀o∈os,o<c.n)->d7 d->Wp (aH Γ_21 1000 (match ER with|.cons _ (.cons _ (.cons _ (.cons _ r)))=>r|r=>r) [0] (RH c d ms gs os x6 x7 x8 x9 x10)) λr=>Wp (j5 2 [0] (some r)) Q:=by
  intro d ms gs os x6 x7 x8 x9 x10 h1 h2 h3 hG hm ho hS;unfold ER;refine n6 (aT (ao (bQ (ab (aa rfl (ab (aa rfl (ab (aa rfl (ab (aa rfl (ad (aV rfl ⟨rfl,fP rfl (q ⟨c.ins,ms,gs,os⟩ d ⟨⟨?_,λm hm'=>?_,λo ho'=>?_,hci,?_,?_,?_⟩,rfl,h1,h2,h3⟩ hS)⟩)))))))))))))
  ·show GOk (c.ins+ms.length) gs;rw[h1];exact hG
  ·show m.2<c.ins+ms.length+gs.length;rw[h1,h2];exact hm m hm'
  ·show o<c.ins+ms.length+gs.length;rw[h1,h2];exact ho o ho'
  ·show ms.length<=100;lia
  ·show gs.length<=100;lia
  ·show os.length<=100;lia
 unfold E6;refine sg rfl ?_;unfold ER at last⊢
 walk_at "nm"
 refine dW (ao (sM (φ:=Gg) (ds:=[cD c]) rfl (ab (aa rfl (ad ⟨rfl,rfl⟩))) (v5 (n:=4) (by decide) (Cp hc)) rfl ⟨_,_,_,rfl,rfl,⟨rfl,rfl⟩,?_⟩));show Wp (aH _ _ _ [0] (RH c d c.mems c.gates c.outs none none none none none)) _;refine aE (ao (ah (ah (aa rfl (g7 (ck (l:=c.mems) (.inl rfl) (aa rfl rfl)) (bc (g7 (ck (l:=c.gates) (.inl rfl) (aa rfl rfl)) (bc ⟨⟨rfl,by decide⟩,?_⟩))))))));have hn:c.n<1000:=by unfold Ci.n;lia
 show Wp (aH _ _ _ [0] (RH c d c.mems c.gates c.outs (ag (iD c.n)) none none none none)) _;refine aE (c5 (m:=4) rfl rfl h (ac rfl) (by decide) (by decide) λw d hw hS=>⟨⟨rfl,by decide⟩,?_⟩);show Wp (aH _ _ _ [0] (RH c d c.mems c.gates c.outs (ag (iD c.n)) (ag (iD w)) none none none)) _;refine a5 (pM (z:=decide ((w:Int)=0)) (w:=decide ((0:Int)<(c.mems.length:Int))) (aL (aa rfl (ac (eY rfl)))) (aL (g7 (ck (l:=c.mems) (.inl rfl) (aa rfl rfl)) (ac (fN rfl))))) (λe=>?_) λ_=>?_
 ·rw[Ke] at e;have hl:(0:Int)<(c.mems.length:Int):=of_decide_eq_true e.2;refine aE (c5 (m:=c.mems.length) rfl rfl hS (ck (l:=c.mems) (.inl rfl) (aa rfl rfl)) (by lia) (by lia) λk d hk hS=>⟨⟨rfl,by decide⟩,?_⟩);have em:c.mems[k]?=some c.mems[k]:=Kg hk;have hmk:=hc.m c.mems[k] (Lo hk);generalize c.mems[k]=mk at em hmk;have emD:(c.mems.map aZ)[k]?=some (aZ mk):=by rw[Kf,em];rfl
  have e1:(1:Int)-(mk.1.toNat:Int)=((!mk.1).toNat:Int):=by cases mk.1<;>rfl
  refine iV (ao (bQ (ab (ah (ac (aw (aw (aa rfl (aa rfl (aj (n:=k) (d:=aZ mk) (.inl rfl) rfl emD (ac (aj (n:=0) (.inr rfl) rfl rfl (ci (ab (aw (aw (aa rfl (aa rfl (aj (n:=k) (d:=aZ mk) (.inl rfl) rfl emD (ac (aj (n:=1) (.inr rfl) rfl rfl (ad (aV rfl (nX rfl (aa rfl (fj rfl rfl rfl ?_))))))))))))))))))))))))));show Wp (gX [] .fz .lst (c.mems.map aZ) (iD k) (.sh,.tup [.int ((1:Int)-(mk.1.toNat:Int)),iD mk.2])) _;rw[e1];refine eI (jm (f:=aZ) (x:=(!mk.1,mk.2)) hk rfl) (aN (br ?_));exact last d (c.mems.set k (!mk.1,mk.2)) c.gates c.outs _ _ _ _ _ (by simp) rfl rfl hc.g (pN hc.m hmk) hc.o hS
 refine a5 (pM (z:=decide ((w:Int)=1)) (w:=decide ((0:Int)<(c.mems.length:Int))) (aL (aa rfl (ac (eY rfl)))) (aL (g7 (ck (l:=c.mems) (.inl rfl) (aa rfl rfl)) (ac (fN rfl))))) (λe=>?_) λ_=>?_
 ·rw[Ke] at e;have hl:(0:Int)<(c.mems.length:Int):=of_decide_eq_true e.2;refine aE (c5 (m:=c.mems.length) rfl rfl hS (ck (l:=c.mems) (.inl rfl) (aa rfl rfl)) (by lia) (by lia) λk d hk hS=>⟨⟨rfl,by decide⟩,?_⟩);have em:c.mems[k]?=some c.mems[k]:=Kg hk;generalize c.mems[k]=mk at em;have emD:(c.mems.map aZ)[k]?=some (aZ mk):=by rw[Kf,em];rfl
  refine iV (cZ (aO (ao (aw (aw (aa rfl (aa rfl (aj (n:=k) (d:=aZ mk) (.inl rfl) rfl emD (ac (aj (n:=0) (.inr rfl) rfl rfl ⟨rfl,aU (c5 (m:=c.n) rfl rfl hS (aa rfl rfl) (by unfold Ci.n;lia) (by lia) λr d hr hS=>ad (aV rfl (nX rfl (aa rfl (fj rfl rfl rfl (eI (jm (f:=aZ) (x:=(mk.1,r)) hk rfl) (aN (br (aN (br ?_))))))))))⟩))))))))));exact last d (c.mems.set k (mk.1,r)) c.gates c.outs _ _ _ _ _ (by simp) rfl rfl hc.g (pN hc.m hr) hc.o hS
 refine a5 (pM (z:=decide ((w:Int)=2)) (w:=decide ((0:Int)<(c.outs.length:Int))) (aL (aa rfl (ac (eY rfl)))) (aL (g7 (ck (l:=c.outs) (.inl rfl) (aa rfl rfl)) (ac (fN rfl))))) (λe=>?_) λ_=>?_
 ·rw[Ke] at e;have hl:(0:Int)<(c.outs.length:Int):=of_decide_eq_true e.2
  have hn0:0<c.n:=by
   have:0<c.outs.length:=by lia
   exact Li (KJ _) (hc.o c.outs[0] (Lo this))
  refine Cq rfl (aO (c5 (m:=c.n) rfl rfl hS (aa rfl rfl) hn0 (by lia) λr d hr hS=>⟨rfl,aU (c5 (m:=c.outs.length) rfl rfl hS (ck (l:=c.outs) (.inl rfl) (aa rfl rfl)) (by lia) (by lia) λk d hk hS=>ad ⟨_,_,[],.fz,_,rfl,rfl,eI (jm (f:=iD) (x:=r) hk rfl) (aN (br (aN (br (aN (br ?_))))))⟩)⟩));exact last d c.mems c.gates (c.outs.set k r) _ _ _ _ _ rfl rfl (by simp) hc.g hc.m (pN hc.o hr) hS
 refine a5 (z:=decide ((0:Int)<(c.gates.length:Int))) (aL (g7 (ck (l:=c.gates) (.inl rfl) (aa rfl rfl)) (ac (fN rfl)))) (λe=>?_) λ_=>bw (aN (br (aN (br (aN (br ?_))))))
 ·have hl:(0:Int)<(c.gates.length:Int):=of_decide_eq_true e;refine aE (c5 (m:=c.gates.length) rfl rfl hS (ck (l:=c.gates) (.inl rfl) (aa rfl rfl)) (by lia) (by lia) λk d hk hS=>⟨⟨rfl,by decide⟩,?_⟩);have eg:c.gates[k]?=some c.gates[k]:=Kg hk;generalize c.gates[k]=g at eg;obtain⟨g1,g2,g3⟩:=hc.g k g eg;have egD:(c.gates.map aF)[k]?=some (aF g):=by rw[Kf,eg];rfl
  refine dW (ao (aw (aa rfl (aa rfl (aj (n:=k) (d:=aF g) (.inl rfl) rfl egD ⟨_,_,_,rfl,rfl,⟨rfl,rfl⟩,?_⟩)))));show Wp (aH _ _ _ [0] (RH c d c.mems c.gates c.outs (ag (iD c.n)) (ag (iD w)) (ag (iD k)) (ag (iD g.1)) (ag (.tup (g.2.map iD))))) _;have h8:2^g.2.length<=8:=KI (n:=2) (by decide) g1;have hsh:(1:Int)*2^((g.2.length:Int)).toNat=((2^g.2.length:Nat):Int):=by rw[KC];simp
  refine iV (cZ (aU (mr (aO (ao (aa rfl ⟨rfl,aU (mr (aO (ao (ac ⟨rfl,aU (c5 (m:=2^g.2.length) rfl rfl hS (ah (ac (g7 (ck (l:=g.2) (.inr (.inl rfl)) (aa rfl rfl)) (eE (vX g1).1 (congrArg (λz=>(Kd.sh,D.int z)) hsh))))) (LC _) (by lia) λr d hr hS=>ad ⟨_,_,rfl,eE ⟨by lia,by lia,by decide⟩ ?_⟩)⟩))))⟩))))));have e2:(1:Int)*2^((r:Int)).toNat=((2^r:Nat):Int):=by rw[KC];simp
  have hx:g.1 ^^^ 2^r<2^2^g.2.length:=Mv g2 (Nat.pow_lt_pow_right (by decide) hr);rw[e2];refine ad ⟨_,_,rfl,pE (ab (aa rfl (ad (aV rfl (nX rfl (aa rfl (fj rfl rfl rfl (eI (jm (f:=aF) (x:=(g.1 ^^^ 2^r,g.2)) hk rfl) (aN (br (aN (br (aN (br (aN (br ?_))))))))))))))))⟩;exact last d c.mems (c.gates.set k (g.1 ^^^ 2^r,g.2)) c.outs _ _ _ _ _ rfl (by simp) rfl (hc.g.put ⟨g1,hx,g3⟩) hc.m hc.o hS
 ·exact last d c.mems c.gates c.outs _ _ _ _ _ rfl rfl rfl hc.g hc.m hc.o hS
theorem Cr{Q:KD->Prop}{b:Bool}(q:Q (.sh,.int (if b then 1 else 0))):Wp (dR "int" [(k,.bl b)]) Q:=⟨_,rfl,q⟩
theorem pP:∀(n:Nat) (d:D) (m:Nat),pl n d=true->n<=m->fv m d=true
 |0,.int _,m,_,_=>by cases m<;>rfl
 |0,.nd hd ds,_,h,_=>by cases hd<;>cases h
 |0,.non,_,h,_=>by cases h
 |0,.bl _,_,h,_=>by cases h
 |0,.str _,_,h,_=>by cases h
 |0,.scr _,_,h,_=>by cases h
 |n+1,.int _,m,_,_=>by cases m<;>rfl
 |n+1,.nd .lst ds,m+1,h,hm=>by
  have h:(decide (ds.length<=1000)&&ds.all (pl n))=true:=h;rw[Ke,KO] at h;simp only[fv,Ke,decide_eq_true_eq];exact⟨by lia,g6 λx hx=>pP n x m (h.2 x hx) (by lia)⟩
 |n+1,.nd .tup ds,m+1,h,hm=>by
  have h:(decide (ds.length<=1000)&&ds.all (pl n))=true:=h;rw[Ke,KO] at h;simp only[fv,Ke,decide_eq_true_eq];exact⟨by lia,g6 λx hx=>pP n x m (h.2 x hx) (by lia)⟩
 |n+1,.nd hd ds,0,h,hm=>by lia
 |n+1,.nd (.dic _ _) ds,_,h,_=>by cases h
 |n+1,.nd (.obj _ _) ds,_,h,_=>by cases h
 |n+1,.non,_,h,_=>by cases h
 |n+1,.bl _,_,h,_=>by cases h
 |n+1,.str _,_,h,_=>by cases h
 |n+1,.scr _,_,h,_=>by cases h
theorem yL{a b:Ci}(ha:a.ins<=6)(h:Cl a b row fs):fv 90 (i6 row)=true:=by
 cases row with
 |none=>rfl
 |some r=>
  show fv (89+1) (.lst (r.map λx=>D.lst (x.map bD)))=true;simp only[fv,Ke,decide_eq_true_eq];refine⟨by lia,g6 λx hx=>?_⟩;obtain⟨y,_,rfl⟩:=KW.mp hx;exact n4 88 y
theorem v6{T:Bool->Prop}(h:fv 90 x=true)(q:T true):Wp (bI .Eq x x) T:=pp ⟨h,h⟩ (by rw[vp h];exact q)
theorem Jf:∀r,r<5->∃s0 s1 s2 s3:Nat,[D.lst [iD 2,iD 3,iD 6,iD 4],D.lst [iD 6,iD 1,iD 6,iD 4],D.lst [iD 4,iD 2,iD 6,iD 6],D.lst [iD 1,iD 4,iD 8,iD 6],D.lst [iD 2,iD 2,iD 9,iD 9]][r]?=some (.lst [iD s0,iD s1,iD s2,iD s3])/\s0<=6/\s1<=9/\s2<=9/\s3<=9/\∃most:Nat,(if decide ((s1:Int)<4)=true then(1:Int) else 0)=(most:Int)/\most<=1/\s1+(s1+most)<=8
 |0,_=>⟨2,3,6,4,rfl,by decide,by decide,by decide,by decide,1,rfl,by decide,by decide⟩
 |1,_=>⟨6,1,6,4,rfl,by decide,by decide,by decide,by decide,1,rfl,by decide,by decide⟩
 |2,_=>⟨4,2,6,6,rfl,by decide,by decide,by decide,by decide,1,rfl,by decide,by decide⟩
 |3,_=>⟨1,4,8,6,rfl,by decide,by decide,by decide,by decide,0,rfl,by decide,by decide⟩
 |4,_=>⟨2,2,9,9,rfl,by decide,by decide,by decide,by decide,1,rfl,by decide,by decide⟩
 |n+5,h=>by lia
structure Pq(a b:Ci):Prop where
 oa:Ok a
 ob:Ok b
 i:a.ins=b.ins
 o:a.outs.length=b.outs.length
 m:a.mems.length+b.mems.length<=8
noncomputable abbrev RL(ns:List Int)(d sz:D)(a b:Ci)(x5 x6 x7 x8:Option Sl):Ro:=[ag (.scr ns),some ⟨false,k0,d⟩,ag sz,ag (cD a),ag (cD b),x5,x6,x7,x8]
theorem yM{ns:List Int}{d sz:D}{a b:Ci}{x5:Option Sl}(h:Pq a b):Wp (aH Γ_30 1000 (match zt with|.cons _ (.cons _ (.cons _ (.cons _ (.cons _ (.cons _ r)))))=>r|r=>r) [] (RL ns d sz a b x5 none none none)) λr=>Wp (nS (some r)) λx=>x=(.sh,.bl true):=by
 unfold zt
 have hp:pl 5 (.tup [cD a,cD b])=true:=by
  show(decide ((2:Nat)<=1000)&&(pl 4 (cD a)&&(pl 4 (cD b)&&true)))=true;rw[Cp h.oa,Cp h.ob];rfl
 refine aE (ao (sM (φ:=Gg) (ds:=[.tup [cD a,cD b]]) rfl (ab (bQ (ab (aa rfl (ab (aa rfl (ad (aV rfl (ad ⟨rfl,rfl⟩))))))))) (v5 (n:=5) (by decide) hp) rfl ⟨⟨rfl,by decide⟩,?_⟩));refine n6 ?_;obtain⟨row,fs,hs,hF⟩:=sC h.oa h.ob h.i h.o h.m;show Wp (aH _ _ _ [] (RL ns d sz a b x5 (ag (.tup [cD a,cD b])) none none)) _;have two:∀{R:List KD->Prop} {x7 x8:Option Sl},R [(.sh,cD a),(.sh,cD b)]->Wp (aR Γ_30.fn (.cons (.ix (.var 6) (.lit (.int 0))) (.cons (.ix (.var 6) (.lit (.int 1))) .nil)) (RL ns d sz a b x5 (ag (.tup [cD a,cD b])) x7 x8)) R:=λr=>ab (aw (aa rfl (ac (aj (n:=0) (.inr rfl) rfl rfl (ab (aw (aa rfl (ac (aj (n:=1) (.inr rfl) rfl rfl (ad r))))))))))
 have isB:∀row,bW (dC .sh (i6 row))=false:=λrow=>by cases row<;>rfl
 have kk:∀row,(xO (dC .sh (i6 row)))=.fz:=λrow=>by cases row<;>rfl
 refine aE (ao (sM (φ:=ψ5) (ds:=[cD a,cD b]) rfl (two ⟨rfl,rfl⟩) (lE hs) rfl ⟨⟨isB row,by decide⟩,?_⟩));show Wp (aH _ _ _ [] (RL ns d sz a b x5 (ag (.tup [cD a,cD b])) (some ⟨false,xO (dC .sh (i6 row)),i6 row⟩) none)) _;rw[kk]
 refine aE (ao (sM (φ:=ψ6) (ds:=[cD a,cD b]) rfl (two ⟨rfl,rfl⟩) (vK hs) rfl ⟨⟨by cases row<;>rfl,by decide⟩,?_⟩))
 show Wp (aH _ _ _ [] (RL ns d sz a b x5 (ag (.tup [cD a,cD b])) (ag (i6 row)) (some ⟨false,xO (dC .sh (kr row fs)),kr row fs⟩))) _
 rw[show xO (dC .sh (kr row fs))=.fz by cases row<;>rfl]
 have hr:=yL h.oa.bi hF;have hcd:fv 90 (.tup [cD a,cD b])=true:=pP 5 _ 90 hp (by decide)
 have last:Wp (aH Γ_30 1000 (match zt with|.cons _ (.cons _ (.cons _ (.cons _ (.cons _ (.cons _ (.cons _ (.cons _ (.cons _ (.cons _ (.cons _ r))))))))))=>r|r=>r) [] (RL ns d sz a b x5 (ag (.tup [cD a,cD b])) (ag (i6 row)) (ag (kr row fs)))) λr=>Wp (nS (some r)) λx=>x=(.sh,.bl true):=by
  unfold zt;exact aT (ao (j7 (f9 (sM (φ:=ψ5) (ds:=[cD a,cD b]) rfl (two ⟨rfl,rfl⟩) (lE hs) rfl (aa rfl (v6 hr ⟨true,rfl,λ_=>j6 (f9 (aa rfl (bQ (ab (aa rfl (ab (aa rfl (ad (aV rfl (v6 hcd ⟨rfl,bv rfl rfl⟩)))))))))),λh=>absurd rfl h⟩))))))
 unfold zt at last
 cases row with
 |none=>
  refine a5 (z:=false) (cR (aL (aa rfl (ac ⟨false,rfl,λe=>absurd e (by decide),λ_=>rfl⟩)))) (λe=>by cases e) λ_=>bw ?_;refine a5 (z:=false) (cR (aL (aa rfl (ac ⟨true,rfl,λ_=>bC (ku (φ:=Fe) (ds:=[.lst (fs.map aM),cD a,cD b]) rfl (ab (aa rfl (ab (aa rfl (ab (aa rfl (ad rfl))))))) (sG h.oa h.ob h.i h.m hF)),λh=>absurd rfl h⟩)))) (λe=>by cases e) λ_=>bw last
 |some r=>
  refine a5 (z:=false) (cR (aL (aa rfl (ac ⟨true,rfl,λ_=>bC (hU (ku (φ:=Ff) (ds:=[gh r,cD a,cD b]) rfl (ab (aa rfl (ab (aa rfl (ab (aa rfl (ad rfl))))))) (vP h.oa h.ob h.i hF)) (bC (aL (aa rfl (ac ⟨false,rfl,rfl⟩))))),λh=>absurd rfl h⟩)))) (λe=>by cases e) λ_=>bw ?_;refine a5 (z:=false) (cR (aL (aa rfl (ac ⟨false,rfl,λe=>absurd e (by decide),λ_=>rfl⟩)))) (λe=>by cases e) λ_=>bw last
theorem FB{Γ:GG}{N:Nat}{pn:List Nat}{ρ:Ro}{Q:Res->Prop}{rest:bX}{i j:Nat}{es:fW}(h:Wp (aR Γ.fn es ρ) λl=>∃x y,l=[x,y]/\((mz x.1 x.2=true/\mz y.1 y.2=true)/\i≠j/\i∉pn/\j∉pn)/\Wp (aH Γ N rest pn (nJ [i,j] [x.2,y.2] [] .fz ρ)) Q):Wp (aH Γ N (.cons (.par i j es) rest) pn ρ) Q:=by
 obtain⟨l,el,x,y,rfl,hh,w⟩:=h;refine cj ⟨.nx _,?_,br w⟩;rw[xW,el];exact if_pos hh
theorem v7(ns:List Int)(hl:ns.length<=63):Fg [.scr ns]=some (.sh,.bl true):=by
 have fin:=@yM ns;unfold Fg;refine bS (cU rfl ?_);unfold zt at fin⊢
 walk_at "nm"
 refine aE (ao (bE (φ:=E2) rfl (ab (aa rfl (ad (bz (vR hl λd hS=>⟨rfl,.inl rfl,⟨rfl,by decide⟩,?_⟩)))))));refine aE (nU (aO (ao (bf (ab (bf (ab (ac (ab (ac (ab (ac (ab (ac (ad (bj rfl (ab (bf (ab (ac (ab (ac (ab (ac (ab (ac (ad (bj rfl (ab (bf (ab (ac (ab (ac (ab (ac (ab (ac (ad (bj rfl (ab (bf (ab (ac (ab (ac (ab (ac (ab (ac (ad (bj rfl (ab (bf (ab (ac (ab (ac (ab (ac (ab (ac (ad (bj rfl (ad (bj rfl ⟨rfl,aU (c5 (m:=5) rfl rfl hS (ac rfl) (by decide) (by decide) λr d hr hS=>ad ⟨_,_,rfl,?_⟩)⟩))))))))))))))))))))))))))))))))))))))))))))))))))))))))))))))))));obtain⟨s0,s1,s2,s3,es,g0,g1,g2,g3,most,em,hm1,hm8⟩:=Jf r hr;refine aj (n:=r) (d:=.lst [iD s0,iD s1,iD s2,iD s3]) (.inl rfl) rfl es ⟨⟨rfl,by decide⟩,?_⟩;show Wp (aH _ _ _ [] [ag (.scr ns),some ⟨false,k0,d⟩,ag (.lst [iD s0,iD s1,iD s2,iD s3]),none,none,none,none,none,none]) _;refine aE (lA (φ:=E4) rfl (gg (i:=1) rfl (eZ (ao (aa rfl ⟨rfl,gf ⟨by simp[cL],[(k0,d),(.fz,.lst [iD s0,iD s1,iD s2,iD s3])],rfl,pL hS g0 g1 g2 g3 λa d ha hb hS=>⟨rfl,rfl,⟨rfl,by decide⟩,?_⟩⟩⟩)))));show Wp (aH _ _ _ [] [ag (.scr ns),some ⟨false,k0,d⟩,ag (.lst [iD s0,iD s1,iD s2,iD s3]),ag (cD a),none,none,none,none,none]) _;have hbm:=hb.m;have hbg:=hb.g;refine aE (lA (φ:=E5) rfl (gg (i:=1) rfl (eZ (ao (aa rfl ⟨rfl,eZ (ao (bh (ab (f9 (aw (aa rfl (ac (aj (n:=1) (d:=iD s1) (.inl rfl) rfl rfl (ac (vd (ad (Cr ?_))))))))))))⟩)))));rw[em];refine⟨rfl,gf ⟨by simp[cL],[(k0,d),(.fz,cD a),(.fz,iD most)],rfl,mx hS ha (by lia) (by lia) hm1 λb d ho hS=>⟨rfl,rfl,⟨rfl,by decide⟩,?_⟩⟩⟩;have pr:Pq a b:=⟨ha,ho.ok,ho.i.symm,ho.o.symm,by have:=ho.m;lia⟩;show Wp (aH _ _ _ [] (RL ns d (.lst [iD s0,iD s1,iD s2,iD s3]) a b none none none none)) _;generalize D.lst [iD s0,iD s1,iD s2,iD s3]=sz;refine c7 (jk (c5 (m:=3) rfl rfl hS (ac rfl) (by decide) (by decide) λg d hg hS=>ff (bR (by lia) (by lia) (by lia) (by lia) (by lia)) ⟨λs ρ=>∃d b x5,ρ=RL ns d sz a b x5 none none none/\d7 d/\Pq a b,⟨d,b,none,rfl,hS,pr⟩,λs x ρ hd hI=>?_,λρ hI=>?_⟩))
 ·obtain⟨d,b,x5,rfl,hS,pr⟩:=hI;refine⟨[(5,x)],rfl,rfl,?_⟩;show Wp (aH _ _ _ [] (RL ns d sz a b (ag x) none none none)) _;exact aE (lA (φ:=E6) rfl (gg (i:=1) rfl (eZ (ao (aa rfl ⟨rfl,gf ⟨by simp[cL],[(k0,d),(.fz,cD b)],rfl,pO hS pr.ob λb' d hb' hS=>⟨rfl,rfl,⟨rfl,by decide⟩,aN ⟨_,.inl rfl,d,b',ag x,rfl,hS,⟨pr.oa,hb'.ok,pr.i.trans hb'.i.symm,pr.o.trans hb'.o.symm,by rw[hb'.m];exact pr.m⟩⟩⟩⟩⟩)))))
 ·obtain⟨d,b,x5,rfl,hS,pr⟩:=hI;show Wp (aH _ _ _ [] (RL ns d sz a b none none none none)) _;refine vk (ji (aU (c5 (m:=2) rfl rfl hS (ac rfl) (by decide) (by decide) λr d hr hS=>ab (ac (ad ⟨_,_,rfl,eY ⟨λe=>?_,λe=>bw ?_⟩⟩)))))
  ·exact FB (ab (aa rfl (ab (aa rfl (ad ⟨_,_,rfl,⟨⟨rfl,rfl⟩,by decide,by decide,by decide⟩,aN (br (fin (d:=d) (sz:=sz) (x5:=none) ⟨pr.ob,pr.oa,pr.i.symm,pr.o.symm,by have:=pr.m;lia⟩))⟩)))))
  ·exact fin pr
noncomputable abbrev Cs:Pos:=match vq with|.FunctionDef _ _ _ _ _ _ _ _ _ p=>p|_=>⟨0,0,0,0⟩
noncomputable abbrev sv(x:String)(t:Tok):Value:=.str (Str.ofString x) t
noncomputable abbrev E(P:Params)(x:String)(t:Tok)(v:Value):DictEntry:=⟨PyData.keyHash P (Str.ofString x),.str (Str.ofString x) t,v⟩
noncomputable abbrev fO(x:String)(st:Stmt)(m:Value)(c:Addr):Obj:=⟨.type "function",none,.func (Lh (Str.ofString x) (Str.ofString x) (dI st) (bZ st) (ae st) .none .none .none m none (.ref c) .none),#[]⟩
noncomputable abbrev mL:Value:=sv "law_gatepapers_k55_changed_and_judged" 379
noncomputable abbrev cO(x:String)(t:Nat)(l n:Int)(r:Addr)(b:Bool)(q:Addr)(A B C:Value)(s:Addr)(u:Nat):Obj:=⟨.type "code",none,.fields #[sv x t,sv x (t+1),sv "/claim/cut.py" (t+2),.int l 0,.int n 0,.int 0 0,.int 0 0,.int 3 0,.ref r,.bool b,.int 181 0,.ref q,A,B,C,.ref s,.int u 0,.int l 0,sv "/claim/cut.py" (u+1)],#[]⟩
noncomputable def KK(P:Params):Ka:=[(3,⟨(.type "dict"),none,(.dict #[E P "__name__" 165 mL,E P "__doc__" 166 .none,E P "__package__" 167 .none,E P "__loader__" 168 (.builtin "__main__.__loader__#opaque"),E P "__spec__" 169 .none,E P "__annotations__" 170 (.ref 6),E P "__builtins__" 171 (.ref 4),E P "__file__" 173 (sv "/claim/cut.py" 172),E P "__cached__" 174 .none,E P "bits_of" 194 (.ref 19),E P "first_of" 202 (.ref 24),E P "all_trials" 211 (.ref 31),E P "column_of" 222 (.ref 38),E P "column_told" 228 (.ref 43),E P "GateError" 248 (.ref 53),E P "TooGreat" 264 (.ref 66),E P "Unlike" 280 (.ref 78),E P "MOST_INS" 284 (.int 6 283),E P "MOST_PAIRS" 286 (.int 300 285),E P "parted" 296 (.ref 87),E P "pairs" 306 (.ref 94),E P "search" 322 (.ref 101),E P "refuse_unlike" 330 (.ref 108),E P "refuse_many" 337 (.ref 115),E P "key_of" 344 (.ref 122),E P "rising_bits" 352 (.ref 129),E P "pair_turns" 366 (.ref 136),E P "all_turns" 372 (.ref 141),E P "trial_bits" 378 (.ref 146),E P "_law_next" 389 (.ref 153),E P "_law_state" 395 (.ref 158),E P "_law_gate" 407 (.ref 165),E P "_law_circuit" 413 (.ref 170),E P "_law_copied" 419 (.ref 175),E P "_law_some" 427 (.ref 182),E P "_law_otherwise" 433 (.ref 187),E P "_law_changed" 450 (.ref 194),E P "_law_values" 465 (.ref 201),E P "_law_turn" 471 (.ref 206),E P "_law_first" 477 (.ref 211),E P "_law_choices" 483 (.ref 216),E P "_law_is_bits" 492 (.ref 223),E P "_law_is_row" 498 (.ref 228),E P "_law_closed" 516 (.ref 235),E P "_law_parts" 531 (.ref 242),E P "law" 546 (.ref 249)] 46),#[]⟩),
 (19,fO "bits_of" s0 (sv "gatepapers.bits" 187) 18),
 (18,cO "bits_of" 189 2 2 15 true 16 .none .none .none 17 192),
 (24,fO "first_of" s1 (sv "gatepapers.circuits" 195) 23),
 (23,cO "first_of" 197 5 1 20 true 21 .none .none .none 22 200),
 (31,fO "all_trials" s2 (sv "gatepapers.columns" 203) 30),
 (30,cO "all_trials" 205 8 1 25 true 26 .none (.ref 27) (.ref 28) 29 209),
 (38,fO "column_of" s3 (sv "gatepapers.columns" 203) 37),
 (37,cO "column_of" 212 10 2 32 true 33 .none (.ref 34) (.ref 35) 36 220),
 (43,fO "column_told" s4 (sv "gatepapers.columns" 203) 42),
 (42,cO "column_told" 223 18 3 39 true 40 .none .none .none 41 226),
 (87,fO "parted" s5 (sv "gatepapers.judge" 281) 86),
 (86,cO "parted" 287 33 2 81 true 82 .none (.ref 83) (.ref 84) 85 294),
 (94,fO "pairs" s6 (sv "gatepapers.judge" 281) 93),
 (93,cO "pairs" 297 36 2 88 true 89 .none (.ref 90) (.ref 91) 92 304),
 (101,fO "search" s7 (sv "gatepapers.judge" 281) 100),
 (100,cO "search" 307 39 2 95 true 96 .none (.ref 97) (.ref 98) 99 320),
 (108,fO "refuse_unlike" s8 (sv "gatepapers.judge" 281) 107),
 (107,cO "refuse_unlike" 323 57 2 102 true 103 .none (.ref 104) (.ref 105) 106 328),
 (115,fO "refuse_many" s9 (sv "gatepapers.judge" 281) 114),
 (114,cO "refuse_many" 331 62 1 109 true 110 .none (.ref 111) (.ref 112) 113 335),
 (122,fO "key_of" FN (sv "gatepapers.judge" 281) 121),
 (121,cO "key_of" 338 65 1 116 true 117 .none (.ref 118) (.ref 119) 120 342),
 (129,fO "rising_bits" FO (sv "gatepapers.judge" 281) 128),
 (128,cO "rising_bits" 345 67 2 123 true 124 .none (.ref 125) (.ref 126) 127 350),
 (136,fO "pair_turns" FQ (sv "gatepapers.judge" 281) 135),
 (135,cO "pair_turns" 353 69 3 130 true 131 .none (.ref 132) (.ref 133) 134 364),
 (141,fO "all_turns" s13 (sv "gatepapers.judge" 281) 140),
 (140,cO "all_turns" 367 74 2 137 true 138 .none .none .none 139 370),
 (146,fO "trial_bits" FR (sv "gatepapers.judge" 281) 145),
 (145,cO "trial_bits" 373 83 2 142 true 143 .none .none .none 144 376),
 (153,fO "_law_next" FS mL 152),
 (152,cO "_law_next" 381 86 2 147 true 148 .none (.ref 149) (.ref 150) 151 387),
 (158,fO "_law_state" FT mL 157),
 (157,cO "_law_state" 390 95 1 154 true 155 .none .none .none 156 393),
 (165,fO "_law_gate" FU mL 164),
 (164,cO "_law_gate" 396 100 2 159 true 160 .none (.ref 161) (.ref 162) 163 405),
 (170,fO "_law_circuit" FV mL 169),
 (169,cO "_law_circuit" 408 109 2 166 true 167 .none .none .none 168 411),
 (175,fO "_law_copied" FW mL 174),
 (174,cO "_law_copied" 414 121 1 171 true 172 .none .none .none 173 417),
 (182,fO "_law_some" FX mL 181),
 (181,cO "_law_some" 420 127 2 176 true 177 .none (.ref 178) (.ref 179) 180 425),
 (187,fO "_law_otherwise" FY mL 186),
 (186,cO "_law_otherwise" 428 129 3 183 true 184 .none .none .none 185 431),
 (194,fO "_law_changed" FZ mL 193),
 (193,cO "_law_changed" 434 148 2 188 true 189 .none (.ref 190) (.ref 191) 192 448),
 (201,fO "_law_values" rS mL 200),
 (200,cO "_law_values" 451 165 3 195 true 196 .none (.ref 197) (.ref 198) 199 463),
 (206,fO "_law_turn" y9 mL 205),
 (205,cO "_law_turn" 466 173 3 202 true 203 .none .none .none 204 469),
 (211,fO "_law_first" Ga mL 210),
 (210,cO "_law_first" 472 176 1 207 true 208 .none .none .none 209 475),
 (216,fO "_law_choices" Gb mL 215),
 (215,cO "_law_choices" 478 178 1 212 true 213 .none .none .none 214 481),
 (223,fO "_law_is_bits" Gc mL 222),
 (222,cO "_law_is_bits" 484 180 2 217 true 218 .none (.ref 219) (.ref 220) 221 490),
 (228,fO "_law_is_row" Gd mL 227),
 (227,cO "_law_is_row" 493 187 2 224 true 225 .none .none .none 226 496),
 (235,fO "_law_closed" Ge mL 234),
 (234,cO "_law_closed" 499 189 3 229 true 230 .none (.ref 231) (.ref 232) 233 514),
 (242,fO "_law_parts" Gf mL 241),
 (241,cO "_law_parts" 517 208 3 236 true 237 .none (.ref 238) (.ref 239) 240 529),
 (249,fO "law" vq mL 248),
 (248,cO "law" 532 219 1 243 true 244 .none (.ref 245) (.ref 246) 247 544)]
noncomputable def HH:PySem.W.Hook:=PySem.W.kHook KK [3,19,18,24,23,31,30,38,37,43,42,87,86,94,93,101,100,108,107,115,114,122,121,129,128,136,135,141,140,146,145,153,152,158,157,165,164,170,169,175,174,182,181,187,186,194,193,201,200,206,205,211,210,216,215,223,222,228,227,235,234,242,241,249,248] (λ_=>rfl)
noncomputable def qv:Program:=PySem.W.view PySem.Challenge.pw_gatepapers_k55_changed_and_judged [42]
noncomputable def lo:List Str:=(["__name__","bits_of","first_of","all_trials","column_of","column_told","GateError","TooGreat","Unlike","MOST_INS","MOST_PAIRS","parted","pairs","search","refuse_unlike","refuse_many","key_of","rising_bits","pair_turns","all_turns","trial_bits","_law_next","_law_state","_law_gate","_law_circuit","_law_copied","_law_some","_law_otherwise","_law_changed","_law_values","_law_turn","_law_first","_law_choices","_law_is_bits","_law_is_row","_law_closed","_law_parts"]:List String).map Str.ofString
theorem left:PySem.W.LeftO (PySem.Challenge.rw_gatepapers_k55_changed_and_judged).row.toRowW.prog qv lo (λs=>PySem.W.xlAt qv [] s&&PySem.W.recOk (PySem.W.RowW.records (PySem.Challenge.rw_gatepapers_k55_changed_and_judged).row.toRowW) s) (PySem.W.Hook.obs HH) (PySem.W.Hook.val HH) 20000:=λw=>by kernel_rfl
theorem d9{P:Params}{h:Heap}{mg:Str->Option Value}(X:(KK P).In h)(G:h.Ns mainGlobals mg){x:Str}{v:Value}(e:LL (KK P) mainGlobals x=some (some v)):mg x=some v:=PySem.W.mg_of X G e
theorem fm{P:Params}(x:String)(st:Stmt)(f:Addr)(m:Value)(c:Addr)(h:(KK P).lookup f=some (fO x st m c):=by kernel_rfl)(k:LR (KK P) (.ref c) (Str.ofString x)=true:=by kernel_rfl)(j:K3 (KK P) (.ref f)=true:=by kernel_rfl):Fun (KK P) (Str.ofString x) (Str.ofString x) st f (Lh (Str.ofString x) (Str.ofString x) (dI st) (bZ st) (ae st) .none .none .none m none (.ref c) .none):=Am h k j
theorem Ct{l:PySem.W.OpenLaw}{w:World}{P:Params}{h:Heap}{mg:Str->Option Value}{fa:Addr}(X:(KK P).In h)(G:h.Ns mainGlobals mg)(hfa:mg "law" = some (.ref fa)):∃fd:FuncData,(∀(s:Shared) (v:Value),BindsTo s fd ⟨[v],[]⟩ [("_law_script",v)])/\∀base:Heap,(KK P).In base->base.Ns mainGlobals mg->FnOk l.prog w (KK P) mg base p4 72 fa fd ["_law_script"] (v9 (KK P) Fg):=by
 have e:=hfa.symm.trans (d9 X G (v:=.ref 249) (by kernel_rfl));cases e;have F0:=fm (P:=P) "bits_of" s0 19 (sv "gatepapers.bits" 187) 18;have B0:=F0.binds (ps:=["number","width"]) λ_ _ _ _ _ _=>us2 (λ_ _=>rfl);have F1:=fm (P:=P) "first_of" s1 24 (sv "gatepapers.circuits" 195) 23;have B1:=F1.binds (ps:=["circuit"]) λ_ _ _ _ _ _=>ye (λ_=>rfl);have F2:=fm (P:=P) "all_trials" s2 31 (sv "gatepapers.columns" 203) 30;have B2:=F2.binds (ps:=["many"]) λ_ _ _ _ _ _=>ye (λ_=>rfl);have F3:=fm (P:=P) "column_of" s3 38 (sv "gatepapers.columns" 203) 37;have B3:=F3.binds (ps:=["k","many"]) λ_ _ _ _ _ _=>us2 (λ_ _=>rfl);have F4:=fm (P:=P) "column_told" s4 43 (sv "gatepapers.columns" 203) 42;have B4:=F4.binds (ps:=["table","columns","whole"]) λ_ _ _ _ _ _=>BR (λ_ _ _=>rfl);have F5:=fm (P:=P) "parted" s5 87 (sv "gatepapers.judge" 281) 86;have B5:=F5.binds (ps:=["one","other"]) λ_ _ _ _ _ _=>us2 (λ_ _=>rfl);have F6:=fm (P:=P) "pairs" s6 94 (sv "gatepapers.judge" 281) 93;have B6:=F6.binds (ps:=["one","other"]) λ_ _ _ _ _ _=>us2 (λ_ _=>rfl);have F7:=fm (P:=P) "search" s7 101 (sv "gatepapers.judge" 281) 100;have B7:=F7.binds (ps:=["one","other"]) λ_ _ _ _ _ _=>us2 (λ_ _=>rfl);have F8:=fm (P:=P) "refuse_unlike" s8 108 (sv "gatepapers.judge" 281) 107;have B8:=F8.binds (ps:=["one","other"]) λ_ _ _ _ _ _=>us2 (λ_ _=>rfl);have F9:=fm (P:=P) "refuse_many" s9 115 (sv "gatepapers.judge" 281) 114;have B9:=F9.binds (ps:=["many"]) λ_ _ _ _ _ _=>ye (λ_=>rfl);have F10:=fm (P:=P) "key_of" FN 122 (sv "gatepapers.judge" 281) 121;have B10:=F10.binds (ps:=["pair"]) λ_ _ _ _ _ _=>ye (λ_=>rfl);have F11:=fm (P:=P) "rising_bits" FO 129 (sv "gatepapers.judge" 281) 128;have B11:=F11.binds (ps:=["number","many"]) λ_ _ _ _ _ _=>us2 (λ_ _=>rfl);have F12:=fm (P:=P) "pair_turns" FQ 136 (sv "gatepapers.judge" 281) 135;have B12:=F12.binds (ps:=["one","other","pair"]) λ_ _ _ _ _ _=>BR (λ_ _ _=>rfl);have F13:=fm (P:=P) "all_turns" s13 141 (sv "gatepapers.judge" 281) 140;have B13:=F13.binds (ps:=["circuit","state"]) λ_ _ _ _ _ _=>us2 (λ_ _=>rfl);have F14:=fm (P:=P) "trial_bits" FR 146 (sv "gatepapers.judge" 281) 145;have B14:=F14.binds (ps:=["columns","number"]) λ_ _ _ _ _ _=>us2 (λ_ _=>rfl);have F15:=fm (P:=P) "_law_next" FS 153 mL 152;have B15:=F15.binds (ps:=["_law_state_here","_law_many"]) λ_ _ _ _ _ _=>us2 (λ_ _=>rfl);have F16:=fm (P:=P) "_law_state" FT 158 mL 157;have B16:=F16.binds (ps:=["_law_script"]) λ_ _ _ _ _ _=>ye (λ_=>rfl);have F17:=fm (P:=P) "_law_gate" FU 165 mL 164;have B17:=F17.binds (ps:=["_law_state_here","_law_below"]) λ_ _ _ _ _ _=>us2 (λ_ _=>rfl);have F18:=fm (P:=P) "_law_circuit" FV 170 mL 169;have B18:=F18.binds (ps:=["_law_state_here","_law_most"]) λ_ _ _ _ _ _=>us2 (λ_ _=>rfl);have F19:=fm (P:=P) "_law_copied" FW 175 mL 174;have B19:=F19.binds (ps:=["_law_thing"]) λ_ _ _ _ _ _=>ye (λ_=>rfl);have F20:=fm (P:=P) "_law_some" FX 182 mL 181;have B20:=F20.binds (ps:=["_law_state_here","_law_row"]) λ_ _ _ _ _ _=>us2 (λ_ _=>rfl);have F21:=fm (P:=P) "_law_otherwise" FY 187 mL 186;have B21:=F21.binds (ps:=["_law_state_here","_law_circuit_here","_law_most"]) λ_ _ _ _ _ _=>BR (λ_ _ _=>rfl);have F22:=fm (P:=P) "_law_changed" FZ 194 mL 193;have B22:=F22.binds (ps:=["_law_state_here","_law_circuit_here"]) λ_ _ _ _ _ _=>us2 (λ_ _=>rfl);have F23:=fm (P:=P) "_law_values" rS 201 mL 200;have B23:=F23.binds (ps:=["_law_circuit_here","_law_state_here","_law_ins"]) λ_ _ _ _ _ _=>BR (λ_ _ _=>rfl);have F24:=fm (P:=P) "_law_turn" y9 206 mL 205;have B24:=F24.binds (ps:=["_law_circuit_here","_law_state_here","_law_ins"]) λ_ _ _ _ _ _=>BR (λ_ _ _=>rfl);have F25:=fm (P:=P) "_law_first" Ga 211 mL 210;have B25:=F25.binds (ps:=["_law_circuit_here"]) λ_ _ _ _ _ _=>ye (λ_=>rfl);have F26:=fm (P:=P) "_law_choices" Gb 216 mL 215;have B26:=F26.binds (ps:=["_law_many"]) λ_ _ _ _ _ _=>ye (λ_=>rfl);have F27:=fm (P:=P) "_law_is_bits" Gc 223 mL 222;have B27:=F27.binds (ps:=["_law_row","_law_many"]) λ_ _ _ _ _ _=>us2 (λ_ _=>rfl);have F28:=fm (P:=P) "_law_is_row" Gd 228 mL 227;have B28:=F28.binds (ps:=["_law_row","_law_many"]) λ_ _ _ _ _ _=>us2 (λ_ _=>rfl);have F29:=fm (P:=P) "_law_closed" Ge 235 mL 234;have B29:=F29.binds (ps:=["_law_found","_law_one","_law_other"]) λ_ _ _ _ _ _=>BR (λ_ _ _=>rfl);have F30:=fm (P:=P) "_law_parts" Gf 242 mL 241;have B30:=F30.binds (ps:=["_law_found","_law_one","_law_other"]) λ_ _ _ _ _ _=>BR (λ_ _ _=>rfl);have F31:=fm (P:=P) "law" vq 249 mL 248;have B31:=F31.binds (ps:=["_law_script"]) λ_ _ _ _ _ _=>ye (λ_=>rfl);refine⟨Lh "law" "law" (dI vq) (bZ vq) (ae vq) .none .none .none mL none (.ref 248) .none,λs v=>.of_eq rfl,λbase _ _=>?_⟩
 have T0:TabF l.prog w (KK P) mg base (cX fns Γ0) 0:=⟨λx φ hx=>by (have hx:(bF x fns.fns).bind Γ0.fn=some φ:=hx;cases q:bF x fns.fns<;>rw[q] at hx<;>cases hx),(λc fs C hc _=>nomatch (show([]:List (Str×List Str)).lookup c=some fs from hc)),λx φ hx=>by (have hx:(bF x fns.fns).bind (λi=>(Γ0.fm i).map λφ=>λK=>zb K φ)=some φ:=hx;cases q:bF x fns.fns<;>rw[q] at hx<;>cases hx),(λx hx=>by
  simp only[aJ,Kn,K1,or_false] at hx;rcases hx with rfl|rfl|rfl|rfl|rfl|rfl|rfl|rfl|rfl|rfl|rfl|rfl|rfl|rfl|rfl|rfl|rfl|rfl|rfl|rfl|rfl
  all_goals exact PySem.W.mg_none_of X G (by kernel_rfl)),λx d hx=>by
  have hx:Me x ([("MOST_INS",D.int 6),("MOST_PAIRS",D.int 300)]:List (Str×D))=some d:=hx;simp only[Me] at hx;split at hx
  ·rename_i e;have e:=eq_of_beq e;subst e;cases hx;exact⟨_,.int 6,d9 X G (v:=(.int 6 283)) (by kernel_rfl),⟨_,rfl⟩,λH S=>(by unfold Rp;rfl),by decide⟩
  ·split at hx
   ·rename_i e;have e:=eq_of_beq e;subst e;cases hx;exact⟨_,.int 300,d9 X G (v:=(.int 300 285)) (by kernel_rfl),⟨_,rfl⟩,λH S=>(by unfold Rp;rfl),by decide⟩
   ·cases hx⟩
 have T1:=T0.addI (i:=0) (ψ:=ψ0) F0 JO (d9 X G (v:=.ref 19) (by kernel_rfl)) B0 rfl rfl JN λ_=>Le.refl _;have T2:=T1.addI (i:=1) (ψ:=ψ1) F1 JQ (d9 X G (v:=.ref 24) (by kernel_rfl)) B1 rfl rfl JP λ_=>Le.refl _;have T3:=T2.addI (i:=2) (ψ:=ψ2) F2 JS (d9 X G (v:=.ref 31) (by kernel_rfl)) B2 rfl rfl JR λ_=>Le.refl _;have T4:=T3.addI (i:=3) (ψ:=ψ3) F3 JU (d9 X G (v:=.ref 38) (by kernel_rfl)) B3 rfl rfl JT λ_=>Le.refl _;have T5:=T4.addI (i:=4) (ψ:=ψ4) F4 JW (d9 X G (v:=.ref 43) (by kernel_rfl)) B4 rfl rfl JV λ_=>Le.refl _;have T6:=T5.addI (i:=8) (ψ:=ψ8) F8 J5 (d9 X G (v:=.ref 108) (by kernel_rfl)) B8 rfl rfl J4 λ_=>Le.refl _;have T7:=T6.addI (i:=9) (ψ:=ψ9) F9 J7 (d9 X G (v:=.ref 115) (by kernel_rfl)) B9 rfl rfl J6 λ_=>Le.refl _;have T8:=T7.addI (i:=10) (ψ:=BZ) F10 HJ (d9 X G (v:=.ref 122) (by kernel_rfl)) B10 rfl rfl HI λ_=>Le.refl _;have T9:=T8.addI (i:=11) (ψ:=EZ) F11 HM (d9 X G (v:=.ref 129) (by kernel_rfl)) B11 rfl rfl HL λ_=>Le.refl _;have T10:=T9.addI (i:=14) (ψ:=zu) F14 HW (d9 X G (v:=.ref 146) (by kernel_rfl)) B14 rfl rfl HV λ_=>Le.refl _;have T11:=T10.addI (i:=13) (ψ:=CI) F13 HS (d9 X G (v:=.ref 141) (by kernel_rfl)) B13 rfl rfl HR λ_=>Le.refl _;have T12:=T11.addI (i:=12) (ψ:=E1) F12 HQ (d9 X G (v:=.ref 136) (by kernel_rfl)) B12 rfl rfl HP λ_=>Le.refl _;have T13:=T12.addI (i:=7) (ψ:=ψ7) F7 J3 (d9 X G (v:=.ref 101) (by kernel_rfl)) B7 rfl rfl J2 λ_=>Le.refl _;have T14:=T13.addI (i:=5) (ψ:=ψ5) F5 JY (d9 X G (v:=.ref 87) (by kernel_rfl)) B5 rfl rfl JX λ_=>Le.refl _;have T15:=T14.addI (i:=6) (ψ:=ψ6) F6 J1 (d9 X G (v:=.ref 94) (by kernel_rfl)) B6 rfl rfl JZ λ_=>Le.refl _;have T16:=T15.addM (i:=15) (ψ:=CJ) (pn:=[0]) F15 HZ (d9 X G (v:=.ref 153) (by kernel_rfl)) B15 rfl rfl HY λ_=>Le.refl _;have T17:=T16.addI (i:=16) (ψ:=E2) F16 Ib (d9 X G (v:=.ref 158) (by kernel_rfl)) B16 rfl rfl Ia λ_=>Le.refl _;have T18:=T17.addM (i:=17) (ψ:=E3) (pn:=[0]) F17 Ie (d9 X G (v:=.ref 165) (by kernel_rfl)) B17 rfl rfl Ic λ_=>Le.refl _;have T19:=T18.addM (i:=18) (ψ:=E4) (pn:=[0]) F18 Ii (d9 X G (v:=.ref 170) (by kernel_rfl)) B18 rfl rfl Ih λ_=>Le.refl _;have T20:=T19.recI (i:=19) (M:=1000) F19 Ik (d9 X G (v:=.ref 175) (by kernel_rfl)) B19 rfl rfl Ij 40;have T21:=T20.addM (i:=20) (ψ:=Ca) (pn:=[0]) F20 Io (d9 X G (v:=.ref 182) (by kernel_rfl)) B20 rfl rfl Im λ_=>Le.refl _;have T22:=T21.addM (i:=21) (ψ:=E5) (pn:=[0]) F21 Iq (d9 X G (v:=.ref 187) (by kernel_rfl)) B21 rfl rfl Ip λ_=>Le.refl _;have T23:=T22.addM (i:=22) (ψ:=E6) (pn:=[0]) F22 Iu (d9 X G (v:=.ref 194) (by kernel_rfl)) B22 rfl rfl Ir λ_=>Le.refl _;have T24:=T23.addI (i:=23) (ψ:=E7) F23 Ix (d9 X G (v:=.ref 201) (by kernel_rfl)) B23 rfl rfl Iw λ_=>Le.refl _;have T25:=T24.addI (i:=24) (ψ:=zw) F24 IA (d9 X G (v:=.ref 206) (by kernel_rfl)) B24 rfl rfl Iz λ_=>Le.refl _;have T26:=T25.addI (i:=25) (ψ:=zx) F25 ID (d9 X G (v:=.ref 211) (by kernel_rfl)) B25 rfl rfl IC λ_=>Le.refl _;have T27:=T26.addI (i:=26) (ψ:=E8) F26 IH (d9 X G (v:=.ref 216) (by kernel_rfl)) B26 rfl rfl IG λ_=>Le.refl _;have T28:=T27.addI (i:=27) (ψ:=Cb) F27 IL (d9 X G (v:=.ref 223) (by kernel_rfl)) B27 rfl rfl IK λ_=>Le.refl _;have T29:=T28.addI (i:=28) (ψ:=E9) F28 IP (d9 X G (v:=.ref 228) (by kernel_rfl)) B28 rfl rfl IN λ_=>Le.refl _;have T30:=T29.addI (i:=29) (ψ:=Fe) F29 IV (d9 X G (v:=.ref 235) (by kernel_rfl)) B29 rfl rfl IU λ_=>Le.refl _;have T31:=T30.addI (i:=30) (ψ:=Ff) F30 IY (d9 X G (v:=.ref 242) (by kernel_rfl)) B30 rfl rfl IX λ_=>Le.refl _;exact(qN (n:=60) (an:=an) F31 I0 T31 IZ).imp λvs H Q E s=>u9 (λ_=>Le.refl _) s
theorem Jg{l:PySem.W.OpenLaw}{YP:World->Heap->Prop}{d:DefRec}{K:Params->Ka}(hn:l.most=some 63)(hdf:d.params.defaults=[])(hY:∀(w:World) (h:Heap),YP w h->(K w.params).In h)(F:∀(w:World) (mg:Str->Option Value) (fa:Addr) (h:Heap),(K w.params).In h->h.Ns mainGlobals mg->mg d.name=some (.ref fa)->
   ∃fd:FuncData,(∀(s:Shared) (u:Value),BindsTo s fd ⟨[u],[]⟩ [("_law_script",u)])/\∀base:Heap,(K w.params).In base->base.Ns mainGlobals mg->FnOk l.prog w (K w.params) mg base p4 72 fa fd ["_law_script"] (v9 (K w.params) Fg)) :
  PySem.W.WalkO q loose XP YP l.row.toRowW d [] (λf vs=>PySem.call f vs):=
 L2.wD (n:=63) (k:=72) (x:="_law_script") (CX:=λ_=>p4) (sp:=λw=>v9 (K w.params) Fg) hn (by decide) hdf ⟨rfl,by decide,by decide,rfl⟩ hY F (λ_ _ a ns hl _ hS=>BQ hS (v7 ns hl)) λ_ _ _ _ _ z=>z
end K55
open PySem PySem.W PyProof.Rows
set_option maxRecDepth 100000 in
set_option maxHeartbeats 0 in
theorem PySem.Challenge.cw_gatepapers_k55_changed_and_judged_holds : PySem.Challenge.rw_gatepapers_k55_changed_and_judged.Holds := by
 refine holds_law (by kernel_rfl) λsaid=>?_;refine holds_open (d:=⟨"law",L2.dI K55.vq,L2.bZ K55.vq,L2.ae K55.vq,K55.Cs⟩) (kwd:=[]) (q:=K55.qv) (loose:=K55.lo) (XP:=XL K55.qv []) (YP:=Hook.says K55.HH) K55.left (Hook.of K55.HH) (Hook.keeps K55.HH) (λs e=>xl_of s (LN.mp e).1) XL.keeps (by kernel_rfl) (by kernel_rfl) (by kernel_rfl) (λs e=>recFacts_of (LN.mp e).2) (by kernel_rfl) said (by kernel_rfl) ⟨rfl,rfl,rfl,rfl,rfl,by kernel_rfl⟩ ?hw ?hc
 case hw=>w_witness2
 case hc=>
  refine K55.Jg (l:=PySem.Challenge.rw_gatepapers_k55_changed_and_judged) rfl rfl (λw h Y=>PySem.W.kIn_of Y) ?F;intro w mg fa h KX G hmg;exact K55.Ct KX G hmg
end
