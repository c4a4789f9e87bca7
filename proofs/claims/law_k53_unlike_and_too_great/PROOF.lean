import PyProof.Rows.All
import Wide.All
import OpenK.AllK
import Wide.FinOn
import PyProof.TupleKey
import Lean
import PyProof.EqAt
import PyProof.EqKinds
import PyProof.TupleCall
import KE.KRevSl
import KE.KUnpack
import PyProof.SumAny
import PyProof.WalksS
import PyProof.NeKinds
import PyProof.ZipIter
import PyProof.WalkInts
import PyProof.AttrMissHeap
import KE.KDictOf
import PyProof.ListRange
import PyProof.StrWalks
import PyProof.StrOps2
import PyProof.Rows.SetFrom
import PyProof.P3Eq
import PyProof.NeData
import PyProof.P3In
import KE.KEqDict
import PyProof.IsRules
import PyProof.ReprRoads
import PyProof.ReprBulk
import PyProof.ReprRoom
import PyProof.CallFns
import PyProof.Rows.SeqRoads
import PyProof.ListOps
import PyProof.CollectWalk
import PyProof.Rows.SortShell
import PyProof.CollectStr
import PyProof.Rows.SortWalk
import KE.KRevIter
import PyProof.ListNew
import PyProof.SeqI3
import KE.BitLaws
import PySem.Challenge.RW_gatepapers_k53_unlike_and_too_great
set_option Elab.async false
set_option linter.all false
set_option maxRecDepth 100000
set_option autoImplicit true
set_option relaxedAutoImplicit true
set_option genInjectivity false
set_option genSizeOf false
set_option genSizeOfSpec false
set_option maxHeartbeats 4000000
noncomputable section
open PySem.W renaming Frag->MW,keepIn->NC,kia_one->NM,kitOne->NW,fnOf->N0,findIn->Oh,nsIn->OB,codeIn->OL,mg_none_of->OQ,methodObj->OU,instObj->O2,cellsFrom_some->O6,lookIn->Pb,specialIn->Pu,kitx_list->Pv,kitx_dict->Pw,plainGet->PD,isFn->PR
open Bool renaming and_eq_true->MX,false_ne_true->NQ,false_eq_true->NZ,or_eq_true->Oa,not_eq_true'->Ov,and_eq_true_iff->OE,not_true->OS,true->PX,false->PY
open List renaming length_map->MY,getElem?_eq_some_iff->MZ,getElem?_map->M0,replicate->M3,range->M4,mem_cons->M7,getElem?_eq_getElem->Na,size_toArray->Nc,getElem?_set_self->Nd,getD_eq_getElem?_getD->Nf,mem_cons_of_mem->Ng,getElem?_set_ne->Nh,mem_append_right->Nj,map_map->Nl,mem_cons_self->Nm,length_range->Nn,lookup_cons->No,getElem?_range->Np,filterMap_cons->Nr,map_cons->Nu,map_append->Nw,getElem?_append_right->Nx,all_eq_true->Ny,getElem?_append_left->Nz,nodup_cons->NB,length_append->ND,findIdx?_cons->NE,length_cons->NF,not_mem_nil->NH,replicate_succ->NI,mem_map->NK,getElem?_eq_none->NL,length_take->NN,map_congr_left->NP,mem_of_getElem?->NS,length_replicate->N1,find?_cons->N2,mem_append_left->N3,drop_eq_getElem_cons->N4,cons_append->N7,all_cons->N9,flatten_cons->Oe,findIdx?_map->Of,take_add_one->Og,take_length->Oi,append_nil->On,mem_filterMap->Op,getElem?_replicate->Os,reverse_cons->Ou,map->Oz,getElem?_mapIdx->OC,range_succ->OH,mem_range->OK,length->ON,contains_cons->OO,of_mem_zip->O3,length_nil->O4,lookup->O8,take_append_drop->Pe,foldl->Pf,findIdx?_isSome->Pg,any_cons->Ph,map_nil->Pl,mem_singleton->Pn,set_cons_succ->Pp,any_eq_false->Pt,append_assoc->Px,ext_getElem?->Pz,length_drop->PF,drop_length->PJ,mem_filter->PL,mem_append->PM,length_set->PN,nil_append->PP,forIn_cons->PQ
open PySem.Heap renaming lt_size->M5,get?_push_of_some->Nb,get?_push_size->Nt,size_push->OM,get?_update_other->O7,get?_update_self->Pc
open Nat renaming lt_of_lt_of_le->M6,le_refl->M8,ne_of_lt->Ni,lcm->Nk,le_trans->Nq,lt_of_le_of_lt->NA,zero_le->NG,lt_succ_self->NR,pow_le_pow_right->NT,lt_irrefl->NU,le_add_right->NV,sub_mod_eq_zero_of_mod_eq->NX,mod_lt->N5,ne_of_gt->N6,eq_zero_or_pos->Oc,dvd_of_mod_eq_zero->Od,add_le_add_right->Oj,mod_eq_of_lt->Ol,add_le_add_left->Om,two_pow_pos->Oo,lt_trans->Oq,add_sub_cancel_left->Ot,add_mod_right->Ox,le_succ->Oy,le_of_lt->OA,sub_self->OF,not_lt_zero->OI,add_assoc->OR,le_of_succ_le->OV,lt_succ_of_lt->OW,gcd->OX,pow_succ->OZ,dvd_lcm_left->O1,mod_eq_zero_of_dvd->O9,mod_mod->Pa,mul_assoc->Pi,zero_mod->Pq,pos_of_ne_zero->Ps,dvd_lcm_right->PB,lt_of_not_le->PH,succ_ne_zero->PK
open Int renaming toNat_natCast->NJ,natCast_emod->N8,natAbs_natCast->Ob,natCast_mul->OG,natCast_add->OJ,emod_lt_of_pos->OP,fdiv_eq_ediv_of_nonneg->OT,zero_add->O0,emod_nonneg->O5,sub_zero->Po
open Option renaming bind_some->NO,bind_eq_some_iff->NY,map_some->OD,getD_none->OY,isSome_some->Pm,isSome_map->Py,some->PU,none->PV
open Array renaming length_toList->Pj,forIn_toList->Pk
open PySem renaming Value->PZ,Expr->P0,Addr->P1,Shared->P2,wpAny_bind->P3,wpAny->P4,model->P5,Program->P6,wpAny_pure->P7,World->P8,Stmt->P9,Heap->Qa,starEach->Qb,Around->Qc,Operator->Qd,Scope->Qe,cellsFrom->Qf,behindInMarks->Qg,mainGlobals->Qh,assignEach->Qi,NameKind->Qj,FuncData->Qk,CmpOp->Ql,wpAny_passesOwn->Qm,wpAny_holding->Qn,wpAny_truthy_bool->Qo,wpAny_newObj_type->Qp,wpAny_call_entry->Qq,rawInt->Qr
namespace PySem
open Sem (wp)
section
variable {prog:P6} {w:P8} {K:Type} [DecidableEq K] (knd:KeyKind prog w K)
inductive Its2 (h:Heap):Nat->List (K ⊕ List K)->List Value->Prop
 |nil {m:Nat}:Its2 h m [] []
 |key {m:Nat} {k:K} {v:PZ} {xs:List (K ⊕ List K)} {vs:List PZ}:m%2=0->knd.is k v=PX->Its2 h (m / 2) xs vs->Its2 h m (.inl k::xs) (v::vs)
 |tup {m:Nat} {ks:List K} {b:P1} {xs:List (K ⊕ List K)} {vs:List PZ}:m%2=1->IsTupleKey knd h ks b->Its2 h (m / 2) xs vs->Its2 h m (.inr ks::xs) (.ref b::vs)
noncomputable def IsDeep(m:Nat)(h:Qa)(xs:List (K ⊕ List K))(a:P1):Prop:=∃o items n,h.get? a=PU o/\o.cls=.type "tuple"/\o.data=.seq items n/\Its2 knd h m xs items.toList
noncomputable def dD:K ⊕ List K->Int
 |.inl k=>knd.hash k
 |.inr ks=>tupleKeyHash knd ks
noncomputable def cQ:K ⊕ List K->Nat
 |.inl _=>1
 |.inr ks=>ks.length+1
noncomputable def kf(xs:List (K ⊕ List K)):Int:=reduceHash (Builtin.Tuple.tupleHashOf (xs.map (dD knd)))
variable {knd}
theorem Its2.inj{m:Nat}(hx:Its2 knd h m x vs)(hy:Its2 knd h m y vs):x=y:=by
 induction hx generalizing y with
 |nil=>cases hy;rfl
 |key e h1 _ ih=>
  cases hy with
  |key _ h2 t2=>rw[knd.inj _ _ _ h1 h2,ih t2]
  |tup e2 _ _=>lia
 |tup e h1 _ ih=>
  cases hy with
  |key e2 _ _=>lia
  |tup _ h2 t2=>rw[h1.inj h2,ih t2]
theorem Its2.keeps{m:Nat}(k:∀ks b,IsTupleKey knd h ks b->IsTupleKey knd h' ks b)(hx:Its2 knd h m x vs):Its2 knd h' m x vs:=by
 induction hx with
 |nil=>exact .nil
 |key e h1 _ ih=>exact .key e h1 ih
 |tup e h1 _ ih=>exact .tup e (k _ _ h1) ih
theorem IsDeep.ty{s:P2}{m:Nat}(x:IsDeep knd m s.heap xs a):s.TypeIs (.ref a) "tuple":=by
 unfold IsDeep at x;rcases x with⟨o,_,_,g,c,_⟩;exact⟨o,g,c⟩
theorem IsDeep.one{m:Nat}(p:IsDeep knd m h x a)(q:IsDeep knd m h y a):x=y:=by
 unfold IsDeep at p q;rcases p with⟨o,i,n,g,_,d,r⟩;rcases q with⟨o2,i2,n2,g2,_,d2,r2⟩;cases g.symm.trans g2;cases d.symm.trans d2;exact r.inj r2
theorem IsDeep.stay{h h':Qa}{m:Nat}{o:Obj}{es ep}(x:IsDeep knd m h xs a)(g:h.get? d=PU o)(e:o.data=.dict es ep)(q:Heap.SameBut d h h'):IsDeep knd m h' xs a:=by
 unfold IsDeep at x⊢;rcases x with⟨o2,i,n,g2,c,d2,r⟩;refine⟨o2,i,n,?_,c,d2,r.keeps λks b z=>z.keeps g e q⟩;refine(q.2 a λz=>?_).trans g2;rw[z,g] at g2;cases g2;rw[e] at d2;cases d2
variable {A:Qc} {E:PZ->P2->Prop} {s:P2}
theorem g9{m:Nat}{xs:List (K ⊕ List K)}{Q:Int->P2->Prop}(hu:A.units+8<cLine)(hk:IsDeep knd m s.heap xs a)(h:Q (kf knd xs) { s with toks:=s.toks+((xs.map cQ).sum+1) }) :
  P4 (P5 prog w) A (pyHash (.ref a)) Q E s:=by
 have ty:=hk.ty;have lk:=F.slot_tuple_hash.lookup;rcases hk with⟨o,its,n,g,c,d,r⟩
 have turn:∀(rest:List PZ) (b:Array Int) (z:P2) (v:PZ),(∃done left m',xs=done++left/\Its2 knd s.heap m' left (v::rest)/\b.toList=done.map (dD knd)/\z={ s with toks:=s.toks+(done.map cQ).sum })->
   ∃i k,(∀(A:Qc) (R:Int->P2->Prop),A.units<cLine->R i { z with toks:=z.toks+k }->P4 (P5 prog w) A (pyHash v) R E z)/\∃done left m',xs=done++left/\Its2 knd s.heap m' left rest/\(b.push i).toList=done.map (dD knd)/\{ z with toks:=z.toks+k }={ s with toks:=s.toks+(done.map cQ).sum }:=by
  rintro rest b z v ⟨done,left,m',e,it,eb,rfl⟩
  cases it with
  |@key _ k _ left' _ _ h1 it'=>
   exact⟨knd.hash k,1,λA R _ q=>knd.pyHash h1 q,done++[.inl k],left',m' / 2,by simp[e],it',by simp[eb,dD],by simp[cQ,OR]⟩
  |@tup _ ks _ left' _ _ h1 it'=>
   exact⟨tupleKeyHash knd ks,ks.length+1,λA R u q=>wpAny_pyHash_tuple (knd:=knd) u h1 q,done++[.inr ks],left',m' / 2,by simp[e],it',by simp[eb,dD],by simp[cQ,OR]⟩
 unfold pyHash
 first|unfold pyHashByItsType|skip
 first|refine P3 (wpAny_cRoomFor_or (.inr (by lia)) ?_)|skip
 refine P3 (wpAny_specialOf ty lk ((if_neg (show ¬(PU (Value.builtin "tuple.__hash__")==PU Value.none)=PX by rw[beq_builtin_none];exact NQ)).symm▸P3 (wpAny_specialOf ty lk (P3 (wpAny_callSpecialIfBoundUnlessNone?_slot ty F.slot_tuple_hash (Qq F.slot_tuple_hash ty F.entry_tuple_hash (show P4 _ _ (Builtin.Tuple.tupleItemsOf (.ref a) >>= _) _ _ s from P3 (wpAny_tupleItemsOf g d (P3 ?_))) (F.args_tuple_hash_1 _)))))));rw[<- Pk];refine wpAny_forIn_list _ (λrest (b:Array Int) z=>∃done left m',xs=done++left/\Its2 knd s.heap m' left rest/\b.toList=done.map (dD knd)/\z={ s with toks:=s.toks+(done.map cQ).sum }) _ (λv rest b z hz=>?_) (λb z hz=>?_) _ _ ⟨[],xs,m,rfl,r,rfl,rfl⟩
 ·obtain⟨i,k,run,lH⟩:=turn rest b z v hz
  exact P3 (run _ _ (by first|lia|(show _+1<_;lia)) (by first|exact P7 lH|exact P3 (P7 (P7 lH))))
 ·obtain⟨done,left,m',e,it,eb,rfl⟩:=hz;cases it;have e':done=xs:=by rw[e,On]
  subst e';show P4 _ _ (retInt (Builtin.Tuple.tupleHashOf b.toList)) _ _ _;rw[eb];refine wpAny_ret_mkInt ?_;unfold kf reduceHash at h;generalize Builtin.Tuple.tupleHashOf (done.map (dD knd))=y at h⊢
  show P4 _ _ (if(decide (-(2:Int)^63<=y)&&decide (y<2^63))=PX then _ else _) Q E _
  split
  ·rename_i hr;rw[if_pos hr] at h;exact P7 (by simpa[OR] using h)
  ·rename_i hr;rw[if_neg hr] at h;exact P3 (wpAny_rule (P7 (by simpa[OR] using h)))
theorem Its2.two{h:Qa}{m:Nat}{us vs:List PZ}(p:Its2 knd h m x us)(q:Its2 knd h m y vs)(z:(u,v)::rest=us.zip vs) :
  ∃(i j:K ⊕ List K) (x2 y2:List (K ⊕ List K)) (us2 vs2:List PZ),x=i::x2/\y=j::y2/\us=u::us2/\vs=v::vs2/\Its2 knd h (m / 2) x2 us2/\Its2 knd h (m / 2) y2 vs2/\rest=us2.zip vs2/\
   ∀(A:Qc) (E:PZ->P2->Prop) (s:P2) (Q:Bool->P2->Prop),s.heap=h->A.units<cLine->Q (decide (i=j)) s->P4 (P5 prog w) A (eqBool u v) Q E s:=by
 cases p with
 |nil=>cases z
 |@key _ k1 u' x2 us2 e h1 p2=>
  cases q with
  |nil=>cases z
  |@key _ k2 v' y2 vs2 e2 h2 q2=>
   cases z;exact⟨_,_,_,_,_,_,rfl,rfl,rfl,rfl,p2,q2,rfl,λA E s Q es u qq=>knd.eqBool h1 h2 (by simpa using qq)⟩
  |tup e2 _ _=>lia
 |@tup _ k1 b1 x2 us2 e h1 p2=>
  cases q with
  |nil=>cases z
  |key e2 _ _=>lia
  |@tup _ k2 b2 y2 vs2 e2 h2 q2=>
   cases z;exact⟨_,_,_,_,_,_,rfl,rfl,rfl,rfl,p2,q2,rfl,λA E s Q es u qq=>wpAny_eqBool_tuple u (es▸h1) (es▸h2) (by simpa using qq)⟩
theorem Its2.ends{m:Nat}{us vs:List PZ}(p:Its2 knd h m x us)(q:Its2 knd h m y vs)(z:us.zip vs=[]):(us.length==vs.length)=decide (x=y):=by
 cases p<;>cases q<;>first|rfl|(simp at z;done)|simp
theorem mJ{m:Nat}{P:Fin->P2->Prop}(hu:A.units+4<cLine)(hx:IsDeep knd m s.heap x a)(hy:IsDeep knd m s.heap y b)(h:P (.done (.ret (.bool (decide (x=y))))) s) :
  P4 (P5 prog w) A (Builtin.«tuple.__eq__» ⟨[.ref a,.ref b],[]⟩) P E s:=by
 have ty:=hy.ty;rcases hx with⟨o,us,n,g,c,d,p⟩;rcases hy with⟨o2,vs,n2,g2,c2,d2,q⟩;refine(show P4 _ _ (isInstance (.ref b) (.type "tuple") >>= _) _ _ s from P3 (wpAny_isInstance ty isSubtype_tuple_tuple ?_));simp only[OS,NZ,if_false];refine P3 (wpAny_tupleItemsOf g d (P3 (wpAny_tupleItemsOf g2 d2 (P3 ?_))));refine wpAny_forIn_list _ (λrest r z=>r.1=PV/\z=s/\∃m' x' y' us' vs',rest=List.zip us' vs'/\Its2 knd s.heap m' x' us'/\Its2 knd s.heap m' y' vs'/\decide (x'=y')=decide (x=y)/\(us'.length==vs'.length)=(us.size==vs.size))
  _ (λuv rest r z hz=>?_) (λr z hz=>?_) _ _ ⟨rfl,rfl,m,x,y,us.toList,vs.toList,rfl,p,q,rfl,by simp⟩
 ·obtain⟨u,v⟩:=uv;obtain⟨hr,rfl,m',x',y',us',vs',e,p',q',hd,hl⟩:=hz;obtain⟨i,j,x2,y2,us2,vs2,rfl,rfl,rfl,rfl,p2,q2,rfl,run⟩:=p'.two q' e;refine P3 (run _ _ _ _ rfl (by lia) ?_)
  cases hk:decide (i=j) with
  |true=>
   have hk:=of_decide_eq_true hk;subst hk;simp only[OS,NZ,if_false];exact P7 ⟨rfl,rfl,m' / 2,x2,y2,us2,vs2,rfl,p2,q2,hd▸by simp,by simpa using hl⟩
  |false=>
   have hk:=of_decide_eq_false hk;simp only[Bool.not_false,if_true];have hf:decide (x=y)=PY:=hd▸by simp[hk]
   exact P3 (P7 (P7 (P7 (hf▸h))))
 ·obtain⟨r1,r2⟩:=r;obtain⟨hr,rfl,m',x',y',us',vs',e,p',q',hd,hl⟩:=hz;cases(show r1=PV from hr);refine P7 ?_;show P (.done (.ret (.bool (us.size==vs.size)))) z;rw[<- hl,p'.ends q' e.symm,hd];exact h
theorem hJ{m:Nat}{Q:Bool->P2->Prop}(hu:A.units+8<cLine)(hx:IsDeep knd m s.heap x a)(hy:IsDeep knd m s.heap y b)(h:Q (decide (x=y)) s) :
  P4 (P5 prog w) A (eqBool (.ref a) (.ref b)) Q E s:=by
 unfold eqBool
 try with_reducible refine Qn ?_
 refine(show P4 _ _ (if(Value.ref a==Value.ref b)=PX then _ else _) Q E s from ?_)
 split
 ·rename_i hab;cases eq_of_beq hab;cases hx.one hy;exact P3 (wpAny_rule (P7 (by simpa using h)))
 ·have tree:=mJ (E:=E) (A:=A.in1) (P:=λfin s'=>∃v,fin=Fin.done (Flow.ret v)/\v≠.notImplemented/\P4 (P5 prog w) A (truthOfDropped v) Q E s') (by show A.units+1+4<cLine;lia) hx hy ⟨_,rfl,(λe=>nomatch e),Qo h⟩
  exact P3 (wpAny_richCompare_same_room (op:=.Eq) hx.ty hy.ty F.slot_tuple_eq (Qq F.slot_tuple_eq hx.ty F.entry_tuple_eq tree (F.args_tuple_eq_2 _ _)) (by lia))
theorem oA{n:Nat}{o:Obj}{its:Array PZ}{ep:Nat}{Q:Bool->P2->Prop}(g:s.heap.get? a=PU o)(c:o.cls=.type "tuple")(d:o.data=.seq its ep)(hi:∀v∈its.toList,∀R:Bool->P2->Prop,R PX s->P4 (P5 prog w) A (eqIsQuiet n v) R E s)(q:Q PX s) :
  P4 (P5 prog w) A (eqIsQuiet (n+1) (.ref a)) Q E s:=by
 have ty:s.TypeIs (.ref a) "tuple":=⟨o,g,c⟩;unfold eqIsQuiet;refine P3 (wpAny_specialOf ty F.slot_tuple_eq.lookup (show P4 _ _ (isInstance (.ref a) (.type "tuple") >>= _) _ _ s from P3 (wpAny_isInstance ty isSubtype_tuple_tuple ?_)));simp only[OS,NZ,if_false];refine P3 (wpAny_seqItems g d (P3 (show P4 _ _ (forIn its _ _) _ _ s from ?_)));rw[<- Pk];refine wpAny_forIn_list _ (λrest r z=>r.1=PV/\z=s/\∀v∈rest,v∈its.toList) _ (λv rest r z hz=>?_) (λr z hz=>?_) _ _ ⟨rfl,rfl,λv hv=>hv⟩
 ·obtain⟨hr,rfl,hm⟩:=hz;refine P3 (hi v (hm v Nm) _ ?_);simp only[OS,NZ,if_false];exact P7 ⟨rfl,rfl,λu hu=>hm u (Ng _ hu)⟩
 ·obtain⟨r1,r2⟩:=r;obtain⟨hr,rfl,_⟩:=hz;cases(show r1=PV from hr);exact P7 q
theorem Its2.items{m:Nat}{vs:List PZ}(p:Its2 knd h m x vs):∀v∈vs,(∃k,knd.is k v=PX)\/∃ks b,v=.ref b/\IsTupleKey knd h ks b:=by
 induction p with
 |nil=>intro v hv;cases hv
 |key _ h1 _ ih=>intro v hv;exact(M7.mp hv).elim (λe=>.inl ⟨_,e▸h1⟩) (ih v)
 |tup _ h1 _ ih=>intro v hv;exact(M7.mp hv).elim (λe=>.inr ⟨_,_,e,h1⟩) (ih v)
theorem qi{m:Nat}{Q:Bool->P2->Prop}(hk:IsDeep knd m s.heap xs a)(h:Q PX s):P4 (P5 prog w) A (eqIsQuiet 8 (.ref a)) Q E s:=by
 rcases hk with⟨o,its,n,g,c,d,r⟩;refine oA (n:=7) g c d (λv hv R q=>?_) h;rcases r.items v hv with⟨k,e⟩|⟨ks,b,rfl,o2,its2,n2,g2,c2,d2,r2⟩
 ·rw[eqIsQuiet_byValue _ (knd.byValue _ _ e)];exact P7 q
 ·refine oA (n:=6) g2 c2 d2 (λv hv R q=>?_) q;rw[eqIsQuiet_byValue _ (r2.byValue v hv)];exact P7 q
end
noncomputable def dE{prog:P6}{w:P8}{K:Type}[DecidableEq K](m:Nat)(knd:KeyKind prog w K):HeapKind prog w (List (K ⊕ List K)) where
 is:=IsDeep knd m
 hash:=kf knd
 draws:=λxs=>(xs.map cQ).sum+1
 room:=λA=>A.units+8<cLine
 inj:=λp q=>p.one q
 keeps:=λx g e q=>x.stay g e q
 pyHash:=λhu hk h=>g9 hu hk h
 eqBool:=λhu hx hy h=>hJ hu hx hy h
 quiet:=λhk h=>qi hk h
end PySem
namespace L2
open PySem PySem.Spec PyProof.Rows
noncomputable abbrev aS:=Sum Int Str
noncomputable def lI:aS->PZ->Bool
 |.inl k,v=>Value.isInt k v
 |.inr x,v=>Value.isStrOf x v
noncomputable def JM(w:P8):aS->Int
 |.inl k=>hashInt k
 |.inr x=>hashStr w x
theorem bu:∀{k:aS} {v:PZ},lI k v=PX->(∃i t,k=Sum.inl i/\v=Value.int i t)\/(∃x t,k=Sum.inr x/\v=Value.str x t)
 |.inl i,v,h=>by
  obtain⟨t,e⟩:=Value.isInt_shape (k:=i) (v:=v) h;exact .inl ⟨i,t,rfl,e⟩
 |.inr x,v,h=>by
  obtain⟨t,e⟩:=Value.isStrOf_shape (x:=x) (v:=v) h;exact .inr ⟨x,t,rfl,e⟩
theorem uB(i:Int)(t:Tok):lI (.inl i) (.int i t)=PX:=by simp[lI,Value.isInt]
theorem uC(x:Str)(t:Tok):lI (.inr x) (.str x t)=PX:=by simp[lI,Value.isStrOf]
theorem CT(a b:Int):decide ((Sum.inl a:aS)=Sum.inl b)=(a==b):=by
 by_cases e:a=b
 ·subst e;simp
 ·have h:¬(Sum.inl a:aS)=Sum.inl b:=λq=>e (Sum.inl.inj q);rw[decide_eq_false h];exact(beq_eq_false_iff_ne.mpr e).symm
theorem CU(a b:Str):decide ((Sum.inr a:aS)=Sum.inr b)=decide (a=b):=by
 by_cases e:a=b
 ·subst e;simp
 ·have h:¬(Sum.inr a:aS)=Sum.inr b:=λq=>e (Sum.inr.inj q);rw[decide_eq_false h,decide_eq_false e]
theorem CV(a:Int)(b:Str):decide ((Sum.inl a:aS)=Sum.inr b)=PY:=decide_eq_false (λq=>nomatch q)
theorem CW(a:Str)(b:Int):decide ((Sum.inr a:aS)=Sum.inl b)=PY:=decide_eq_false (λq=>nomatch q)
noncomputable def br(prog:P6)(w:P8):PySem.KeyKind prog w aS where
 is:=lI
 hash:=JM w
 inj:=λv a b ha hb=>by
  rcases bu ha with⟨i,t,rfl,rfl⟩|⟨x,t,rfl,rfl⟩
  ·rcases bu hb with⟨j,u,rfl,e⟩|⟨y,u,rfl,e⟩
   ·injection e with e1 _;rw[e1]
   ·exact nomatch e
  ·rcases bu hb with⟨j,u,rfl,e⟩|⟨y,u,rfl,e⟩
   ·exact nomatch e
   ·injection e with e1 _;rw[e1]
 byValue:=λk v h=>by
  rcases bu h with⟨i,t,rfl,rfl⟩|⟨x,t,rfl,rfl⟩<;>rfl
 pyHash:=λhv h=>by
  rcases bu hv with⟨i,t,rfl,rfl⟩|⟨x,t,rfl,rfl⟩
  ·exact wpAny_pyHash_int h
  ·exact wpAny_pyHash_str h
 eqBool:=λhu hv h=>by
  rcases bu hu with⟨i,t,rfl,rfl⟩|⟨x,t,rfl,rfl⟩
  ·rcases bu hv with⟨j,u,rfl,rfl⟩|⟨y,u,rfl,rfl⟩
   ·rw[CT] at h;exact wpAny_eqBool_int h
   ·rw[CV] at h;exact SeqAt.EqAt.int_str i t y u _ _ _ _ h
  ·rcases bu hv with⟨j,u,rfl,rfl⟩|⟨y,u,rfl,rfl⟩
   ·rw[CW] at h;exact SeqAt.EqAt.str_int x t j u _ _ _ _ h
   ·rw[CU] at h;exact wpAny_eqBool_str h
 «strs»:=λk x t v h=>by
  rcases bu h with⟨i,u,rfl,e⟩|⟨y,u,rfl,e⟩
  ·exact nomatch e
  ·injection e with e1 _;subst e1
   cases v<;>rfl
theorem oB(prog:P6)(w:P8)(i:Int)(t:Tok):(br prog w).is (.inl i) (.int i t)=PX:=uB i t
theorem oC(prog:P6)(w:P8)(x:Str)(t:Tok):(br prog w).is (.inr x) (.str x t)=PX:=uC x t
end L2
namespace L2
open PySem PySem.Spec PyProof.Rows
inductive V where
 |non|bl (b:Bool)|int (i:Int)|str (x:Str)|byt (b:Array UInt8)|flt (b:UInt64)|ref (a:P1)|ty (n:String)
 deriving DecidableEq
noncomputable def RelV:V->PZ->Prop
 |.non,u=>u=Value.none
 |.bl b,u=>u=Value.bool b
 |.int i,u=>∃t,u=Value.int i t
 |.str x,u=>∃t,u=Value.str x t
 |.byt b,u=>∃t,u=Value.bytes b t
 |.flt b,u=>∃t,u=Value.float b t
 |.ref a,u=>u=Value.ref a
 |.ty n,u=>u=Value.type n
noncomputable abbrev Vals:List V->List PZ->Prop:=Paired RelV
theorem Vals.length{xs:List V}{us:List PZ}(r:Vals xs us):xs.length=us.length:=Paired.length r
theorem Vals.get:∀{xs:List V} {us:List PZ} {i:Nat} {x:V},Vals xs us->xs[i]?=PU x->∃u,us[i]?=PU u/\RelV x u
 |_,_,_,_,.nil,e=>by simp at e
 |_,_,0,_,.cons r _,e=>by simp at e;subst e;exact⟨_,rfl,r⟩
 |_,_,i+1,x,.cons _ t,e=>by
  obtain⟨u,h1,h2⟩:=Vals.get (i:=i) (x:=x) t (by simpa using e);exact⟨u,by simpa using h1,h2⟩
theorem Vals.set(r:RelV x u):∀{xs:List V} {us:List PZ} (i:Nat),Vals xs us->Vals (xs.set i x) (us.set i u)
 |_,_,_,.nil=>.nil
 |_,_,0,.cons _ t=>.cons r t
 |_,_,i+1,.cons q t=>.cons q (Vals.set r i t)
theorem Vals.append:∀{xs ys:List V} {us ws:List PZ},Vals xs us->Vals ys ws->Vals (xs++ys) (us++ws)
 |_,_,_,_,.nil,s=>s
 |_,_,_,_,.cons r t,s=>.cons r (Vals.append t s)
theorem Vals.take:∀{xs:List V} {us:List PZ} (n:Nat),Vals xs us->Vals (xs.take n) (us.take n)
 |_,_,0,_=>.nil
 |_,_,_+1,.nil=>.nil
 |_,_,n+1,.cons r t=>.cons r (Vals.take n t)
theorem Vals.drop:∀{xs:List V} {us:List PZ} (n:Nat),Vals xs us->Vals (xs.drop n) (us.drop n)
 |_,_,0,r=>r
 |_,_,_+1,.nil=>.nil
 |_,_,n+1,.cons _ t=>Vals.drop n t
noncomputable def RelO:Option V->Option PZ->Prop
 |some v,PU u=>RelV v u
 |none,PV=>True
 |_,_=>False
noncomputable def KV{κ:Type}:List (κ×V)->List (κ×PZ)->Prop:=Paired λ(p:κ×V) (q:κ×PZ)=>p.1=q.1/\RelV p.2 q.2
noncomputable def kV:aS->V
 |.inl i=>.int i
 |.inr x=>.str x
inductive HO where
 |lst (xs:List V)
 |tup (xs:List V)
 |dK (kvs:List (aS×V))|dT (m ep:Nat) (kvs:List (List (aS ⊕ List aS)×V))
 |set (S:Int->Bool) (n:Nat)
 |ins (C dx:P1) (fs:List (Str×V))
 |own (x:P1)
 |xd (fs:List (Str×V))
 |met (f x:P1)
 |rng (lo hi:Int)
 |frz (o:Obj) (u:HO)
 |tbl (ps:Array PZ)
 |ext (φ:Qa->Prop)
noncomputable abbrev Hp:=P1->Option HO
noncomputable def upd(H:Hp)(a:P1)(o:HO):Hp:=λb=>if b=a then PU o else H b
theorem am:upd H a o a=PU o:=by unfold upd;rw[if_pos rfl]
theorem ah{H:Hp}(h:b≠a):upd H a o b=H b:=by unfold upd;rw[if_neg h]
theorem BD{H:Hp}{a b:P1}{o u:HO}(h:H a=PU o)(h':H b=PU u)(d:o≠u):a≠b:=by
 intro e;subst e;rw[h] at h';exact d (Option.some.inj h')
theorem av{H:Hp}{a b:P1}{o:HO}(h:H a=PU o)(h':H b=PV):a≠b:=by
 intro e;subst e;rw[h] at h';cases h'
noncomputable def TkIts(H:Hp):Nat->List (aS ⊕ List aS)->List V->Prop
 |_,[],vs=>vs=[]
 |m,.inl k::xs,vs=>∃r,vs=kV k::r/\m%2=0/\TkIts H (m / 2) xs r
 |m,.inr ks::xs,vs=>∃b r,vs=.ref b::r/\m%2=1/\H b=PU (.tup (ks.map kV))/\TkIts H (m / 2) xs r
noncomputable def TkAt(H:Hp)(m:Nat)(ks:List (aS ⊕ List aS))(b:P1):Prop:=∃vs,H b=PU (.tup vs)/\TkIts H m ks vs
theorem TkIts.keep{H H':Hp}(ht:∀b xs,H b=PU (.tup xs)->H' b=PU (.tup xs)):∀{m:Nat} {ks:List (aS ⊕ List aS)} {vs:List V},TkIts H m ks vs->TkIts H' m ks vs
 |_,[],_,h=>h
 |m,.inl k::xs,vs,h=>by obtain⟨r,e,z,t⟩:=h;exact⟨r,e,z,t.keep ht⟩
 |m,.inr ks::xs,vs,h=>by obtain⟨b,r,e,z,g,t⟩:=h;exact⟨b,r,e,z,ht _ _ g,t.keep ht⟩
theorem TkAt.keep{H H':Hp}{m:Nat}{b:P1}(x:TkAt H m ks b)(ht:∀b xs,H b=PU (.tup xs)->H' b=PU (.tup xs)):TkAt H' m ks b:=by
 obtain⟨vs,g,r⟩:=x;exact⟨vs,ht _ _ g,r.keep ht⟩
section
variable (P:P6) (w:P8)
noncomputable def ObjOk(H:Hp)(h:Qa)(a:P1):HO->Prop
 |.lst xs=>xs.length<=sizeLine/\∃(its:List PZ) (n:Nat),Vals xs its/\h.get? a=PU { cls:=.type "list",data:=.seq its.toArray n }
 |.tup xs=>xs.length<=sizeLine/\∃its:List PZ,Vals xs its/\IsTup h a its.toArray
 |.dK kvs=>kvs.length<=sizeLine/\(a==sysModules)=PY/\∃vs,KV kvs vs/\h.DictOf (br P w) a vs
 |.dT m ep kvs=>kvs.length<=sizeLine/\(a==sysModules)=PY/\∃xs:List (List (aS ⊕ List aS)×P1×PZ),
   Paired (λ(p:List (aS ⊕ List aS)×V) (q:List (aS ⊕ List aS)×P1×PZ)=>p.1=q.1/\TkAt H m p.1 q.2.1/\RelV p.2 q.2.2) kvs xs/\
   ∃o es,h.get? a=PU o/\o.ExactDict/\o.data=.dict es ep/\es.toList=xs.map (entryOfKey (dE m (br P w)))/\(xs.map (·.1)).Nodup
 |.set S n=>h.SetOf (intKind P w) a S n
 |.ins C dx fs=>H dx=PU (.own a)/\fs.length<=1000/\dx≠a/\h.get? a=PU (O2 C dx)/\
   ∃mA,h.Ns1 dx mA/\(∀f,RelO (fs.lookup f) (mA f))/\PySem.Within mA (fs.map (·.1))
 |.own _=>∃o,h.get? a=PU o
 |.xd fs=>∃mA,h.Ns1 a mA/\∀f,RelO (fs.lookup f) (mA f)
 |.rng lo hi=>∃t u v,h.get? a=PU { cls:=.type "range",data:=.fields #[.int lo t,.int hi u,.int 1 v] }
 |.frz o u=>h.get? a=PU o/\ObjOk H h a u
 |.tbl ps=>h.get? a=PU { cls:=.none,data:=.fields ps }
 |.met f x=>h.get? a=PU (OU (.ref f) (.ref x))
 |.ext φ=>φ h/\(∃o,h.get? a=PU o)/\∀h1 h2:Qa,φ h1->(∀o,h1.get? a=PU o->h2.get? a=PU o)->φ h2
noncomputable def HOk(H:Hp)(h:Qa):Prop:=∀a o,H a=PU o->ObjOk P w H h a o
end
section
variable {P:P6} {w:P8} {H H':Hp} {h h':Qa} {a:P1} {o:HO}
theorem ObjOk.lt(x:ObjOk P w H h a o):a<h.objs.size:=by
 cases o with
 |lst xs=>obtain⟨_,_,_,_,e⟩:=x;exact M5 e
 |tup xs=>obtain⟨_,_,_,p⟩:=x;exact p.lt
 |dK kvs=>obtain⟨_,_,_,_,o,_,_,e,_⟩:=x;exact M5 e
 |dT m ep kvs=>obtain⟨_,_,_,_,o,_,e,_⟩:=x;exact M5 e
 |set S n=>obtain⟨o,_,_,_,e,_⟩:=x;exact M5 e
 |ins C dx fs=>obtain⟨_,_,_,e,_⟩:=x;exact M5 e
 |own y=>obtain⟨_,e⟩:=x;exact M5 e
 |xd fs=>obtain⟨_,⟨_,_,_,e,_⟩,_⟩:=x;exact M5 e
 |rng lo hi=>obtain⟨_,_,_,e⟩:=x;exact M5 e
 |frz ob u=>obtain⟨e,_⟩:=x;exact M5 e
 |tbl ps=>exact M5 (show h.get? a=PU _ from x)
 |met f y=>exact M5 (show h.get? a=PU _ from x)
 |ext φ=>obtain⟨_,⟨_,e⟩,_⟩:=x;exact M5 e
theorem Paired.mapP{α β:Type}{F G:α->β->Prop}:∀{l₁:List α} {l₂:List β},Paired F l₁ l₂->(∀a b,F a b->G a b)->Paired G l₁ l₂
 |_,_,.nil,_=>.nil
 |_,_,.cons r t,f=>.cons (f _ _ r) (Paired.mapP t f)
theorem ObjOk.stay(x:ObjOk P w H h a o)(k:∀b u,(b=a\/H b=PU (.own a))->h.get? b=PU u->h'.get? b=PU u)
  (ho:∀b,H b=PU (.own a)->H' b=PU (.own a)) (ht:∀b xs,H b=PU (.tup xs)->H' b=PU (.tup xs)):ObjOk P w H' h' a o:=by
 induction o with
 |lst xs=>obtain⟨z,its,n,r,e⟩:=x;exact⟨z,its,n,r,k _ _ (.inl rfl) e⟩
 |tup xs=>obtain⟨z,its,r,ob,e,c⟩:=x;exact⟨z,its,r,ob,k _ _ (.inl rfl) e,c⟩
 |dK kvs=>obtain⟨z,y,vs,r,ob,es,ep,e,c⟩:=x;exact⟨z,y,vs,r,ob,es,ep,k _ _ (.inl rfl) e,c⟩
 |dT m ep kvs=>
  obtain⟨z,y,xs,r,ob,es,e,c⟩:=x;exact⟨z,y,xs,Paired.mapP r λp q z=>⟨z.1,z.2.1.keep ht,z.2.2⟩,ob,es,k _ _ (.inl rfl) e,c⟩
 |set S n=>obtain⟨ob,es,ep,t,e,c⟩:=x;exact⟨ob,es,ep,t,k _ _ (.inl rfl) e,c⟩
 |ins C dx fs=>
  obtain⟨d,z,ne,e,mA,⟨od,es,ep,e2,c⟩,r⟩:=x;exact⟨ho _ d,z,ne,k _ _ (.inl rfl) e,mA,⟨od,es,ep,k _ _ (.inr d) e2,c⟩,r⟩
 |own y=>obtain⟨ob,e⟩:=x;exact⟨ob,k _ _ (.inl rfl) e⟩
 |xd fs=>obtain⟨mA,⟨od,es,ep,e,c⟩,r⟩:=x;exact⟨mA,⟨od,es,ep,k _ _ (.inl rfl) e,c⟩,r⟩
 |rng lo hi=>obtain⟨t,u,v,e⟩:=x;exact⟨t,u,v,k _ _ (.inl rfl) e⟩
 |frz ob u ih=>obtain⟨e,q⟩:=x;exact⟨k _ _ (.inl rfl) e,ih q⟩
 |tbl ps=>
  have e:h.get? a=PU { cls:=.none,data:=.fields ps }:=x;show h'.get? a=PU { cls:=.none,data:=.fields ps };exact k a _ (.inl rfl) e
 |met f y=>
  have e:h.get? a=PU (OU (.ref f) (.ref y)):=x;show h'.get? a=PU (OU (.ref f) (.ref y));exact k a _ (.inl rfl) e
 |ext φ=>obtain⟨p,⟨o,e⟩,st⟩:=x;exact⟨st _ _ p λo q=>k _ _ (.inl rfl) q,⟨o,k _ _ (.inl rfl) e⟩,st⟩
theorem HOk.lt(x:HOk P w H h)(e:H a=PU o):a<h.objs.size:=(x a o e).lt
theorem HOk.fresh(x:HOk P w H h)(e:h.objs.size<=a):H a=PV:=by
 cases q:H a with
 |none=>rfl
 |some u=>exact absurd (M6 (x.lt q) e) (NU _)
theorem HOk.kept(x:HOk P w H h)(k:∀b u,h.get? b=PU u->h'.get? b=PU u):HOk P w H h':=λa o e=>
 (x a o e).stay (λb u _ q=>k b u q) (λ_ q=>q) λ_ _ q=>q
theorem HOk.laid(x:HOk P w H h)(k:∀b u,h.get? b=PU u->h'.get? b=PU u)(hp:h.objs.size<=a)(new:ObjOk P w (upd H a o) h' a o):HOk P w (upd H a o) h':=λb u e=>by
 have hn:=x.fresh hp;by_cases hb:b=a
 ·subst hb;rw[am] at e;cases e;exact new
 ·rw[ah hb] at e;exact(x b u e).stay (λc v _ q=>k c v q) (λc q=>by rw[ah (av q hn)];exact q) λc xs q=>by rw[ah (av q hn)];exact q
end
noncomputable def Rd(H:Hp)(a:P1)(u:HO):Prop:=H a=PU u\/∃o,H a=PU (.frz o u)
theorem Rd.of{H:Hp}(h:H a=PU u):Rd H a u:=.inl h
theorem Rd.ok(r:Rd H a u)(x:HOk P w H h):ObjOk P w H h a u:=by
 rcases r with r|⟨o,r⟩
 ·exact x a u r
 ·obtain⟨_,q⟩:=x a _ r;exact q
noncomputable def Gu:Option HO->Prop
 |some (.lst _)=>True
 |some (.dK _)=>True
 |some (.dT _ _ _)=>True
 |some (.set _ _)=>True
 |some (.ins _ _ _)=>True
 |some (.ext _)=>True
 |_=>False
section
variable {P:P6} {w:P8} {H:Hp} {h h':Qa} {x e:P1} {o':HO}
theorem HOk.write(ok:HOk P w H h)(mu:Gu (H x))(he:e=x\/H e=PU (.own x))(k:∀b u,b≠e->h.get? b=PU u->h'.get? b=PU u)(heo:∃u,h'.get? e=PU u)
  (new:ObjOk P w (upd H x o') h' x o'):HOk P w (upd H x o') h':=λb u q=>by
 have nown:∀c y,H c=PU (.own y)->c≠x:=λc y r z=>by subst z;rw[r] at mu;exact mu
 have ntup:∀c xs,H c=PU (.tup xs)->c≠x:=λc xs r z=>by subst z;rw[r] at mu;exact mu
 by_cases hb:b=x
 ·subst hb;rw[am] at q;cases q;exact new
 ·rw[ah hb] at q;by_cases hbe:b=e
  ·have q':H b=PU (.own x):=by
    rcases he with z|z
    ·exact absurd (hbe.trans z) hb
    ·rw[hbe];exact z
   rw[q] at q';cases q';obtain⟨v,hv⟩:=heo;exact⟨v,by rw[hbe];exact hv⟩
  ·refine(ok b u q).stay (λc v hc r=>k c v ?_ r) (λc r=>by rw[ah (nown c b r)];exact r) λc xs r=>by rw[ah (ntup c xs r)];exact r
   rcases hc with rfl|hc
   ·exact hbe
   ·rintro rfl
    rcases he with z|z
    ·exact nown c b hc z
    ·rw[hc] at z;cases z;exact hb rfl
end
structure Un(fs ex:List Addr)(H H':Hp)(h h':Heap):Prop where
 keep:∀b o,h.get? b=PU o->H b=PV->b∉fs->b∉ex->h'.get? b=PU o
 slot:∀b o,h.get? b=PU o->H b=PV->b∈fs->b∉ex->∃sl,h'.get? b=PU { o with slots:=sl }
 free:∀b o,h.get? b=PU o->H b=PV->b∉ex->H' b=PV
 there:∀b o,h.get? b=PU o->b∉ex->∃o',h'.get? b=PU o'
 tups:∀b xs,H b=PU (.tup xs)->H' b=PU (.tup xs)
 frzs:∀b o u,H b=PU (.frz o u)->H' b=PU (.frz o u)
 tbls:∀b ps,H b=PU (.tbl ps)->∃more,H' b=PU (.tbl (ps++more))
section
variable {fs fs' ex ex':List P1} {H H1 H2:Hp} {h h1 h2 h':Qa} {a x e:P1} {o:HO}
theorem Un.any(u:Un fs ex H H1 h h1){b:P1}{ob:Obj}(q:h.get? b=PU ob)(n:H b=PV)(hx:b∉ex):∃sl,h1.get? b=PU { ob with slots:=sl }:=by
 by_cases hb:b∈fs
 ·exact u.slot b ob q n hb hx
 ·exact⟨ob.slots,u.keep b ob q n hb hx⟩
theorem Un.kept(k:∀b u,h.get? b=PU u->h'.get? b=PU u):Un fs ex H H h h':=
 ⟨λb ob q _ _ _=>k b ob q,λb ob q _ _ _=>⟨ob.slots,k b ob q⟩,λ_ _ _ n _=>n,λb ob q _=>⟨ob,k b ob q⟩,λ_ _ q=>q,λ_ _ _ q=>q,λ_ ps q=>⟨#[],by rw[q];simp⟩⟩
theorem Un.refl:Un fs ex H H h h:=Un.kept λ_ _ q=>q
theorem Un.laid(k:∀b u,h.get? b=PU u->h'.get? b=PU u)(hp:h.objs.size<=a)(hn:H a=PV):Un fs ex H (upd H a o) h h' where
 keep:=λb u q _ _ _=>k b u q
 slot:=λb u q _ _ _=>⟨u.slots,k b u q⟩
 free:=λb u q n _=>by rw[ah (Ni (M6 (M5 q) hp))];exact n
 there:=λb u q _=>⟨u,k b u q⟩
 tups:=λb xs q=>by rw[ah (av q hn)];exact q
 frzs:=λb u xs q=>by rw[ah (av q hn)];exact q
 tbls:=λb ps q=>⟨#[],by rw[ah (av q hn),q];simp⟩
theorem Un.write(mu:Gu (H x))(he:e=x\/H e=PU (.own x))(k:∀b u,b≠e->h.get? b=PU u->h'.get? b=PU u)(heo:∃u,h'.get? e=PU u):Un fs ex H (upd H x o) h h':=by
 have hx:∀b,H b=PV->b≠x:=λb n z=>by subst z;rw[n] at mu;exact mu
 have hb:∀b,H b=PV->b≠e:=λb n z=>by
  subst z;rcases he with r|r
  ·exact hx b n r
  ·rw[n] at r;cases r
 have hm:∀b u,H b=PU u->¬Gu (PU u)->b≠x:=λb u q nm z=>by subst z;rw[q] at mu;exact nm mu
 refine⟨λb u q n _ _=>k b u (hb b n) q,λb u q n _ _=>⟨u.slots,k b u (hb b n) q⟩,λb u q n _=>by rw[ah (hx b n)];exact n,λb u q _=>?_,
  λb xs q=>by rw[ah (hm b _ q λz=>z)];exact q,λb u xs q=>by rw[ah (hm b _ q λz=>z)];exact q,λb ps q=>⟨#[],by rw[ah (hm b _ q λz=>z),q];simp⟩⟩
 by_cases hbe:b=e
 ·subst hbe;exact heo
 ·exact⟨u,k b u hbe q⟩
end
noncomputable def Jr(h:Qa)(H:Hp):List P1:=(M4 h.objs.size).filter λa=>(H a).isSome
noncomputable def mK(h:Qa)(H:Hp):Qa:=PySem.W.hideAll h (Jr h H)
theorem uD(h:Qa)(H:Hp):(mK h H).objs.size=h.objs.size:=PySem.W.hideAll_size _ _
theorem wg{h:Qa}{H:Hp}(e:h.get? b=PU o)(n:H b=PV):(mK h H).get? b=PU o:=
 PySem.W.hideAll_get _ e λhm=>by
  have q:(H b).isSome=PX:=(PL.mp hm).2;rw[n] at q;simp at q
theorem zm{h:Qa}{H:Hp}(e:(mK h H).get? b=PU o):h.get? b=PU o/\H b=PV:=by
 have e':h.get? b=PU o:=PySem.W.of_hideAll (Jr h H) e;refine⟨e',?_⟩
 cases q:H b with
 |none=>rfl
 |some x=>
  have hm:b∈Jr h H:=PL.mpr ⟨OK.mpr (M5 e'),by simp[q]⟩;have z:(mK h H).get? b=PV:=PySem.W.hideAll_none (Jr h H) hm;rw[z] at e;cases e
noncomputable def zn(g h:Qa)(L:P1):List (P1×Obj):=(M4 h.objs.size).filterMap λa=>if a=L\/(g.get? a).isSome=PX then PV else(h.get? a).map λo=>(a,o)
noncomputable def rest(g h:Qa)(L d:P1):List (P1×Obj):=(zn g h L).filter λp=>decide (p.1≠d)
end L2
namespace L2
open PySem PySem.Spec PyProof.Rows
structure Mod(K:MW)(mg:Str->Option Value)(base:Heap):Prop where
 kin:K.In base
 glob:base.Ns Qh mg
 blt:∃mb,base.Ns builtinsNs mb/\∀x:Str,x≠"__name__"->mb x=bootBuiltins x
 nolimit:base.NoLimit
structure Cx where
 prog:P6
 w:P8
 K:MW
 mg:Str->Option PZ
 base:Qa
 A:Qc
 N:List Str
 s₀:P2
 H₀:Hp
 env:Env
 outer:List Env
 stack:List Env
 ex:List P1
 fn:Str->Bool
 calm:Bool
 pn:List (P1×Obj)
 xe:PZ->P2->Prop
noncomputable def gB(l:List Env):List P1:=l.filterMap (·.frame)
noncomputable abbrev Cx.fs(X:Cx):List P1:=gB X.outer
noncomputable def Gv(sc:Qe)(x:Str):Prop:=sc.names.lookup x=PU .local\/sc.names.lookup x=PU .cell\/sc.names.lookup x=PU .free
noncomputable def CY(sc:Qe)(x:Str):Prop:=sc.names.lookup x=PU .local\/sc.names.lookup x=PU .cell
noncomputable def JN(env:Env)(h:Qa)(m:Str->Option PZ)(x:Str)(u:PZ):Prop:=
 (env.kindOf x=PU .local/\m x=PU u)\/((env.kindOf x=PU .cell\/env.kindOf x=PU .free)/\∃c,env.cells.lookup x=PU c/\h.IsCell c (PU u))
structure Cx.Ok(X:Cx):Prop where
 mod:Mod X.K X.mg X.base
 kind:X.env.scope.kind=.function
 glob:X.env.globals=Qh
 blt:X.env.builtins=builtinsNs
 above:X.s₀.heap.objs.size<=X.env.locals
 inj:∀x y c,X.env.cells.lookup x=PU c->X.env.cells.lookup y=PU c->x=y
 has:∀x,(X.env.kindOf x=PU .cell\/X.env.kindOf x=PU .free)->∃c,X.env.cells.lookup x=PU c
 cab:∀x c,X.fn x=PX->X.env.cells.lookup x=PU c->X.s₀.heap.objs.size<=c
 hd:X.calm=PX->X.A.handled=PV
 frames:X.A.frames=PU X.stack
 stk:X.stack=X.outer\/(X.stack=X.env::X.outer/\X.env.frame=PU X.env.locals)
 exf:∀b∈X.ex,b≠X.env.locals/\∀x c,X.env.cells.lookup x=PU c->c≠b
 bs:∀b o,X.base.get? b=PU o->X.s₀.heap.get? b=PU o/\X.H₀ b=PV
 bsz:X.base.objs.size<=X.s₀.heap.objs.size
 noex:∀b o,X.base.get? b=PU o->b∉X.ex
 exfs:∀b∈X.ex,b∉X.fs
 funs:X.s₀.heap.FunFrames X.base X.outer
 frf:∀b∈X.fs,X.H₀ b=PV
structure Inv(X:Cx)(pins:List (Addr×Obj))(σ:List (Option V))(H:Hp)(s:Shared):Prop where
 ok:X.Ok
 os:s.os=X.s₀.os
 bare:AllBare s.gens
 base:Un X.fs X.ex X.H₀ H X.s₀.heap s.heap
 loc:∃m,s.heap.Ns X.env.locals m/\∀(i:Nat) (x:Str) (v:V),X.N[i]?=PU x->σ[i]?=PU (PU v)->Gv X.env.scope x->∃u,RelV v u/\JN X.env s.heap m x u
 cell:∀x c,X.env.cells.lookup x=PU c->∃v,s.heap.IsCell c v
 free:H X.env.locals=PV
 freeC:∀x c,X.env.cells.lookup x=PU c->H c=PV
 pin:∀p∈X.pn++pins,s.heap.get? p.1=PU p.2/\H p.1=PV/\p.1≠X.env.locals/\p.1∉X.fs/\∀v,p.2.data≠.cell v
 hok:HOk X.prog X.w H s.heap
 len:σ.length=X.N.length
section
variable {X:Cx} {pins:List (P1×Obj)} {σ:List (Option V)} {H H':Hp} {s:P2} {h':Qa}
theorem Cx.Ok.nofr(ok:X.Ok){b:P1}{o:Obj}(e:X.base.get? b=PU o):b∉X.fs:=λhb=>by
 have:=(ok.funs.mem hb).1;rw[e] at this;cases this
theorem Inv.bs(I:Inv X pins σ H s):∀b o,X.base.get? b=PU o->s.heap.get? b=PU o/\H b=PV:=λb o e=>
 ⟨I.base.keep b o (I.ok.bs b o e).1 (I.ok.bs b o e).2 (I.ok.nofr e) (I.ok.noex b o e),I.base.free b o (I.ok.bs b o e).1 (I.ok.bs b o e).2 (I.ok.noex b o e)⟩
theorem Inv.bk(I:Inv X pins σ H s):∀b o,X.base.get? b=PU o->s.heap.get? b=PU o:=λb o e=>(I.bs b o e).1
theorem Inv.mod(I:Inv X pins σ H s):Mod X.K X.mg X.base:=I.ok.mod
theorem Inv.kIn(I:Inv X pins σ H s):X.K.In s.heap:=I.ok.mod.kin.keeps I.bk
theorem Inv.lt(I:Inv X pins σ H s):X.env.locals<s.heap.objs.size:=let ⟨_,hn,_⟩:=I.loc;hn.lt
theorem Inv.sz(I:Inv X pins σ H s):X.s₀.heap.objs.size<=s.heap.objs.size:=Nq I.ok.above (OA I.lt)
theorem Inv.nofs(I:Inv X pins σ H s){a:P1}(h:s.heap.objs.size<=a):a∉X.fs:=λhb=>by
 obtain⟨_,o,ho,_⟩:=I.ok.funs.mem hb;exact absurd (M6 (M5 ho) (Nq I.sz h)) (NU _)
theorem Inv.cne(I:Inv X pins σ H s):∀x c,X.env.cells.lookup x=PU c->c≠X.env.locals:=λx c e z=>by
 obtain⟨v,o,ho,hd⟩:=I.cell x c e;obtain⟨m,⟨o',es,ep,ho',hd',_⟩,_⟩:=I.loc;rw[z,ho'] at ho;cases ho;rw[hd'] at hd;cases hd
theorem Inv.funs(I:Inv X pins σ H s):s.heap.FunFrames X.base X.outer:=by
 have all:∀(l:List Env),(∀b∈gB l,b∈X.fs)->X.s₀.heap.FunFrames X.base l->s.heap.FunFrames X.base l:=by
  intro l
  induction l with
  |nil=>intro _ _;trivial
  |cons env r ih=>
   intro hs hl;obtain⟨hk,⟨L,o,hf,hn,ho,hd⟩,hr⟩:=hl;have hL:L∈X.fs:=hs L (by unfold gB;rw[Nr,hf];exact Nm);obtain⟨sl,e⟩:=I.base.slot L o ho (I.ok.frf L hL) hL λz=>I.ok.exfs L z hL;exact⟨hk,⟨L,_,hf,hn,e,hd⟩,ih (λb hb=>hs b (by unfold gB;rw[Nr,hf];exact Ng _ hb)) hr⟩
 exact all X.outer (λ_ hb=>hb) I.ok.funs
theorem Inv.stack(I:Inv X pins σ H s):s.heap.FunFrames X.base X.stack:=by
 rcases I.ok.stk with e|⟨e,hf⟩
 ·rw[e];exact I.funs
 ·rw[e];obtain⟨m,hn,_⟩:=I.loc;refine .cons (by rw[I.ok.kind];decide) hf hn ?_ I.funs;exact Heap.get?_none_of_le (Nq I.ok.bsz I.ok.above)
theorem Inv.stkSub(I:Inv X pins σ H s):∀b∈gB X.stack,b∈X.env.locals::X.fs:=λb hb=>by
 rcases I.ok.stk with e|⟨e,hf⟩
 ·rw[e] at hb;exact Ng _ hb
 ·rw[e] at hb;unfold gB at hb;rw[Nr,hf] at hb;exact hb
theorem Inv.stkFree(I:Inv X pins σ H s):∀b∈gB X.stack,H b=PV:=λb hb=>by
 rcases M7.mp (I.stkSub b hb) with e|hb
 ·rw[e];exact I.free
 ·obtain⟨_,o,ho,_⟩:=I.ok.funs.mem hb;exact I.base.free b o ho (I.ok.frf b hb) λz=>I.ok.exfs b z hb
theorem Inv.step{t':Nat}{ch:List P1}(I:Inv X pins σ H s)(hch:∀b∈ch,(b∈X.ex\/X.s₀.heap.objs.size<=b)/\b≠X.env.locals/\(∀x c,X.env.cells.lookup x=PU c->c≠b)/\∀p∈X.pn++pins,p.1≠b)(keep:∀b o,b≠X.env.locals->b∉X.fs->b∉ch->s.heap.get? b=PU o->H b=PV->h'.get? b=PU o)(slot:∀b o,b≠X.env.locals->b∈X.fs->b∉ch->s.heap.get? b=PU o->H b=PV->∃sl,h'.get? b=PU { o with slots:=sl })(free:∀b o,b∉ch->s.heap.get? b=PU o->H b=PV->H' b=PV)(there:∀b o,b∉ch->s.heap.get? b=PU o->∃o',h'.get? b=PU o')(tups:∀b xs,H b=PU (.tup xs)->H' b=PU (.tup xs))(frzs:∀b o u,H b=PU (.frz o u)->H' b=PU (.frz o u))(tbls:∀b ps,H b=PU (.tbl ps)->∃more,H' b=PU (.tbl (ps++more)))(ns:∀m,s.heap.Ns X.env.locals m->h'.Ns X.env.locals m)(hok:HOk X.prog X.w H' h')(hg:AllBare g') :
  Inv X pins σ H' { s with heap:=h',gens:=g',drawn:=d',toks:=t' }:=by
 have neL:∀b o,X.s₀.heap.get? b=PU o->b≠X.env.locals:=λb o e=>Ni (M6 (M5 e) I.ok.above)
 have neC:∀b o,X.s₀.heap.get? b=PU o->b∉X.ex->b∉ch:=λb o e hx hb=>by
  rcases(hch b hb).1 with z|z
  ·exact hx z
  ·exact absurd (M6 (M5 e) z) (NU _)
 have cellK:∀x c,X.env.cells.lookup x=PU c->∀v,s.heap.IsCell c v->h'.IsCell c v:=λx c e v ⟨o,ho,hd⟩=>by
  have nch:c∉ch:=λz=>(hch c z).2.2.1 x c e rfl;by_cases hc:c∈X.fs
  ·obtain⟨sl,q⟩:=slot c o (I.cne x c e) hc nch ho (I.freeC x c e);exact⟨_,q,hd⟩
  ·exact⟨o,keep c o (I.cne x c e) hc nch ho (I.freeC x c e),hd⟩
 refine⟨I.ok,I.os,hg,⟨λb o e n hb hx=>?_,λb o e n hb hx=>?_,λb o e n hx=>?_,λb o e hx=>?_,λb xs e=>tups b xs (I.base.tups b xs e),λb o xs e=>frzs b o xs (I.base.frzs b o xs e),λb ps e=>?_⟩,?_,λx c e=>?_,?_,λx c e=>?_,λp hp=>?_,hok,I.len⟩
 ·exact keep b o (neL b o e) hb (neC b o e hx) (I.base.keep b o e n hb hx) (I.base.free b o e n hx)
 ·obtain⟨sl,e1⟩:=I.base.slot b o e n hb hx;obtain⟨sl',e2⟩:=slot b _ (neL b o e) hb (neC b o e hx) e1 (I.base.free b o e n hx);exact⟨sl',e2⟩
 ·obtain⟨o',e1⟩:=I.base.there b o e hx;exact free b o' (neC b o e hx) e1 (I.base.free b o e n hx)
 ·obtain⟨o',e1⟩:=I.base.there b o e hx;exact there b o' (neC b o e hx) e1
 ·obtain⟨m1,e1⟩:=I.base.tbls b ps e;obtain⟨m2,e2⟩:=tbls b _ e1;exact⟨m1++m2,by rw[e2,Array.append_assoc]⟩
 ·obtain⟨m,hn,hl⟩:=I.loc;refine⟨m,ns m hn,λi x v e1 e2 e3=>?_⟩;obtain⟨u,r,l⟩:=hl i x v e1 e2 e3;refine⟨u,r,?_⟩;rcases l with l|⟨k,c,e,z⟩
  ·exact .inl l
  ·exact .inr ⟨k,c,e,cellK x c e _ z⟩
 ·obtain⟨v,z⟩:=I.cell x c e;exact⟨v,cellK x c e v z⟩
 ·obtain⟨m,⟨o,_,_,ho,_⟩,_⟩:=I.loc;exact free _ o (λz=>(hch _ z).2.1 rfl) ho I.free
 ·obtain⟨v,o,ho,hd⟩:=I.cell x c e;exact free c o (λz=>(hch c z).2.2.1 x c e rfl) ho (I.freeC x c e)
 ·obtain⟨e,n,ne,nf,d⟩:=I.pin p hp;have nch:p.1∉ch:=λz=>(hch p.1 z).2.2.2 p hp rfl;exact⟨keep p.1 p.2 ne nf nch e n,free p.1 p.2 nch e n,ne,nf,d⟩
theorem Inv.un{t':Nat}(I:Inv X pins σ H s)(u:Un X.fs [] H H' s.heap h')(hok:HOk X.prog X.w H' h'):Inv X pins σ H' { s with heap:=h',toks:=t' }:=by
 obtain⟨m,⟨o,es,ep,ho,r⟩,_⟩:=id I.loc;obtain⟨sl,hL⟩:=u.any ho I.free (by simp)
 exact I.step (g':=s.gens) (d':=s.drawn) (ch:=[]) (λ_ z=>nomatch z) (λb o _ hb _ e n=>u.keep b o e n hb (by simp)) (λb o _ hb _ e n=>u.slot b o e n hb (by simp)) (λb o _ e n=>u.free b o e n (by simp)) (λb o _ e=>u.there b o e (by simp)) u.tups u.frzs u.tbls (λm' hm=>by
  obtain⟨o',es',ep',ho',r'⟩:=hm;rw[ho] at ho';cases ho';exact⟨_,es',ep',hL,r'⟩) hok I.bare
theorem Inv.call{t':Nat}{ch:List P1}(I:Inv X pins σ H s)(u:Un (gB X.stack) ch H H' s.heap h')(hok:HOk X.prog X.w H' h')(hg:AllBare g')(hch:∀b∈ch,(b∈X.ex\/X.s₀.heap.objs.size<=b)/\b≠X.env.locals/\(∀x c,X.env.cells.lookup x=PU c->c≠b)/\∀p∈X.pn++pins,p.1≠b) :
  Inv X pins σ H' { s with heap:=h',gens:=g',drawn:=d',toks:=t' }:=by
 obtain⟨m,⟨o,es,ep,ho,r⟩,_⟩:=id I.loc;obtain⟨sl,hL⟩:=u.any ho I.free λz=>(hch _ z).2.1 rfl
 exact I.step (ch:=ch) hch (λb o hL hb hc e n=>u.keep b o e n (λz=>(M7.mp (I.stkSub b z)).elim hL hb) hc) (λb o _ _ hc e n=>u.any e n hc) (λb o hc e n=>u.free b o e n hc) (λb o hc e=>u.there b o e hc) u.tups u.frzs u.tbls (λm' hm=>by
  obtain⟨o',es',ep',ho',r'⟩:=hm;rw[ho] at ho';cases ho';exact⟨_,es',ep',hL,r'⟩) hok hg
theorem Inv.turned{t':Nat}{it:P1}(I:Inv X pins σ H s)(k:∀b o,b≠it->s.heap.get? b=PU o->h'.get? b=PU o)(hn:H it=PV)(hL:it≠X.env.locals)
  (h1:it∈X.ex\/X.s₀.heap.objs.size<=it) (h2:∀x c,X.env.cells.lookup x=PU c->c≠it) (h3:∀p∈X.pn++pins,p.1≠it):Inv X pins σ H { s with heap:=h',toks:=t' }:=by
 have nit:∀b u,H b=PU u->b≠it:=λb u e z=>by rw[z,hn] at e;cases e
 refine I.step (g':=s.gens) (d':=s.drawn) (ch:=[it]) (λb hb=>?_) (λb o _ _ hc e _=>k b o (λz=>hc (by simp[z])) e) (λb o _ _ hc e _=>⟨o.slots,k b o (λz=>hc (by simp[z])) e⟩) (λ_ _ _ _ n=>n)
  (λb o hc e=>⟨o,k b o (λz=>hc (by simp[z])) e⟩) (λ_ _ e=>e) (λ_ _ _ e=>e) (λb ps e=>⟨#[],by rw[e];simp⟩) (λm hm=>?_) (λb u e=>?_) I.bare
 ·have e:b=it:=by simpa using hb
  subst e;exact⟨h1,hL,h2,h3⟩
 ·obtain⟨o,es,ep,ho,r⟩:=hm;exact⟨o,es,ep,k _ o (Ne.symm hL) ho,r⟩
 ·refine(I.hok b u e).stay (λc v hc q=>k c v ?_ q) (λ_ q=>q) λ_ _ q=>q;rcases hc with z|z
  ·rw[z];exact nit b u e
  ·exact nit c _ z
theorem Inv.tok(I:Inv X pins σ H s)(t:Nat):Inv X pins σ H { s with toks:=t }:=I.un (h':=s.heap) (t':=t) Un.refl I.hok
theorem Inv.kept{t':Nat}(I:Inv X pins σ H s)(k:∀b u,s.heap.get? b=PU u->h'.get? b=PU u):Inv X pins σ H { s with heap:=h',toks:=t' }:=I.un (Un.kept k) (I.hok.kept k)
theorem Inv.laid{t':Nat}(I:Inv X pins σ H s)(k:∀b u,s.heap.get? b=PU u->h'.get? b=PU u)(hp:s.heap.objs.size<=a)(new:ObjOk X.prog X.w (upd H a o) h' a o) :
  Inv X pins σ (upd H a o) { s with heap:=h',toks:=t' }:=I.un (Un.laid k hp (I.hok.fresh hp)) (I.hok.laid k hp new)
theorem Inv.write{x e:P1}{t':Nat}(I:Inv X pins σ H s)(mu:Gu (H x))(he:e=x\/H e=PU (.own x))(k:∀b u,b≠e->s.heap.get? b=PU u->h'.get? b=PU u)(heo:∃u,h'.get? e=PU u)(new:ObjOk X.prog X.w (upd H x o) h' x o):Inv X pins σ (upd H x o) { s with heap:=h',toks:=t' }:=I.un (Un.write mu he k heo) (I.hok.write mu he k heo new)
theorem Inv.pins_of{pins':List (P1×Obj)}(I:Inv X pins σ H s)(h:∀p∈pins',s.heap.get? p.1=PU p.2/\H p.1=PV/\p.1≠X.env.locals/\p.1∉X.fs/\∀v,p.2.data≠.cell v):Inv X pins' σ H s:=
 ⟨I.ok,I.os,I.bare,I.base,I.loc,I.cell,I.free,I.freeC,λp hp=>(PM.mp hp).elim (λz=>I.pin p (N3 _ z)) (h p),I.hok,I.len⟩
theorem kg{N:List Str}(hN:N.Nodup){i j:Nat}{x:Str}(a:N[i]?=PU x)(b:N[j]?=PU x):i=j:=by
 obtain⟨h1,e1⟩:=MZ.mp a;obtain⟨h2,e2⟩:=MZ.mp b;exact(List.getElem_inj hN).mp (e1.trans e2.symm)
theorem lJ{i:Nat}{x:Str}{Q:Unit->P2->Prop}(I:Inv X pins σ H s)(hN:X.N.Nodup)(hi:X.N[i]?=PU x)(hx:CY X.env.scope x)(r:RelV v u)(h:∀s',Inv X pins (σ.set i (PU v)) H s'->(∃a,Heap.SameBut a s.heap s'.heap/\(a=X.env.locals\/X.env.cells.lookup x=PU a))->Q () s')(hf:X.fn x=PX\/X.env.scope.names.lookup x=PU .local:=by first|exact .inl rfl|exact .inr rfl|assumption):P4 M A (storeName X.env x u) Q E s:=by
 obtain⟨m,hn,hl⟩:=id I.loc;have hcls:(X.env.scope.kind==.class||(X.env.scope.kind==.module&&X.env.locals != X.env.globals))=PY:=by rw[I.ok.kind];rfl
 have hiσ:i<σ.length:=by rw[I.len];exact(MZ.mp hi).1
 have cne:=I.cne
 have tracked:∀{a:P1} {h':Qa},(∃o,s.heap.get? a=PU o/\H a=PV)->Heap.SameBut a s.heap h'->HOk X.prog X.w H h':=λ{a h'} ha hs b ob e=>by
  obtain⟨_,_,hfree⟩:=ha;refine(I.hok b ob e).stay (λc w' hc q=>(hs.2 c ?_).trans q) (λ_ q=>q) λ_ _ q=>q
  rintro rfl
  rcases hc with rfl|hc
  ·rw[hfree] at e;cases e
  ·rw[hfree] at hc;cases hc
 rcases hx with hk|hk
 ·refine wpAny_storeName_local hk hn (λh' hn' hs=>?_) hcls;obtain⟨oL,_,_,hoL,_⟩:=id hn;refine h _ ⟨I.ok,I.os,I.bare,⟨λb o e n hb hx=>?_,λb o e n hb hx=>?_,I.base.free,λb o e hx=>?_,I.base.tups,I.base.frzs,I.base.tbls⟩,⟨_,hn',λj y v' e1 e2 e3=>?_⟩,λy c e=>?_,I.free,I.freeC,λp hp=>?_,tracked ⟨oL,hoL,I.free⟩ hs,by simpa using I.len⟩ ⟨_,hs,.inl rfl⟩
  ·exact(hs.2 b (Ni (M6 (M5 e) I.ok.above))).trans (I.base.keep b o e n hb hx)
  ·obtain⟨sl,e1⟩:=I.base.slot b o e n hb hx;exact⟨sl,(hs.2 b (Ni (M6 (M5 e) I.ok.above))).trans e1⟩
  ·obtain⟨o',e1⟩:=I.base.there b o e hx;exact⟨o',(hs.2 b (Ni (M6 (M5 e) I.ok.above))).trans e1⟩
  ·by_cases hj:j=i
   ·subst hj;rw[hi] at e1;cases e1;rw[Nd hiσ] at e2;cases e2;exact⟨u,r,.inl ⟨hk,by simp⟩⟩
   ·rw[Nh (Ne.symm hj)] at e2;obtain⟨u',r',q⟩:=hl j y v' e1 e2 e3;refine⟨u',r',?_⟩;rcases q with⟨k,e⟩|⟨k,c,e,z⟩
    ·refine .inl ⟨k,?_⟩;have:y≠x:=λe=>hj (kg hN e1 (e▸hi));simp[this,e]
    ·exact .inr ⟨k,c,e,z.sameBut hs (cne y c e)⟩
  ·obtain⟨w',z⟩:=I.cell y c e;exact⟨w',z.sameBut hs (cne y c e)⟩
  ·obtain⟨e,n,ne,nf,d⟩:=I.pin p hp;exact⟨(hs.2 p.1 ne).trans e,n,ne,nf,d⟩
 ·have hfn:X.fn x=PX:=by
   rcases hf with z|z
   ·exact z
   ·rw[z] at hk;cases hk
  obtain⟨c,hc⟩:=I.ok.has x (.inl hk);obtain⟨w',z⟩:=I.cell x c hc;refine wpAny_storeName_cell I.ok.kind hk hc z (λh' hc' hs=>?_);obtain⟨oc,hoc,hocd⟩:=id z;refine h { s with heap:=h' } ⟨I.ok,I.os,I.bare,⟨λb o e n hb hx=>?_,λb o e n hb hx=>?_,I.base.free,λb o e hx=>?_,I.base.tups,I.base.frzs,I.base.tbls⟩,⟨m,hn.sameBut hs (Ne.symm (cne x c hc)),λj y v' e1 e2 e3=>?_⟩,λy c' e=>?_,I.free,I.freeC,λp hp=>?_,tracked ⟨oc,hoc,I.freeC x c hc⟩ hs,by simpa using I.len⟩ ⟨c,hs,.inr hc⟩
  ·exact(hs.2 b (Ni (M6 (M5 e) (I.ok.cab x c hfn hc)))).trans (I.base.keep b o e n hb hx)
  ·obtain⟨sl,e1⟩:=I.base.slot b o e n hb hx;exact⟨sl,(hs.2 b (Ni (M6 (M5 e) (I.ok.cab x c hfn hc)))).trans e1⟩
  ·obtain⟨o',e1⟩:=I.base.there b o e hx;exact⟨o',(hs.2 b (Ni (M6 (M5 e) (I.ok.cab x c hfn hc)))).trans e1⟩
  ·by_cases hj:j=i
   ·subst hj;rw[hi] at e1;cases e1;rw[Nd hiσ] at e2;cases e2;exact⟨u,r,.inr ⟨.inl hk,c,hc,hc'⟩⟩
   ·rw[Nh (Ne.symm hj)] at e2;obtain⟨u',r',q⟩:=hl j y v' e1 e2 e3;refine⟨u',r',?_⟩;rcases q with q|⟨k,c',e,z'⟩
    ·exact .inl q
    ·refine .inr ⟨k,c',e,z'.sameBut hs ?_⟩
     rintro rfl
     exact hj (kg hN e1 (I.ok.inj _ _ _ e hc▸hi))
  ·by_cases hcc:c'=c
   ·subst hcc;exact⟨_,hc'⟩
   ·obtain⟨w2,z2⟩:=I.cell y c' e;exact⟨w2,z2.sameBut hs hcc⟩
  ·obtain⟨e,n,ne,nf,d⟩:=I.pin p hp;refine⟨(hs.2 p.1 ?_).trans e,n,ne,nf,d⟩;intro q;rw[q,hoc] at e;have q':oc=p.2:=Option.some.inj e;exact d w' (by rw[<- q'];exact hocd)
theorem dF{i:Nat}{x:Str}{Q:Unit->P2->Prop}(I:Inv X pins σ H s)(hN:X.N.Nodup)(hi:X.N[i]?=PU x)(hx:CY X.env.scope x)(r:RelV v u)(h:∀s',Inv X pins (σ.set i (PU v)) H s'->Q () s')(hf:X.fn x=PX\/X.env.scope.names.lookup x=PU .local:=by first|exact .inl rfl|exact .inr rfl|assumption):P4 M A (storeName X.env x u) Q E s:=
 lJ I hN hi hx r (λs' I' _=>h s' I') hf
theorem Inv.call'{s':P2}{ch:List P1}(I:Inv X pins σ H s)(ho:s'.os=s.os)(u:Un (gB X.stack) ch H H' s.heap s'.heap)(hok:HOk X.prog X.w H' s'.heap)(hg:AllBare s'.gens)
  (hch:∀b∈ch,(b∈X.ex\/X.s₀.heap.objs.size<=b)/\b≠X.env.locals/\(∀x c,X.env.cells.lookup x=PU c->c≠b)/\∀p∈X.pn++pins,p.1≠b):Inv X pins σ H' s':=by
 obtain⟨h',g',d',t',o'⟩:=s';have e:o'=s.os:=ho;subst e;exact I.call (g':=g') (t':=t') (d':=d') u hok hg hch
end
noncomputable abbrev XK:=PZ->Option P1->Hp->Prop
noncomputable abbrev St:=List (Option V)
noncomputable abbrev VK:=V->Hp->Prop
noncomputable abbrev TE:=St->Hp->VK->Prop
noncomputable abbrev TT:=St->Hp->(Bool->Hp->Prop)->Prop
noncomputable abbrev TA:=St->Hp->(List V->Hp->Prop)->Prop
structure di where
 nx:St->Hp->Prop
 rt:VK
 bk:St->Hp->Prop:=λ_ _=>False
 ct:St->Hp->Prop:=λ_ _=>False
noncomputable abbrev TS:=di->St->Hp->Prop
noncomputable def EP(X:Cx)(pins:List (P1×Obj))(σ:St)(Q:VK)(u:PZ)(s':P2):Prop:=∃v H',Inv X pins σ H' s'/\RelV v u/\Q v H'
noncomputable def TP(X:Cx)(pins:List (P1×Obj))(σ:St)(Q:Bool->Hp->Prop)(b:Bool)(s':P2):Prop:=∃H',Inv X pins σ H' s'/\Q b H'
noncomputable def AP(X:Cx)(pins:List (P1×Obj))(σ:St)(Q:List V->Hp->Prop)(us:List PZ)(s':P2):Prop:=∃vs H',Inv X pins σ H' s'/\Vals vs us/\Q vs H'
noncomputable def SP(X:Cx)(pins:List (P1×Obj))(D:di)(f:Flow)(s':P2):Prop:=
 match f with
 |.next=>∃σ' H',Inv X pins σ' H' s'/\D.nx σ' H'
 |.brk=>∃σ' H',Inv X pins σ' H' s'/\D.bk σ' H'
 |.cont=>∃σ' H',Inv X pins σ' H' s'/\D.ct σ' H'
 |.ret u=>∃v σ' H',Inv X pins σ' H' s'/\RelV v u/\D.rt v H'
noncomputable def PE(X:Cx)(e:P0)(t:TE):Prop:=
 ∀(pins:List (P1×Obj)) (s:P2) (σ:St) (H:Hp) (Q:VK),Inv X pins σ H s->t σ H Q->P4 (P5 X.prog X.w) X.A (eval e X.env) (EP X pins σ Q) X.xe s
noncomputable def PT(X:Cx)(e:P0)(t:TT):Prop:=
 ∀(pins:List (P1×Obj)) (s:P2) (σ:St) (H:Hp) (Q:Bool->Hp->Prop),Inv X pins σ H s->t σ H Q->P4 (P5 X.prog X.w) X.A (isTrue e X.env (eval e X.env)) (TP X pins σ Q) X.xe s
noncomputable def PW(X:Cx)(e:P0)(t:TT):Prop:=
 ∀(whole:Sem PZ) (pins:List (P1×Obj)) (s:P2) (σ:St) (H:Hp) (Q:Bool->Hp->Prop),Inv X pins σ H s->t σ H Q->P4 (P5 X.prog X.w) X.A (isTrue e X.env whole) (TP X pins σ Q) X.xe s
theorem PW.pt(h:PW X e t):PT X e t:=h _
noncomputable def PA(X:Cx)(es:List P0)(t:TA):Prop:=
 ∀(pos:Pos) (pins:List (P1×Obj)) (s:P2) (σ:St) (H:Hp) (Q:List V->Hp->Prop),Inv X pins σ H s->t σ H Q->P4 (P5 X.prog X.w) X.A (spliced (backTo pos (Qb es X.env))) (AP X pins σ Q) X.xe s
noncomputable def PS(X:Cx)(st:P9)(t:TS):Prop:=
 ∀(pins:List (P1×Obj)) (s:P2) (σ:St) (H:Hp) (D:di),Inv X pins σ H s->t D σ H->P4 (P5 X.prog X.w) X.A (exec st X.env) (SP X pins D) X.xe s
noncomputable def PSs(X:Cx)(st:List P9)(t:TS):Prop:=
 ∀(pins:List (P1×Obj)) (s:P2) (σ:St) (H:Hp) (D:di),Inv X pins σ H s->t D σ H->P4 (P5 X.prog X.w) X.A (execs st X.env) (SP X pins D) X.xe s
theorem bx{α:Type}{t:Sem α}{Q Q':α->P2->Prop}{M:Model}{A:Qc}{E:PZ->P2->Prop}{s:P2}(h:P4 M A t Q E s)(hQ:∀a s,Q a s->Q' a s):P4 M A t Q' E s:=wpAny_mono h hQ λ_ _ x=>x
end L2
namespace L2
open PySem PySem.Spec PyProof.Rows
section
variable {X:Cx}
noncomputable def JO(i:Nat):TE:=λσ H Q=>∃v,σ[i]?=PU (PU v)/\Q v H
noncomputable def tC(v:V):TE:=λ_ H Q=>Q v H
theorem mM{i:Nat}{x:Str}(hN:X.N[i]?=PU x)(hv:Gv X.env.scope x)(hd:(x==("__debug__":Str))=PY:=by decide)(hcd:(x==("__classdict__":Str))=PY:=by decide):PE X (.Name x pos) (JO i):=by
 intro pins s σ H Q I h;obtain⟨v,e,h⟩:=h;obtain⟨m,hn,hl⟩:=I.loc;obtain⟨u,r,l⟩:=hl i x v hN e hv;have fin:EP X pins σ Q u s:=⟨v,H,I,r,h⟩;rcases l with⟨hk,hm⟩|⟨hk,c,hc,hcell⟩
 ·exact wpAny_Name (wpAny_loadName_local I.ok.kind hk hn hm fin) hd
 ·rcases hk with hk|hk
  ·exact wpAny_Name (wpAny_loadName_cell I.ok.kind hk hc hcell fin) hd
  ·exact wpAny_Name (wpAny_loadName_free I.ok.kind hk hc hcell fin hcd) hd
theorem CZ{i j pos}:PE X (.Constant (.int i) j pos) (tC (.int i)):=λ_ _ _ H _ I h=>wpAny_Constant_int ⟨.int i,H,I.tok _,⟨_,rfl⟩,h⟩
theorem Gw{b j pos}:PE X (.Constant (.bool b) j pos) (tC (.bl b)):=λ_ _ _ H _ I h=>Constant_bool ⟨.bl b,H,I,rfl,h⟩
theorem wj{j pos}:PE X (.Constant .none j pos) (tC .non):=λ_ _ _ H _ I h=>Constant_none ⟨.non,H,I,rfl,h⟩
theorem qj{x j pos}:PE X (.Constant (.str x) j pos) (tC (.str x)):=λ_ _ _ H _ I h=>Calls.Constant_str ⟨.str x,H,I.tok _,⟨_,rfl⟩,h⟩
noncomputable def Gl(X:Cx)(x:Str):Prop:=X.env.kindOf x=PU .globalImplicit
theorem fV{x:Str}{Q:PZ->P2->Prop}(I:Inv X pins σ H s)(hg:Gl X x)(hm:X.mg x=PU u)(h:Q u s)(hd:(x==("__debug__":Str))=PY:=by decide):P4 (P5 X.prog X.w) X.A (eval (.Name x pos) X.env) Q E s:=
 Calls.Name_function_global I.ok.kind hg (Calls.loadGlobal_global (by rw[I.ok.glob];exact I.mod.glob.keeps I.bk) hm h) hd
theorem fy{x:Str}{Q:PZ->P2->Prop}(I:Inv X pins σ H s)(hg:Gl X x)(hm:X.mg x=PV)(hv:bootBuiltins x=PU u)(h:Q u s)(hn:x≠"__name__":=by decide)(hd:(x==("__debug__":Str))=PY:=by decide):P4 (P5 X.prog X.w) X.A (eval (.Name x pos) X.env) Q E s:=by
 obtain⟨mb,h1,h2⟩:=I.mod.blt;exact Calls.Name_function_global I.ok.kind hg (Calls.loadGlobal_builtin (by rw[I.ok.glob];exact I.mod.glob.keeps I.bk) hm (by rw[I.ok.blt];exact h1.keeps I.bk) ((h2 x hn).trans hv) h) hd
theorem mO{x:Str}(hg:Gl X x)(hm:X.mg x=PU u)(r:RelV v u)(hd:(x==("__debug__":Str))=PY:=by decide):PE X (.Name x pos) (tC v):=
 λ_ _ _ H _ I h=>fV I hg hm ⟨v,H,I,r,h⟩ hd
theorem rY{x:Str}(hg:Gl X x)(hm:X.mg x=PV)(hv:bootBuiltins x=PU u)(r:RelV v u)(hn:x≠"__name__":=by decide)(hd:(x==("__debug__":Str))=PY:=by decide):PE X (.Name x pos) (tC v):=
 λ_ _ _ H _ I h=>fy I hg hm hv ⟨v,H,I,r,h⟩ hn hd
variable {a b:P0} {ta tb:TE} {pos:Pos}
noncomputable def PC(X:Cx)(op:Ql)(a b:P0)(t:TE):Prop:=
 ∀(pins:List (P1×Obj)) (s:P2) (σ:St) (H:Hp) (Q:VK),Inv X pins σ H s->t σ H Q->
  P4 (P5 X.prog X.w) X.A (eval a X.env) (λv s₁=>P4 (P5 X.prog X.w) X.A (eval b X.env) (λu s₂=>P4 (P5 X.prog X.w) X.A (compareOp op v u) (EP X pins σ Q) X.xe s₂) X.xe s₁) X.xe s
theorem wk(b:P0){op:Ql}(h:op≠.In)(h2:op≠.NotIn):Qg op b=PY:=by
 have e1:(op==CmpOp.In)=PY:=by cases op<;>first|rfl|exact absurd rfl h
 have e2:(op==CmpOp.NotIn)=PY:=by cases op<;>first|rfl|exact absurd rfl h2
 cases b<;>simp[Qg,e1,e2]
noncomputable def JP(ta:TE):TE:=λσ H Q=>ta σ H λx H1=>Q (.bl (decide (x=.non))) H1
theorem RelV.none_iff(r:RelV x v):(v==Value.none)=decide (x=.non):=by
 cases x with
 |non=>cases r;rfl
 |bl _=>cases r;rfl
 |int _=>obtain⟨t,rfl⟩:=r;rfl
 |str _=>obtain⟨t,rfl⟩:=r;rfl
 |byt _=>obtain⟨t,rfl⟩:=r;rfl
 |flt _=>obtain⟨t,rfl⟩:=r;rfl
 |ref _=>cases r;rfl
 |ty _=>cases r;rfl
theorem C0{j pos'}(ha:PE X a ta):PC X .Is a (.Constant .none j pos') (JP ta):=by
 intro pins s σ H Q I h;refine bx (ha pins s σ H _ I h) λv s1 ⟨x,H1,I1,r1,q1⟩=>?_;exact Constant_none (is_none_gen ⟨.bl _,H1,I1,by rw[r1.none_iff];rfl,q1⟩)
noncomputable def tB(t:TE):TT:=λσ H Q=>t σ H λx H1=>∃c,x=.bl c/\Q c H1
theorem C3{op:Ql}(h:PC X op a b t)(h1:Qg op b=PY:=by first|exact wk _ (by decide) (by decide)|rfl):PT X (.Compare a [op] [b] pos) (tB t):=by
 intro pins s σ H Q I hw;refine wpAny_isTrue_Compare1 (bx (h pins s σ H _ I hw) λv s1 h1=>bx h1 λu s2 h2=>bx h2 λc s3 ⟨x,H1,I1,r1,q1⟩=>?_) h1;obtain⟨d,rfl,q⟩:=q1;cases r1;exact Qo ⟨H1,I1,q⟩
theorem wl{e:P0}(h:PE X e t)(he:∀whole,isTrue e X.env whole=(do let v <- whole;standAt e.pos;holding [v] (truthy v)):=by intro _;rfl):PT X e (tB t):=by
 intro pins s σ H Q I hw;refine isTrue_plain (bx (h pins s σ H _ I hw) λv s1 ⟨x,H1,I1,r1,q1⟩=>?_) (he _);obtain⟨d,rfl,q⟩:=q1;cases r1;exact Qo ⟨H1,I1,q⟩
variable {tA tB':TT} {rest:List P0}
noncomputable def JQ(t u:TT):TT:=λσ H Q=>t σ H λc H1=>if c=PX then u σ H1 Q else Q PY H1
noncomputable def Mm(t u:TT):TT:=λσ H Q=>t σ H λc H1=>if c=PX then Q PX H1 else u σ H1 Q
noncomputable def JR(t:TT):TT:=λσ H Q=>t σ H λc H1=>Q (!c) H1
theorem zo(ha:PT X a tA):PW X (.BoolOp .And [a] pos) tA:=by
 intro wh pins s σ H Q I h;refine isTrue_and (bx (ha pins s σ H Q I h) λc s1 e=>?_)
 cases c with
 |true=>exact isTrue_and_nil e
 |false=>exact e
theorem wm(ha:PT X a tA):PW X (.BoolOp .Or [a] pos) tA:=by
 intro wh pins s σ H Q I h;refine isTrue_or (bx (ha pins s σ H Q I h) λc s1 e=>?_)
 cases c with
 |false=>exact isTrue_or_nil e
 |true=>exact e
theorem wn(ha:PT X a tA)(hb:PW X (.BoolOp .And (b::rest) pos) tB'):PW X (.BoolOp .And (a::b::rest) pos) (JQ tA tB'):=by
 intro wh pins s σ H Q I h;refine isTrue_and (bx (ha pins s σ H _ I h) λc s1 ⟨H1,I1,q1⟩=>?_)
 cases c with
 |true=>exact hb wh pins s1 σ H1 Q I1 q1
 |false=>exact⟨H1,I1,q1⟩
theorem wo(ha:PT X a tA)(hb:PW X (.BoolOp .Or (b::rest) pos) tB'):PW X (.BoolOp .Or (a::b::rest) pos) (Mm tA tB'):=by
 intro wh pins s σ H Q I h;refine isTrue_or (bx (ha pins s σ H _ I h) λc s1 ⟨H1,I1,q1⟩=>?_)
 cases c with
 |true=>exact⟨H1,I1,q1⟩
 |false=>exact hb wh pins s1 σ H1 Q I1 q1
theorem wq(ha:PT X a tA):PT X (.UnaryOp .Not a pos) (JR tA):=by
 intro pins s σ H Q I h;exact isTrue_not (ha pins s σ H (λc H1=>Q (!c) H1) I h)
noncomputable def Mn(t:TT)(ta tb:TE):TE:=λσ H Q=>t σ H λc H1=>if c=PX then ta σ H1 Q else tb σ H1 Q
theorem oE{c:P0}(hc:PT X c tA)(ha:PE X a ta)(hb:PE X b tb):PE X (.IfExp c a b pos) (Mn tA ta tb):=by
 intro pins s σ H Q I h;refine wpAny_IfExp (bx (hc pins s σ H _ I h) λd s1 ⟨H1,I1,q1⟩=>?_)
 cases d with
 |true=>exact ha pins s1 σ H1 Q I1 q1
 |false=>exact hb pins s1 σ H1 Q I1 q1
end
end L2
namespace L2
open PySem PySem.Spec PyProof.Rows
noncomputable def SqL(K:MW)(H:Hp)(a:P1)(xs:List V):Prop:=
 Rd H a (.lst xs)\/
  ∃(o:Obj) (its:Array PZ) (n:Nat),K.lookup a=PU o/\o.cls=.type "list"/\o.dict=PV/\o.data=.seq its n/\its.size<=sizeLine/\Vals xs its.toList
noncomputable def SqT(K:MW)(H:Hp)(a:P1)(xs:List V):Prop:=
 Rd H a (.tup xs)\/
  ∃(o:Obj) (its:Array PZ) (n:Nat),K.lookup a=PU o/\o.cls=.type "tuple"/\o.data=.seq its n/\its.size<=sizeLine/\Vals xs its.toList
noncomputable def JS:PZ->Option V
 |.none=>PU .non
 |.bool b=>PU (.bl b)
 |.int i _=>PU (.int i)
 |.str x _=>PU (.str x)
 |.bytes b _=>PU (.byt b)
 |.float b _=>PU (.flt b)
 |.ref a=>PU (.ref a)
 |.type n=>PU (.ty n)
 |_=>PV
theorem RelV.abs(r:RelV x u):JS u=PU x:=by
 cases x with
 |non=>cases r;rfl
 |bl _=>cases r;rfl
 |int _=>obtain⟨t,rfl⟩:=r;rfl
 |str _=>obtain⟨t,rfl⟩:=r;rfl
 |byt _=>obtain⟨t,rfl⟩:=r;rfl
 |flt _=>obtain⟨t,rfl⟩:=r;rfl
 |ref _=>cases r;rfl
 |ty _=>cases r;rfl
theorem RelV.inj(r:RelV x u)(q:RelV y u):x=y:=Option.some.inj (r.abs.symm.trans q.abs)
theorem Vals.inj:∀{xs ys:List V} {us:List PZ},Vals xs us->Vals ys us->xs=ys
 |_,_,_,.nil,.nil=>rfl
 |_,_,_,.cons r t,.cons r' t'=>by rw[r.inj r',Vals.inj t t']
section
variable {X:Cx} {pins:List (P1×Obj)} {σ:St} {H:Hp} {s:P2} {a:P1} {xs ys:List V}
theorem SqL.of{K:MW}(h:H a=PU (.lst xs)):SqL K H a xs:=.inl (.inl h)
theorem SqT.of{K:MW}(h:H a=PU (.tup xs)):SqT K H a xs:=.inl (.inl h)
theorem Inv.list(I:Inv X pins σ H s)(h:SqL X.K H a xs):∃its:List PZ,Vals xs its/\PlainL s.heap a its.toArray/\xs.length<=sizeLine:=by
 rcases h with h|⟨o,its,n,hk,hc,hd,hs,hz,r⟩
 ·obtain⟨z,its,n,r,e⟩:=h.ok I.hok;exact⟨its,r,⟨_,n,e,rfl,rfl,rfl⟩,z⟩
 ·refine⟨its.toList,r,⟨o,n,I.kIn a o hk,hc,hd,by simpa using hs⟩,?_⟩;have e:=r.length;simp only[Pj] at e
  lia
theorem Inv.tuple(I:Inv X pins σ H s)(h:SqT X.K H a xs):∃its:List PZ,Vals xs its/\IsTup s.heap a its.toArray/\xs.length<=sizeLine:=by
 rcases h with h|⟨o,its,n,hk,hc,hs,hz,r⟩
 ·obtain⟨z,its,r,p⟩:=h.ok I.hok;exact⟨its,r,p,z⟩
 ·refine⟨its.toList,r,⟨o,I.kIn a o hk,hc,n,by simpa using hs⟩,?_⟩;have e:=r.length;simp only[Pj] at e
  lia
theorem Inv.list_inj(I:Inv X pins σ H s)(h:SqL X.K H a xs)(h':SqL X.K H a ys):xs=ys:=by
 obtain⟨its,r,⟨o,n,e,_,_,d⟩,_⟩:=I.list h;obtain⟨its',r',⟨o',n',e',_,_,d'⟩,_⟩:=I.list h';rw[e] at e';cases e';rw[d] at d';injection d' with d1 _;have:its=its':=by simpa using congrArg Array.toList d1
 subst this;exact r.inj r'
theorem Inv.tuple_inj(I:Inv X pins σ H s)(h:SqT X.K H a xs)(h':SqT X.K H a ys):xs=ys:=by
 obtain⟨its,r,⟨o,e,_,n,d⟩,_⟩:=I.tuple h;obtain⟨its',r',⟨o',e',_,n',d'⟩,_⟩:=I.tuple h';rw[e] at e';cases e';rw[d] at d';injection d' with d1 _;have:its=its':=by simpa using congrArg Array.toList d1
 subst this;exact r.inj r'
end
noncomputable abbrev Cx.wish(X:Cx)(E:PZ->P2->Prop):Cx:={ X with xe:=E }
noncomputable abbrev Cx.nox(X:Cx):Cx:=X.wish λ_ _=>False
theorem Cx.Ok.wish{X:Cx}(ok:X.Ok)(E:PZ->P2->Prop):(X.wish E).Ok:=
 ⟨ok.mod,ok.kind,ok.glob,ok.blt,ok.above,ok.inj,ok.has,ok.cab,ok.hd,ok.frames,ok.stk,ok.exf,ok.bs,ok.bsz,ok.noex,ok.exfs,ok.funs,ok.frf⟩
theorem Cx.Ok.unwish{X:Cx}(ok:(X.wish E).Ok):X.Ok:=
 ⟨ok.mod,ok.kind,ok.glob,ok.blt,ok.above,ok.inj,ok.has,ok.cab,ok.hd,ok.frames,ok.stk,ok.exf,ok.bs,ok.bsz,ok.noex,ok.exfs,ok.funs,ok.frf⟩
section
variable {X:Cx} {pins:List (P1×Obj)} {σ:St} {H:Hp} {s:P2} {E:PZ->P2->Prop}
theorem Inv.wish(I:Inv X pins σ H s)(E:PZ->P2->Prop):Inv (X.wish E) pins σ H s:=⟨I.ok.wish E,I.os,I.bare,I.base,I.loc,I.cell,I.free,I.freeC,I.pin,I.hok,I.len⟩
theorem Inv.unwish(I:Inv (X.wish E) pins σ H s):Inv X pins σ H s:=⟨I.ok.unwish,I.os,I.bare,I.base,I.loc,I.cell,I.free,I.freeC,I.pin,I.hok,I.len⟩
theorem SP.unwish(h:SP (X.wish E) pins D f s'):SP X pins D f s':=by
 cases f with
 |next=>obtain⟨σ',H',I,q⟩:=h;exact⟨σ',H',I.unwish,q⟩
 |brk=>obtain⟨σ',H',I,q⟩:=h;exact⟨σ',H',I.unwish,q⟩
 |cont=>obtain⟨σ',H',I,q⟩:=h;exact⟨σ',H',I.unwish,q⟩
 |ret u=>obtain⟨v,σ',H',I,r,q⟩:=h;exact⟨v,σ',H',I.unwish,r,q⟩
theorem PSs.nox{st:List P9}{t:TS}(h:PSs X.nox st t):PSs X st t:=λpins s σ H D I hw=>
 wpAny_mono (h pins s σ H D (I.wish _) hw) (λ_ _ q=>q.unwish) λ_ _ z=>False.elim z
end
section
variable {X:Cx} {st:P9} {rest:List P9} {t u:TS} {e:P0} {te:TE} {pos:Pos}
noncomputable def wt:TS:=λD σ H=>D.nx σ H
noncomputable def JT(t u:TS):TS:=λD σ H=>t { D with nx:=u D } σ H
theorem jG:PSs X [] wt:=λ_ _ σ H _ I h=>wpAny_execs_nil ⟨σ,H,I,h⟩
theorem fA(h1:PS X st t)(h2:PSs X rest u):PSs X (st::rest) (JT t u):=by
 intro pins s σ H D I h;refine wpAny_execs_cons (bx (h1 pins s σ H { D with nx:=u D } I h) λf s1 q=>?_)
 cases f with
 |next=>
  obtain⟨σ',H',I',q⟩:=q;exact h2 pins s1 σ' H' D I' q
 |ret v=>exact q
 |brk=>exact q
 |cont=>exact q
theorem fW(h1:PS X st t):PSs X [st] t:=by
 intro pins s σ H D I h;refine wpAny_execs_cons (bx (h1 pins s σ H D I h) λf s1 q=>?_)
 cases f with
 |next=>exact wpAny_execs_nil q
 |ret v=>exact q
 |brk=>exact q
 |cont=>exact q
noncomputable def Gx:TS:=λD σ H=>D.ct σ H
theorem zq:PS X (.Pass pos) wt:=λ_ _ σ H _ I h=>wpAny_Pass ⟨σ,H,I,h⟩
theorem oF:PS X (.Continue pos) Gx:=λ_ _ σ H _ I h=>wpAny_Continue ⟨σ,H,I,h⟩
theorem Inv.quiet(I:Inv X pins σ H s):interactive X.env=PY:=by simp[interactive,I.ok.kind]
theorem C4{x j pos pos'}:PS X (.Expr (.Constant (.str x) j pos) pos') wt:=λ_ s σ H _ I h=>wpAny_Expr (Calls.Constant_str (show SP X _ _ .next { s with toks:=s.toks+1 } from⟨σ,H,I.tok _,h⟩)) I.quiet
noncomputable def Gy(te:TE):TS:=λD σ H=>te σ H λ_ H1=>D.nx σ H1
theorem rZ(he:PE X e te)(hs:swapsWith e PV pos.line X.env=pure PY:=by rfl):PS X (.Expr e pos) (Gy te):=by
 intro pins s σ H D I h;exact wpAny_Expr_any (bx (he pins s σ H _ I h) λv s1 ⟨x,H1,I1,r1,q1⟩=>⟨σ,H1,I1,q1⟩) I.quiet hs
noncomputable def JU(te:TE):TS:=λD σ H=>te σ H D.rt
theorem wu(he:PE X e te):PS X (.Return (PU e) pos) (JU te):=by
 intro pins s σ H D I h;exact wpAny_Return_some (bx (he pins s σ H _ I h) λv s1 ⟨x,H1,I1,r1,q1⟩=>⟨x,σ,H1,I1,r1,q1⟩)
noncomputable def JV(c:TT)(t u:TS):TS:=λD σ H=>c σ H λb H1=>if b=PX then t D σ H1 else u D σ H1
theorem jo{c:P0}{a b:List P9}{tc:TT}(hc:PT X c tc)(ha:PSs X a t)(hb:PSs X b u):PS X (.If c a b pos) (JV tc t u):=by
 intro pins s σ H D I h;refine wpAny_If (bx (hc pins s σ H _ I h) λd s1 ⟨H1,I1,q1⟩=>?_)
 cases d with
 |true=>exact ha pins s1 σ H1 D I1 q1
 |false=>exact hb pins s1 σ H1 D I1 q1
noncomputable def C5:TS:=λ_ _ _=>False
theorem iS:PSs X sts C5:=λ_ _ _ _ _ _ h=>h.elim
end
noncomputable abbrev TG:=V->St->Hp->(St->Hp->Prop)->Prop
noncomputable abbrev wv:=List V->St->Hp->(St->Hp->Prop)->Prop
noncomputable def PG(X:Cx)(target:P0)(t:TG):Prop:=
 ∀(pins:List (P1×Obj)) (s:P2) (σ:St) (H:Hp) (v:V) (u:PZ) (Q:St->Hp->Prop),Inv X pins σ H s->RelV v u->t v σ H Q->
  P4 (P5 X.prog X.w) X.A (assign target X.env u) (λ_ s'=>∃σ' H',Inv X pins σ' H' s'/\Q σ' H') X.xe s
noncomputable def C6(X:Cx)(ts:List P0)(t:wv):Prop:=
 ∀(pins:List (P1×Obj)) (s:P2) (σ:St) (H:Hp) (vs:List V) (us:List PZ) (Q:St->Hp->Prop),Inv X pins σ H s->Vals vs us->t vs σ H Q->
  P4 (P5 X.prog X.w) X.A (assignInOrder ((Qi ts X.env).map (·.2)) us) (λ_ s'=>∃σ' H',Inv X pins σ' H' s'/\Q σ' H') X.xe s
noncomputable abbrev C7:=V->V->V->Hp->(Hp->Prop)->Prop
noncomputable def Gz(X:Cx)(t:C7):Prop:=
 ∀(pins:List (P1×Obj)) (s:P2) (σ:St) (H:Hp) (o i v:V) (ov iv u:PZ) (Q:Hp->Prop),Inv X pins σ H s->RelV o ov->RelV i iv->RelV v u->t o i v H Q->
  P4 (P5 X.prog X.w) X.A (setItem ov iv u) (λ_ s'=>∃H',Inv X pins σ H' s'/\Q H') X.xe s
noncomputable abbrev JW:=V->V->Hp->VK->Prop
noncomputable def L0(X:Cx)(op:Qd)(t:JW):Prop:=
 ∀(pins:List (P1×Obj)) (s:P2) (σ:St) (H:Hp) (x y:V) (v u:PZ) (Q:VK),Inv X pins σ H s->RelV x v->RelV y u->t x y H Q->
  P4 (P5 X.prog X.w) X.A (inplaceOp op v u) (EP X pins σ Q) X.xe s
section
variable {X:Cx} {pos:Pos}
noncomputable def kh(i:Nat):TG:=λv σ H Q=>Q (σ.set i (PU v)) H
theorem r6{i:Nat}{x:Str}(hN:X.N.Nodup)(hi:X.N[i]?=PU x)(hx:CY X.env.scope x)(hf:X.fn x=PX\/X.env.scope.names.lookup x=PU .local:=by first|exact .inl rfl|exact .inr rfl|assumption):PG X (.Name x pos) (kh i):=by
 intro pins s σ H v u Q I r h;exact wpAny_assign_Name (dF I hN hi hx r (λs' I'=>⟨_,H,I',h⟩) hf)
noncomputable def C8:wv:=λvs σ H Q=>vs=[]/\Q σ H
noncomputable def ww(t:TG)(u:wv):wv:=λvs σ H Q=>∃v r,vs=v::r/\t v σ H λσ' H'=>u r σ' H' Q
theorem r8:C6 X [] C8:=by
 intro pins s σ H vs us Q I r h;obtain⟨e,h⟩:=h;subst e;cases r;exact assignInOrder_nil ⟨σ,H,I,h⟩
theorem oG{e:P0}{es:List P0}{t:TG}{u:wv}(h1:PG X e t)(h2:C6 X es u)
  (hs:(Qi (e::es) X.env).map (·.2)=assign e X.env::(Qi es X.env).map (·.2):=by rfl):C6 X (e::es) (ww t u):=by
 intro pins s σ H vs us Q I r h;obtain⟨v,vr,e1,h⟩:=h;subst e1
 cases r with
 |cons r rr=>
  rw[hs];refine assignInOrder_cons (bx (h1 pins s σ H _ _ _ I r h) λ_ s1 ⟨σ1,H1,I1,q1⟩=>?_);exact h2 pins s1 σ1 H1 _ _ Q I1 rr q1
noncomputable def GA(K:MW)(n:Nat)(t:wv):TG:=λv σ H Q=>∃a xs,v=.ref a/\SqT K H a xs/\xs.length=n/\t xs σ H Q
theorem qk{k:Nat}{n:Nat}(hc:X.calm=PX)(h:C6 X es t)(hn:(Qi es X.env).length=n:=by rfl)(hst:(Qi es X.env).findIdx? (·.1)=PV:=by rfl):PG X (.Tuple es k pos) (GA X.K n t):=by
 intro pins s σ H v u Q I r hw;obtain⟨a,xs,e1,hq,hl,hw⟩:=hw;subst e1;cases r;obtain⟨its,rv,ht,hz⟩:=I.tuple hq;refine assign_Tuple_tuple (I.ok.hd hc) ht (by simp[hn,<- hl,rv.length]) hst λh' hx=>?_;have I1:Inv X pins σ H { s with heap:=h' }:=I.kept (t':=s.toks) λb o e=>hx b o (Ni (M5 e)) e;exact h pins _ σ H xs _ Q I1 (by simpa using rv) hw
noncomputable def JX(to ti:TE)(t:C7):TG:=λv σ H Q=>to σ H λo H1=>ti σ H1 λi H2=>t o i v H2 λH3=>Q σ H3
theorem C9{o i:P0}{to ti:TE}{t:C7}(ho:PE X o to)(hi:PE X i ti)(hs:Gz X t)
  (ha:∀v,assign (.Subscript o i pos) X.env v=(do
   let ov <- holding [v] (eval o X.env);let iv <- holding [v,ov] (eval i X.env)
   standAt pos
   holding [v,ov,iv] (setItem ov iv v)
   release [v,ov,iv] []):=by intro _;rfl):PG X (.Subscript o i pos) (JX to ti t):=by
 intro pins s σ H v u Q I r h;rw[ha];refine P3 (Qn (bx (ho pins s σ H _ I h) λov s1 ⟨x,H1,I1,r1,q1⟩=>?_));refine P3 (Qn (bx (hi pins s1 σ H1 _ I1 q1) λiv s2 ⟨y,H2,I2,r2,q2⟩=>?_));refine P3 (wpAny_standAt (P3 (Qn (bx (hs pins s2 σ H2 x y v ov iv u _ I2 r1 r2 r q2) λ_ s3 ⟨H3,I3,q3⟩=>?_))));exact wpAny_release ⟨σ,H3,I3,q3⟩
noncomputable def Da(te:TE)(g:TG):TS:=λD σ H=>te σ H λx H1=>g x σ H1 D.nx
theorem mP{tg e:P0}{te:TE}{g:TG}(he:PE X e te)(hg:PG X tg g)(hs:swapsWithSole [tg] e pos.line X.env=pure PY:=by rfl)(hw:swappedStores [tg] e X.env=pure PV:=by rfl)
  (h1:(Qi [tg] X.env).map (·.2)=[assign tg X.env]:=by rfl):PS X (.Assign [tg] e pos) (Da te g):=by
 intro pins s σ H D I h;refine wpAny_Assign_stores (bx (he pins s σ H _ I h) λv s1 ⟨x,H1,I1,r1,q1⟩=>?_) hs hw;rw[h1];exact bx (hg pins s1 σ H1 x v _ I1 r1 q1) λ_ s2 q=>q
theorem ki{i:Nat}{x:Str}{e:P0}{te:TE}{pos':Pos}(hN:X.N.Nodup)(hi:X.N[i]?=PU x)(hx:CY X.env.scope x)(he:PE X e te)(hs:swapsWith e (PU (.Name x pos')) pos.line X.env=pure PY:=by rfl)(hf:X.fn x=PX\/X.env.scope.names.lookup x=PU .local:=by first|exact .inl rfl|exact .inr rfl|assumption) :
  PS X (.Assign [.Name x pos'] e pos) (Da te (kh i)):=by
 intro pins s σ H D I h;refine wpAny_Assign_Name (bx (he pins s σ H _ I h) λv s1 ⟨y,H1,I1,r1,q1⟩=>?_) hs;exact dF I1 hN hi hx r1 (λs2 I2=>⟨_,H1,I2,q1⟩) hf
noncomputable def JY(i j:Nat)(ta:TA):TS:=λD σ H=>ta σ H λvs H1=>∃v w,vs=[v,w]/\D.nx ((σ.set i (PU v)).set j (PU w)) H1
theorem Db{i j:Nat}{x y:Str}{a b:P0}{ta:TA}{px py pt:Pos}{kt k2 pt2}(hc:X.calm=PX)(hN:X.N.Nodup)(hi:X.N[i]?=PU x)(hj:X.N[j]?=PU y)(hij:i≠j)
  (hx:X.env.scope.names.lookup x=PU .local) (hy:X.env.scope.names.lookup y=PU .local) (ha:PA X [a,b] ta)
  (hw:swappedStores [.Tuple [.Name x px,.Name y py] kt pt] (.Tuple [a,b] k2 pt2) X.env=pure (PU [x,y]))
  (hs:swapsWithSole [.Tuple [.Name x px,.Name y py] kt pt] (.Tuple [a,b] k2 pt2) pos.line X.env=pure PY:=by rfl) :
  PS X (.Assign [.Tuple [.Name x px,.Name y py] kt pt] (.Tuple [a,b] k2 pt2) pos) (JY i j ta):=by
 intro pins s σ H D I h;rw[exec_Assign_arm];refine P3 (wpAny_standAt ?_);rw[hs];refine P3 (P7 ?_);rw[if_neg (by decide)];refine P3 (Tuple_ (bx (ha _ pins s σ H _ I h) λus s1 ⟨vs,H1,I1,r1,q1⟩=>?_));obtain⟨v,w,e1,q1⟩:=q1;subst e1
 obtain⟨u1,u2,rfl,rv,rw'⟩:∃u1 u2,us=[u1,u2]/\RelV v u1/\RelV w u2:=by
  cases r1 with
  |cons p q=>
   cases q with
   |cons p' q'=>
    cases q';exact⟨_,_,rfl,p,p'⟩
 refine Qp ?_ (by show 2<=sizeLine;decide);have I2:Inv X pins σ H1 { s1 with heap:=s1.heap.push { cls:=.type "tuple",data:=.seq [u1,u2].toArray } }:=I1.kept (t':=s1.toks) λb o e=>Nb _ e;rw[hw];refine P3 (P7 ?_)
 show P4 (P5 X.prog X.w) X.A (do rule "assign.swapped-stores";let items <- unpackItems (.ref s1.heap.objs.size) 2 PV;assignInOrder [λv=>bindName X.env y v,λv=>bindName X.env x v] items.reverse;pure Flow.next) _ _ _
 refine P3 (wpAny_rule (P3 (unpackItems_tuple (items:=#[u1,u2]) (I.ok.hd hc) (IsTup.new s1.heap _) λh' hx'=>?_)));have I3:=I2.kept (h':=h') (t':=s1.toks) λb o e=>hx' b o (Ni (M5 e)) e
 show P4 _ _ (assignInOrder [λv=>bindName X.env y v,λv=>bindName X.env x v] [u2,u1] >>= λ_=>pure Flow.next) _ _ _
 refine P3 (assignInOrder_cons (wpAny_bindName (dF I3 hN hj (.inl hy) rw' (λs2 I4=>?_) (.inr hy))));refine assignInOrder_cons (wpAny_bindName (dF I4 hN hi (.inl hx) rv (λs3 I5=>assignInOrder_nil (P7 ?_)) (.inr hx)));rw[List.set_comm _ _ (Ne.symm hij)] at I5;exact⟨_,H1,I5,q1⟩
noncomputable def JZ(i:Nat)(te:TE)(ti:JW):TS:=λD σ H=>∃x,σ[i]?=PU (PU x)/\te σ H λy H1=>ti x y H1 λz H2=>D.nx (σ.set i (PU z)) H2
theorem Dc{i:Nat}{x:Str}{e:P0}{te:TE}{op:Qd}{ti:JW}{pos':Pos}(hN:X.N.Nodup)(hi:X.N[i]?=PU x)(hx:CY X.env.scope x)(he:PE X e te)(ho:L0 X op ti)(hf:X.fn x=PX\/X.env.scope.names.lookup x=PU .local:=by first|exact .inl rfl|exact .inr rfl|assumption) :
  PS X (.AugAssign (.Name x pos') op e pos) (JZ i te ti):=by
 intro pins s σ H D I h;obtain⟨v,e1,h⟩:=h;obtain⟨m,hn,hl⟩:=I.loc;have vis:Gv X.env.scope x:=by rcases hx with k|k;exact .inl k;exact .inr (.inl k)
 obtain⟨u,r,l⟩:=hl i x v hi e1 vis;refine wpAny_AugAssign_Name ?_
 have go:P4 (P5 X.prog X.w) X.A (eval e X.env) (λw s₂=>P4 (P5 X.prog X.w) X.A (inplaceOp op u w) (λr s₃=>P4 (P5 X.prog X.w) X.A (storeName X.env x r) (λ_=>SP X pins D .next) X.xe s₃) X.xe s₂) X.xe s:=by
  refine bx (he pins s σ H _ I h) λw s1 ⟨y,H1,I1,r1,q1⟩=>?_;refine bx (ho pins s1 σ H1 v y u w _ I1 r r1 q1) λz s2 ⟨zv,H2,I2,r2,q2⟩=>?_;exact dF I2 hN hi hx r2 (λs3 I3=>⟨_,H2,I3,q2⟩) hf
 rcases l with⟨hk,hm⟩|⟨hk,c,hc,hcell⟩
 ·exact wpAny_loadName_local I.ok.kind hk hn hm go
 ·rcases hk with hk|hk
  ·exact wpAny_loadName_cell I.ok.kind hk hc hcell go
  ·rcases hx with k|k
   ·have:X.env.scope.names.lookup x=PU .free:=hk;rw[k] at this;cases this
   ·have:X.env.scope.names.lookup x=PU .free:=hk;rw[k] at this;cases this
end
section
variable {X:Cx} {pos:Pos}
noncomputable def Dd(c:TT)(tb:TS):TS:=λD σ H=>∃W:Nat->St->Hp->Prop,(∃m,W m σ H)/\∀m σ H,W m σ H->
 c σ H λb H1=>if b=PX then ∃N:St->Hp->Prop,(∀σ' H',N σ' H'->∃m',m'<m/\W m' σ' H')/\tb { D with nx:=N,ct:=N,bk:=D.nx } σ H1 else D.nx σ H1
theorem oH{c:P0}{body:List P9}{tc:TT}{tb:TS}(hp:PassesOwn (P5 X.prog X.w) X.A X.env X.xe)(hc:PT X c tc)(hb:PSs X body tb):PS X (.While c body [] pos) (Dd tc tb):=by
 intro pins s σ H D I h;obtain⟨W,⟨m0,w0⟩,turn⟩:=h;refine wpAny_While (codeAny_whileLoop (λn s'=>∃σ' H',Inv X pins σ' H' s'/\W n σ' H') ?_ m0 ⟨σ,H,I,w0⟩)
 rintro n s1 ⟨σ1,H1,I1,w1⟩
 refine Qm hp (bx (hc pins s1 σ1 H1 _ I1 (turn n σ1 H1 w1)) λb s2 ⟨H2,I2,q2⟩=>?_)
 cases b with
 |true=>
  obtain⟨N,hN,q2⟩:=q2;rw[if_pos rfl];refine Qm hp (bx (hb pins s2 σ1 H2 _ I2 q2) λf s3 q3=>?_)
  cases f with
  |next=>
   obtain⟨σ3,H3,I3,n3⟩:=q3;obtain⟨m',hm,w3⟩:=hN σ3 H3 n3;exact⟨m',hm,σ3,H3,I3,w3⟩
  |cont=>
   obtain⟨σ3,H3,I3,n3⟩:=q3;obtain⟨m',hm,w3⟩:=hN σ3 H3 n3;exact⟨m',hm,σ3,H3,I3,w3⟩
  |brk=>exact q3
  |ret v=>exact q3
 |false=>
  rw[if_neg NQ];exact wpAny_execs_nil ⟨σ1,H2,I2,q2⟩
end
structure It where
 go:Nat->Hp->Prop
 yld:Nat->Hp->V->Hp->Prop
 stop:Nat->Hp->Prop
noncomputable def kj(X:Cx)(pins:List (P1×Obj))(H:Hp)(b:P1):Prop:=
 H b=PV/\b≠X.env.locals/\b∉X.fs/\(b∈X.ex\/X.s₀.heap.objs.size<=b)/\(∀x c,X.env.cells.lookup x=PU c->c≠b)/\∀p∈X.pn++pins,p.1≠b
theorem Inv.fpOk{H H':Hp}{s:P2}(I:Inv X pins σ H s)(hb:s.heap.objs.size<=b)(hn:H' b=PV):kj X pins H' b:=by
 refine⟨hn,N6 (M6 I.lt hb),I.nofs hb,.inr (Nq I.sz hb),λx c e z=>?_,λp hp z=>?_⟩
 ·obtain⟨v,q⟩:=I.cell x c e;exact absurd (M6 q.lt (by rw[z];exact hb)) (NU _)
 ·exact absurd (M6 (M5 (I.pin p hp).1) (by rw[z];exact hb)) (NU _)
structure ql(P:Program)(w:World)(K:MW)(tg:Expr)(J:It)(fp:List Addr)(it:Addr)(tn:Nat->Heap->Prop):Prop where
 mem:it∈fp
 obj:∀i h,tn i h->∀b∈fp,∃o,h.get? b=PU o/\∀v,o.data≠.cell v
 keep:∀i h h',tn i h->(∀b∈fp,∀o,h.get? b=PU o->h'.get? b=PU o)->tn i h'
 item:∀(X:Cx),X.prog=P->X.w=w->X.K=K->X.calm=PX->∀(i:Nat) (pins:List (P1×Obj)) (s:P2) (σ:St) (H:Hp) (E:PZ->P2->Prop),Inv X pins σ H s->(∀b∈fp,kj X pins H b)->tn i s.heap->J.go i H->
  P4 (P5 P w) X.A (pyNext (.ref it)) (λr s1=>∃u,r=PU u/\
   P4 (P5 P w) X.A (letOwnedTupleGo tg (.ref it) u) (λ_ s2=>∃x H',Inv X pins σ H' s2/\RelV x u/\J.yld i H x H'/\tn (i+1) s2.heap/\∀b∈fp,H' b=PV) E s1) E s
 done:∀(X:Cx),X.prog=P->X.w=w->X.K=K->X.calm=PX->∀(i:Nat) (pins:List (P1×Obj)) (s:P2) (σ:St) (H:Hp) (E:PZ->P2->Prop),Inv X pins σ H s->(∀b∈fp,kj X pins H b)->tn i s.heap->J.stop i H->
  P4 (P5 P w) X.A (pyNext (.ref it)) (λr s1=>r=PV/\Inv X pins σ H s1) E s
 self:∀(A:Qc) (i:Nat) (s:P2) (Q:PZ->P2->Prop) (E:PZ->P2->Prop),tn i s.heap->Q (.ref it) s->P4 (P5 P w) A (pyIter (.ref it)) Q E s
noncomputable abbrev TI:=St->Hp->(It->Hp->Prop)->Prop
noncomputable def J1(X:Cx)(pins:List (P1×Obj))(σ:St)(tg:P0)(R:It->Hp->Prop)(itv:PZ)(s2:P2):Prop:=
 ∃(it:P1) (fp:List P1) (tn:Nat->Qa->Prop) (J:It) (H':Hp),itv=.ref it/\Inv X pins σ H' s2/\ql X.prog X.w X.K tg J fp it tn/\tn 0 s2.heap/\(∀b∈fp,kj X pins H' b)/\R J H'
noncomputable def PI(X:Cx)(tg iter:P0)(wi:TI):Prop:=
 ∀(pins:List (P1×Obj)) (s:P2) (σ:St) (H:Hp) (R:It->Hp->Prop),Inv X pins σ H s->wi σ H R->
  P4 (P5 X.prog X.w) X.A (eval iter X.env) (λv s1=>P4 (P5 X.prog X.w) X.A (pyIter v) (J1 X pins σ tg R) X.xe s1) X.xe s
theorem wx{s:P2}{o:Obj}{n:String}{Q:Unit->P2->Prop}(ho:s.heap.get? it=PU o)(hc:o.cls=.type n)(hd:o.data=.fields vs)(hn:["enumerate","zip","dict_itemiterator","dict_reverseitemiterator","odict_iterator","itertools.zip_longest","itertools.pairwise"].contains n=PY)(hQ:Q () s):P4 M A (letOwnedTupleGo tg (.ref it) u) Q E s:=by
  unfold letOwnedTupleGo
  cases tg<;>first
    |exact P7 hQ
    |(cases u<;>first
        |exact P7 hQ
        | (refine P3 (wpAny_load ho ?_)
           rw[hc,hd]
           show P4 M A (if(["enumerate","zip","dict_itemiterator","dict_reverseitemiterator","odict_iterator","itertools.zip_longest","itertools.pairwise"].contains n&&vs[0]?==PU (Qr _))=PX then _ else _) Q E s
           rw[if_neg (by intro h;rw[hn,Bool.false_and] at h;cases h)];exact P7 hQ))
noncomputable def FW(K:MW)(a:P1):It:=
 ⟨λi H=>∃xs x,SqL K H a xs/\xs[i]?=PU x,λi H x H'=>H'=H/\∀xs,SqL K H a xs->xs[i]?=PU x,λi H=>∃xs,SqL K H a xs/\xs.length<=i⟩
noncomputable def J2(K:MW)(a:P1):It:=
 ⟨λi H=>∃xs x,SqT K H a xs/\xs[i]?=PU x,λi H x H'=>H'=H/\∀xs,SqT K H a xs->xs[i]?=PU x,λi H=>∃xs,SqT K H a xs/\xs.length<=i⟩
noncomputable def GB(lo:Int)(n:Nat):It:=⟨λi _=>i<n,λi H x H'=>H'=H/\x=.int (lo+i),λi _=>n<=i⟩
theorem uE{P:P6}{w:P8}{K:MW}{tg:P0}(a it:P1):ql P w K tg (FW K a) [it] it (λi h=>h.IsListIter it a i) where
 mem:=by simp
 obj:=λi h st b hb=>by
  have e:b=it:=by simpa using hb
  subst e;obtain⟨o,e,c,d⟩:=st;exact⟨o,e,λv z=>by rw[d] at z;cases z⟩
 keep:=λi h h' st k=>st.at λo e=>k it (by simp) o e
 item:=by
  intro X hP hw hK hc i pins s σ H E I hf st hg;subst hP hw hK;obtain⟨xs,x,hq,hx⟩:=hg;obtain⟨its,rv,p,hz⟩:=I.list hq;obtain⟨u,hu,ru⟩:=rv.get hx;obtain⟨f0,f1,f2,f3,f4,f5⟩:=hf it (by simp);refine wpAny_pyNext_list_item st p.isList (x:=u) (by simpa using hu) λh' st' sb=>?_;have I1:Inv X pins σ H { s with heap:=h' }:=I.turned (t':=s.toks) (λb o hb e=>(sb.2 b hb).trans e) f0 f1 f3 f4 f5;obtain⟨o,e,c,d⟩:=id st';exact⟨u,rfl,wx (s:={ s with heap:=h' }) e c d (by decide) ⟨x,H,I1,ru,⟨rfl,λys hy=>by rw[I.list_inj hy hq];exact hx⟩,st',λb hb=>(hf b hb).1⟩⟩
 done:=by
  intro X hP hw hK hc i pins s σ H E I hf st hg;subst hP hw hK;obtain⟨xs,hq,hx⟩:=hg;obtain⟨its,rv,p,hz⟩:=I.list hq;obtain⟨f0,f1,f2,f3,f4,f5⟩:=hf it (by simp);have hl:=rv.length;exact wpAny_pyNext_list_end (I.ok.hd hc) st p.isList (by simp;lia) λh' eb=>⟨rfl,I.turned (t':=s.toks) (λb o hb e=>eb b o hb e) f0 f1 f3 f4 f5⟩
 self:=λ_ _ _ _ _ st h=>wpAny_pyIter_listiter st h
theorem qm{P:P6}{w:P8}{K:MW}{tg:P0}(a it:P1):ql P w K tg (J2 K a) [it] it (λi h=>h.IsTupleIter it a i) where
 mem:=by simp
 obj:=λi h st b hb=>by
  have e:b=it:=by simpa using hb
  subst e;obtain⟨o,e,c,d⟩:=st;exact⟨o,e,λv z=>by rw[d] at z;cases z⟩
 keep:=λi h h' st k=>st.at λo e=>k it (by simp) o e
 item:=by
  intro X hP hw hK hc i pins s σ H E I hf st hg;subst hP hw hK;obtain⟨xs,x,hq,hx⟩:=hg;obtain⟨its,rv,p,hz⟩:=I.tuple hq;obtain⟨u,hu,ru⟩:=rv.get hx;obtain⟨f0,f1,f2,f3,f4,f5⟩:=hf it (by simp);refine wpAny_pyNext_tuple_item st (show s.heap.IsTuple a its.toArray from p) (x:=u) (by simpa using hu) λh' st' sb=>?_;have I1:Inv X pins σ H { s with heap:=h' }:=I.turned (t':=s.toks) (λb o hb e=>(sb.2 b hb).trans e) f0 f1 f3 f4 f5;obtain⟨o,e,c,d⟩:=id st';exact⟨u,rfl,wx (s:={ s with heap:=h' }) e c d (by decide) ⟨x,H,I1,ru,⟨rfl,λys hy=>by rw[I.tuple_inj hy hq];exact hx⟩,st',λb hb=>(hf b hb).1⟩⟩
 done:=by
  intro X hP hw hK hc i pins s σ H E I hf st hg;subst hP hw hK;obtain⟨xs,hq,hx⟩:=hg;obtain⟨its,rv,p,hz⟩:=I.tuple hq;obtain⟨f0,f1,f2,f3,f4,f5⟩:=hf it (by simp);have hl:=rv.length;exact wpAny_pyNext_tuple_end (I.ok.hd hc) st (show s.heap.IsTuple a its.toArray from p) (by simp;lia) λh' eb=>⟨rfl,I.turned (t':=s.toks) (λb o hb e=>eb b o hb e) f0 f1 f3 f4 f5⟩
 self:=λ_ _ _ _ _ st h=>wpAny_pyIter_tupleiter st h
theorem qo{P:P6}{w:P8}{K:MW}{tg:P0}(it:P1)(lo:Int)(n:Nat):ql P w K tg (GB lo n) [it] it (λi h=>IsRangeIter h it (lo+(i:Nat)*1) ((n:Int)-(i:Nat)) 1) where
 mem:=by simp
 obj:=λi h st b hb=>by
  have e:b=it:=by simpa using hb
  subst e
  exact⟨_,st,λv z=>by
   have z':Data.fields _=Data.cell v:=z;cases z'⟩
 keep:=λi h h' st k=>k it (by simp) _ st
 item:=by
  intro X hP hw hK hc i pins s σ H E I hf st hg;subst hP hw hK;obtain⟨f0,f1,f2,f3,f4,f5⟩:=hf it (by simp);have W:=Walks.range (prog:=X.prog) (w:=X.w) (I.ok.hd hc) it lo 1 n;refine W.item i s _ _ hg st λv h' tk hv st' kk=>?_;obtain⟨t,rfl⟩:=hv;have I1:Inv X pins σ H { s with heap:=h',toks:=tk }:=I.turned (λb o hb e=>kk b o (by simpa using hb) e) f0 f1 f3 f4 f5;refine⟨_,rfl,wx (s:={ s with heap:=h',toks:=tk }) (n:="range_iterator") st' rfl rfl (by decide) ⟨.int (lo+i),H,I1,⟨t,?_⟩,⟨rfl,rfl⟩,st',λb hb=>(hf b hb).1⟩⟩;rw[Int.mul_one]
 done:=by
  intro X hP hw hK hc i pins s σ H E I hf st hg;subst hP hw hK;obtain⟨f0,f1,f2,f3,f4,f5⟩:=hf it (by simp);exact wpAny_pyNext_range_end (I.ok.hd hc) st (by have:n<=i:=hg;lia) λh' eb=>⟨rfl,I.turned (t':=s.toks) (λb o hb e=>eb b o hb e) f0 f1 f3 f4 f5⟩
 self:=λ_ _ _ _ _ st h=>wpAny_pyIter_rangeiter st h
end L2
namespace L2
open PySem PySem.Spec PyProof.Rows
section
variable {X:Cx} {tg:P0}
noncomputable def GC(K:MW)(tl:TE):TI:=λσ H R=>tl σ H λx H1=>∃a,x=.ref a/\(∃xs,SqL K H1 a xs)/\R (FW K a) H1
noncomputable def J3(K:MW)(tl:TE):TI:=λσ H R=>tl σ H λx H1=>∃a,x=.ref a/\(∃xs,SqT K H1 a xs)/\R (J2 K a) H1
theorem zr{l:P0}{tl:TE}(hl:PE X l tl):PI X tg l (GC X.K tl):=by
 intro pins s σ H R I h;refine bx (hl pins s σ H _ I h) λv s1 ⟨x,H1,I1,r1,q1⟩=>?_;obtain⟨a,e,⟨xs,hq⟩,q⟩:=q1;subst e;cases r1;obtain⟨its,rv,p,hz⟩:=I1.list hq;refine wpAny_pyIter_list p.isList ?_;refine⟨s1.heap.objs.size,[s1.heap.objs.size],_,_,H1,rfl,I1.kept (t':=s1.toks) λb o e=>Nb _ e,uE a _,⟨_,Nt _ rfl,rfl,rfl⟩,λb hb=>?_,q⟩;have e:b=s1.heap.objs.size:=by simpa using hb
 subst e;exact I1.fpOk (M8 _) (I1.hok.fresh (M8 _))
theorem De{l:P0}{tl:TE}(hl:PE X l tl):PI X tg l (J3 X.K tl):=by
 intro pins s σ H R I h;refine bx (hl pins s σ H _ I h) λv s1 ⟨x,H1,I1,r1,q1⟩=>?_;obtain⟨a,e,⟨xs,hq⟩,q⟩:=q1;subst e;cases r1;obtain⟨its,rv,p,hz⟩:=I1.tuple hq;refine wpAny_pyIter_tuple (show s1.heap.IsTuple a its.toArray from p) ?_;refine⟨s1.heap.objs.size,[s1.heap.objs.size],_,_,H1,rfl,I1.kept (t':=s1.toks) λb o e=>Nb _ e,qm a _,⟨_,Nt _ rfl,rfl,rfl⟩,λb hb=>?_,q⟩;have e:b=s1.heap.objs.size:=by simpa using hb
 subst e;exact I1.fpOk (M8 _) (I1.hok.fresh (M8 _))
theorem oI{s:P2}{R:It->Hp->Prop}{lo hi:Int}{tk:Nat}(I:Inv X pins σ H s)(h1:-(2^62)<=lo)(h2:lo<2^62)(h3:-(2^62)<=hi)(h4:hi<2^62)(q:R (GB lo (hi-lo).toNat) H):P4 (P5 X.prog X.w) X.A (pyIter (.ref s.heap.objs.size)) (J1 X pins σ tg R) E { s with heap:=s.heap.push { cls:=.type "range",data:=.fields #[.int lo t,.int hi u,.int 1 v] },toks:=tk }:=by
 refine wpAny_pyIter_range (IsRange.new ..) (small_one h1 h2 h3 h4) ?_;have I1:Inv X pins σ H { s with heap:=s.heap.push { cls:=.type "range",data:=.fields #[.int lo t,.int hi u,.int 1 v] },toks:=tk }:=I.kept λb o e=>Nb _ e
 refine⟨(s.heap.push { cls:=.type "range",data:=.fields #[.int lo t,.int hi u,.int 1 v] }).objs.size,[(s.heap.push { cls:=.type "range",data:=.fields #[.int lo t,.int hi u,.int 1 v] }).objs.size],_,_,H,rfl,
  I1.kept (t':=tk) λb o e=>Nb _ e,qo _ lo (hi-lo).toNat,?_,λb hb=>?_,q⟩
 ·have e1:lo+((0:Nat):Int)*1=lo:=by simp
  have e2:(((hi-lo).toNat:Nat):Int)-((0:Nat):Int)=Builtin.Range.rangeSize lo hi 1:=by rw[rangeSize_one];split<;>lia
  show IsRangeIter _ _ (lo+((0:Nat):Int)*1) ((((hi-lo).toNat:Nat):Int)-((0:Nat):Int)) 1;rw[e1,e2];exact Nt _ rfl
 ·have e:b=(s.heap.push { cls:=.type "range",data:=.fields #[.int lo t,.int hi u,.int 1 v] }).objs.size:=by simpa using hb
  subst e;exact I1.fpOk (M8 _) (I1.hok.fresh (M8 _))
noncomputable def GD(ta:TA):TI:=λσ H R=>ta σ H λvs H1=>∃j:Int,vs=[.int j]/\-(2^62)<=j/\j<2^62/\R (GB 0 j.toNat) H1
noncomputable def GE(ta:TA):TI:=λσ H R=>ta σ H λvs H1=>∃i j:Int,vs=[.int i,.int j]/\(-(2^62)<=i/\i<2^62/\-(2^62)<=j/\j<2^62)/\R (GB i (j-i).toNat) H1
theorem lK{a:P0}{ta:TA}{p pos:Pos}(hg:Gl X "range")(hm:X.mg "range" = PV)(ha:PA X [a] ta)(hs:Qb [a] X.env=[(PY,eval a X.env)]:=by rfl):PI X tg (.Call (.Name "range" p) [a] [] pos) (GD ta):=by
 intro pins s σ H R I h;refine Call_ (fy I hg hm boot_range (PyProof.Rows.callWith_type1 (bx (ha pos pins s σ H _ I h) λus s1 ⟨vs,H1,I1,r1,q1⟩=>?_) hs rfl));obtain⟨j,e,q1,q2,q⟩:=q1;subst e
 cases r1 with
 |cons r rr=>
  cases rr;obtain⟨t,rfl⟩:=r;exact call_range_1 (oI I1 (by lia) (by lia) q1 q2 (by simpa using q))
theorem uF{a b:P0}{ta:TA}{p pos:Pos}(hg:Gl X "range")(hm:X.mg "range" = PV)(ha:PA X [a,b] ta)(hs:Qb [a,b] X.env=[(PY,eval a X.env),(PY,eval b X.env)]:=by rfl)(hs2:Qb [b] X.env=[(PY,eval b X.env)]:=by rfl) :
  PI X tg (.Call (.Name "range" p) [a,b] [] pos) (GE ta):=by
 intro pins s σ H R I h;refine Call_ (fy I hg hm boot_range (PyProof.Rows.callWith_type1 (bx (ha pos pins s σ H _ I h) λus s1 ⟨vs,H1,I1,r1,q1⟩=>?_) (by rw[hs,hs2]) (by rw[hs2];rfl)));obtain⟨i,j,e,⟨q1,q2,q3,q4⟩,q⟩:=q1;subst e
 cases r1 with
 |cons r rr=>
  cases rr with
  |cons r' rr=>
   cases rr;obtain⟨t,rfl⟩:=r;obtain⟨t',rfl⟩:=r';exact call_range_2 (oI I1 q1 q2 q3 q4 q)
noncomputable def J4(wi:TI)(g:TG)(tb:TS):TS:=λD σ H=>wi σ H λJ H1=>∃W:Nat->Nat->St->Hp->Prop,(∃m,W 0 m σ H1)/\∀i m σ H,W i m σ H->
 (J.stop i H/\D.nx σ H)\/(J.go i H/\∃N:St->Hp->Prop,(∀σ' H',N σ' H'->∃m',m'<m/\W (i+1) m' σ' H')/\∀x H',J.yld i H x H'->g x σ H' λσ2 H2=>tb { D with nx:=N,ct:=N,bk:=D.nx } σ2 H2)
noncomputable def mQ(fp:List P1)(h:Qa):List (P1×Obj):=fp.filterMap λb=>(h.get? b).map λo=>(b,o)
theorem cR{fp:List P1}{h:Qa}(hb:b∈fp)(e:h.get? b=PU o):(b,o)∈mQ fp h:=Op.mpr ⟨b,hb,by rw[e];rfl⟩
theorem uG{fp:List P1}{h:Qa}{p:P1×Obj}(hp:p∈mQ fp h):p.1∈fp/\h.get? p.1=PU p.2:=by
 obtain⟨b,hb,e⟩:=Op.mp hp
 cases q:h.get? b with
 |none=>rw[q] at e;cases e
 |some o=>
  rw[q] at e;have e':(b,o)=p:=Option.some.inj e;subst e';exact⟨hb,q⟩
theorem Inv.pinned{pins:List (P1×Obj)}{s:P2}{fp:List P1}(I:Inv X pins σ H s)(hf:∀b∈fp,kj X pins H b)(ho:∀b∈fp,∃o,s.heap.get? b=PU o/\∀v,o.data≠.cell v):Inv X (pins++mQ fp s.heap) σ H s:=
 I.pins_of λp hp=>(PM.mp hp).elim (λz=>I.pin p (Nj _ z)) λz=>by
  obtain⟨hb,e⟩:=uG z;obtain⟨f0,f1,f2,_⟩:=hf p.1 hb;obtain⟨o,e',d⟩:=ho p.1 hb;rw[e] at e';cases e';exact⟨e,f0,f1,f2,d⟩
theorem Inv.unpinned{pins pl:List (P1×Obj)}(I:Inv X (pins++pl) σ H s):Inv X pins σ H s:=I.pins_of λp hp=>I.pin p (Nj _ (N3 _ hp))
theorem wy{iter:P0}{body:List P9}{wi:TI}{g:TG}{tb:TS}{pos:Pos}(hp:PassesOwn (P5 X.prog X.w) X.A X.env X.xe)(hc:X.calm=PX)(hi:PI X tg iter wi)(hg:PG X tg g)(hb:PSs X body tb)
  (hs:∀x,foldedSetIterable iter X.env x=pure x:=by intro _;rfl):PS X (.For tg iter body [] pos) (J4 wi g tb):=by
 intro pins s σ H D I h;refine wpAny_For (bx (hi pins s σ H _ I h) λv s1 h1=>bx h1 λitv s2 h2=>?_) hs;obtain⟨it,fp,tn,J,H2,e,I2,T,st2,f2,W,⟨m0,w0⟩,turn⟩:=h2;subst e
 -- what stays PX of the iterator's objects through the loop
 have stat:∀{H':Hp},(∀b∈fp,H' b=PV)->∀b∈fp,kj X pins H' b:=λhn b hb=>⟨hn b hb,(f2 b hb).2⟩;refine codeAny_forLoop_any (λn s'=>∃i σ' H',Inv X pins σ' H' s'/\tn i s'.heap/\(∀b∈fp,H' b=PV)/\W i n σ' H') ?_ m0 ⟨0,σ,H2,I2,st2,λb hb=>(f2 b hb).1,w0⟩
 rintro n s3 ⟨i,σ3,H3,I3,st3,fr3,w3⟩
 rcases turn i n σ3 H3 w3 with⟨stop,qn⟩|⟨go,N,hN,step⟩
 ·refine Qm hp (bx (T.done X rfl rfl rfl hc i pins s3 σ3 H3 X.xe I3 (stat fr3) st3 stop) λr s4 ⟨hr,I4⟩=>?_);subst hr;exact wpAny_execs_nil ⟨σ3,H3,I4,qn⟩
 ·refine Qm hp (bx (T.item X rfl rfl rfl hc i pins s3 σ3 H3 X.xe I3 (stat fr3) st3 go) λr s4 ⟨u,hr,h4⟩=>?_);subst hr;refine Qm hp (bx h4 λ_ s5 ⟨x,H5,I5,r5,y5,st5,fr5⟩=>?_);have I5':=I5.pinned (stat fr5) (T.obj _ _ st5);refine Qm hp (bx (hg _ s5 σ3 H5 x u _ I5' r5 (step x H5 y5)) λ_ s6 ⟨σ6,H6,I6,q6⟩=>?_);refine Qm hp (bx (hb _ s6 σ6 H6 _ I6 q6) λf s7 q7=>?_)
  have again:∀{σ7:St} {H7:Hp},Inv X (pins++mQ fp s5.heap) σ7 H7 s7->N σ7 H7->∃m,m<n/\∃i σ' H',Inv X pins σ' H' s7/\tn i s7.heap/\(∀b∈fp,H' b=PV)/\W i m σ' H':=λ{σ7 H7} I7 n7=>by
   obtain⟨m',hm,w7⟩:=hN σ7 H7 n7;refine⟨m',hm,i+1,σ7,H7,I7.unpinned,T.keep _ _ _ st5 λb hb o e=>(I7.pin (b,o) (Nj _ (Nj _ (cR hb e)))).1,λb hb=>?_,w7⟩;obtain⟨o,e,d⟩:=T.obj _ _ st5 b hb;exact(I7.pin (b,o) (Nj _ (Nj _ (cR hb e)))).2.1
  cases f with
  |next=>obtain⟨σ7,H7,I7,n7⟩:=q7;exact again I7 n7
  |cont=>obtain⟨σ7,H7,I7,n7⟩:=q7;exact again I7 n7
  |brk=>obtain⟨σ7,H7,I7,q7⟩:=q7;exact⟨σ7,H7,I7.unpinned,q7⟩
  |ret v=>obtain⟨x7,σ7,H7,I7,r7,q7⟩:=q7;exact⟨x7,σ7,H7,I7.unpinned,r7,q7⟩
end
end L2
namespace L2
open PySem PySem.Spec PyProof.Rows
noncomputable abbrev R2:=V->V->Hp->VK->Prop
noncomputable def iU(X:Cx)(f:PZ->PZ->Sem PZ)(r:R2):Prop:=
 ∀(pins:List (P1×Obj)) (s:P2) (σ:St) (H:Hp) (x y:V) (v u:PZ) (Q:VK),Inv X pins σ H s->RelV x v->RelV y u->r x y H Q->
  P4 (P5 X.prog X.w) X.A (f v u) (EP X pins σ Q) X.xe s
noncomputable def J5(X:Cx)(f:PZ->Sem PZ)(r:V->Hp->VK->Prop):Prop:=
 ∀(pins:List (P1×Obj)) (s:P2) (σ:St) (H:Hp) (x:V) (v:PZ) (Q:VK),Inv X pins σ H s->RelV x v->r x H Q->
  P4 (P5 X.prog X.w) X.A (f v) (EP X pins σ Q) X.xe s
noncomputable def hU(X:Cx)(f:PZ)(r:List V->Hp->VK->Prop):Prop:=
 ∀(pins:List (P1×Obj)) (s:P2) (σ:St) (H:Hp) (xs:List V) (us:List PZ) (Q:VK),Inv X pins σ H s->Vals xs us->r xs H Q->
  P4 (P5 X.prog X.w) X.A (call f us) (EP X pins σ Q) X.xe s
noncomputable def J6(X:Cx)(r:V->Hp->(Bool->Hp->Prop)->Prop):Prop:=
 ∀(pins:List (P1×Obj)) (s:P2) (σ:St) (H:Hp) (x:V) (v:PZ) (Q:Bool->Hp->Prop),Inv X pins σ H s->RelV x v->r x H Q->
  P4 (P5 X.prog X.w) X.A (truthy v) (TP X pins σ Q) X.xe s
noncomputable def Js(r:R2)(ta tb:TE):TE:=λσ H Q=>ta σ H λx H1=>tb σ H1 λy H2=>r x y H2 Q
noncomputable def Mo(r:V->Hp->VK->Prop)(ta:TE):TE:=λσ H Q=>ta σ H λx H1=>r x H1 Q
noncomputable def rI(C:Int->Int->Prop)(g:Int->Int->V):R2:=λx y H Q=>∃i j,x=.int i/\y=.int j/\C i j/\Q (g i j) H
noncomputable def v5(g:Int->Int->V):R2:=λx y H Q=>∃i j,x=.int i/\y=.int j/\Q (g i j) H
noncomputable def rU(g:Int->V):V->Hp->VK->Prop:=λx H Q=>∃i,x=.int i/\Q (g i) H
section
variable {X:Cx} {a b c:P0} {ta tb tc:TE} {pos:Pos}
theorem Df(ha:PE X a ta)(hb:PE X b tb){pins:List (P1×Obj)}{s:P2}{σ:St}{H:Hp}{R:V->V->Hp->Prop}(I:Inv X pins σ H s)
  (h:ta σ H λx H1=>tb σ H1 λy H2=>R x y H2) {Q:PZ->P2->Prop} {f:PZ->PZ->Sem PZ}
  (hf:∀v u s2 x y H2,Inv X pins σ H2 s2->RelV x v->RelV y u->R x y H2->P4 (P5 X.prog X.w) X.A (f v u) Q X.xe s2) :
  P4 (P5 X.prog X.w) X.A (eval a X.env) (λv s₁=>P4 (P5 X.prog X.w) X.A (eval b X.env) (λu s₂=>P4 (P5 X.prog X.w) X.A (f v u) Q X.xe s₂) X.xe s₁) X.xe s:=by
 refine bx (ha pins s σ H _ I h) λv s1 ⟨x,H1,I1,r1,q1⟩=>?_;refine bx (hb pins s1 σ H1 _ I1 q1) λu s2 ⟨y,H2,I2,r2,q2⟩=>?_;exact hf v u s2 x y H2 I2 r1 r2 q2
theorem BE(ho:iU X (binaryOp op) r)(ha:PE X a ta)(hb:PE X b tb):PE X (.BinOp a op b pos) (Js r ta tb):=by
 intro pins s σ H Q I h;exact wpAny_BinOp (Df ha hb I h λv u s2 x y H2 I2 rx ry q=>ho pins s2 σ H2 x y v u Q I2 rx ry q)
theorem GF{op:UnaryOp}{r:V->Hp->VK->Prop}(ho:J5 X (unaryOp op) r)(ha:PE X a ta):PE X (.UnaryOp op a pos) (Mo r ta):=by
 intro pins s σ H Q I h;exact UnaryOp_ (bx (ha pins s σ H _ I h) λv s1 ⟨x,H1,I1,r1,q1⟩=>ho pins s1 σ H1 x v Q I1 r1 q1)
theorem FX{f:PZ->PZ->Sem PZ}{C:Int->Int->Prop}{g:Int->Int->Int}
  (rule:∀(i j:Int) (t u:Tok) (s:P2) (Q:PZ->P2->Prop) (E:PZ->P2->Prop),C i j->Q (.int (g i j) s.toks) { s with toks:=s.toks+1 }->P4 (P5 X.prog X.w) X.A (f (.int i t) (.int j u)) Q E s) :
  iU X f (rI C λi j=>.int (g i j)):=by
 intro pins s σ H x y v u Q I rx ry h;obtain⟨i,j,rfl,rfl,hc,q⟩:=h;obtain⟨t,rfl⟩:=rx;obtain⟨t',rfl⟩:=ry;exact rule i j t t' s _ _ hc ⟨.int (g i j),H,I.tok _,⟨_,rfl⟩,q⟩
theorem qp{f:PZ->PZ->Sem PZ}{g:Int->Int->Int}
  (rule:∀(i j:Int) (t u:Tok) (s:P2) (Q:PZ->P2->Prop) (E:PZ->P2->Prop),Q (.int (g i j) s.toks) { s with toks:=s.toks+1 }->P4 (P5 X.prog X.w) X.A (f (.int i t) (.int j u)) Q E s) :
  iU X f (v5 λi j=>.int (g i j)):=by
 intro pins s σ H x y v u Q I rx ry h;obtain⟨i,j,rfl,rfl,q⟩:=h;obtain⟨t,rfl⟩:=rx;obtain⟨t',rfl⟩:=ry;exact rule i j t t' s _ _ ⟨.int (g i j),H,I.tok _,⟨_,rfl⟩,q⟩
theorem Dg{f:PZ->PZ->Sem PZ}{g:Int->Int->Bool}
  (rule:∀(i j:Int) (t u:Tok) (s:P2) (Q:PZ->P2->Prop) (E:PZ->P2->Prop),Q (.bool (g i j)) s->P4 (P5 X.prog X.w) X.A (f (.int i t) (.int j u)) Q E s) :
  iU X f (v5 λi j=>.bl (g i j)):=by
 intro pins s σ H x y v u Q I rx ry h;obtain⟨i,j,rfl,rfl,q⟩:=h;obtain⟨t,rfl⟩:=rx;obtain⟨t',rfl⟩:=ry;exact rule i j t t' s _ _ ⟨.bl (g i j),H,I,rfl,q⟩
noncomputable def J7(i j:Int):Prop:=0<=j/\j<=1000000/\i.natAbs<2^64
theorem qr(k:Nat):(0:Int)<=2^k:=by
 rw[two_pow_cast];exact Int.natCast_nonneg _
theorem Dh:iU X (binaryOp .Add) (v5 λi j=>.int (i+j)):=qp λ_ _ _ _ _ _ _ q=>add_int q
theorem Di:iU X (binaryOp .Sub) (v5 λi j=>.int (i-j)):=qp λ_ _ _ _ _ _ _ q=>sub_int q
theorem Dj:iU X (binaryOp .Mod) (rI (λ_ j=>0<j) λi j=>.int (i%j)):=FX λi j _ _ _ _ _ hc q=>by
 have h1:(0:Int)<j:=hc;exact mod_int' (by lia) (by rw[Int.fmod_eq_emod_of_nonneg i (by lia)];exact q)
theorem Dk:iU X (binaryOp .Pow) (rI J7 λi j=>.int (i^j.toNat)):=FX λ_ _ _ _ _ _ _ hc q=>pow_int_small hc.1 hc.2.1 hc.2.2 q
theorem Dl:iU X (binaryOp .RShift) (rI (λ_ j=>0<=j) λi j=>.int (i / 2^j.toNat)):=FX λi j _ _ _ _ _ hc q=>
 rshift_int hc (by rw[OT i (qr _)];exact q)
theorem Dm:iU X (binaryOp .BitAnd) (v5 λi j=>.int (Builtin.bitAnd i j)):=qp λ_ _ _ _ _ _ _ q=>and_int q
theorem GH:iU X (binaryOp .BitOr) (v5 λi j=>.int (Builtin.bitOr i j)):=qp λ_ _ _ _ _ _ _ q=>or_int q
theorem Do:iU X (binaryOp .BitXor) (v5 λi j=>.int (Builtin.bitXor i j)):=qp λ_ _ _ _ _ _ _ q=>xor_int q
theorem zt:iU X (inplaceOp .Add) (v5 λi j=>.int (i+j)):=qp λ_ _ _ _ _ _ _ q=>iadd_int q
theorem Dp:iU X (inplaceOp .BitOr) (v5 λi j=>.int (Builtin.bitOr i j)):=qp λ_ _ _ _ _ _ _ q=>ior_int q
theorem Mp{f:PZ->Sem PZ}{g:Int->Int}
  (rule:∀(i:Int) (t:Tok) (s:P2) (Q:PZ->P2->Prop) (E:PZ->P2->Prop),Q (.int (g i) s.toks) { s with toks:=s.toks+1 }->P4 (P5 X.prog X.w) X.A (f (.int i t)) Q E s) :
  J5 X f (rU λi=>.int (g i)):=by
 intro pins s σ H x v Q I rx h;obtain⟨i,rfl,q⟩:=h;obtain⟨t,rfl⟩:=rx;exact rule i t s _ _ ⟨.int (g i),H,I.tok _,⟨_,rfl⟩,q⟩
theorem Dq:J5 X (unaryOp .USub) (rU λi=>.int (-i)):=Mp λ_ _ _ _ _ q=>neg_int q
end
section
variable {X:Cx} {a b c:P0} {ta tb tc:TE} {pos:Pos}
theorem Dr{Q:VK}{k k':Bool}(I:Inv X pins σ H s)(q:Q (.bl k) H)(e:k=k'):EP X pins σ Q (.bool k') s:=by
 subst e;exact⟨.bl k,H,I,rfl,q⟩
theorem GI:iU X (compareOp .Lt) (v5 λi j=>.bl (decide (i<j))):=Dg λ_ _ _ _ _ _ _ q=>lt_int q
theorem GJ:iU X (compareOp .Gt) (v5 λi j=>.bl (decide (j<i))):=Dg λ_ _ _ _ _ _ _ q=>gt_int q
theorem GK:iU X (compareOp .GtE) (v5 λi j=>.bl (decide (j<=i))):=Dg λ_ _ _ _ _ _ _ q=>ge_int q
theorem zu{op:Ql}{r:R2}(ho:iU X (compareOp op) r)(ha:PE X a ta)(hb:PE X b tb)(hm:Qg op b=PY):PE X (.Compare a [op] [b] pos) (Js r ta tb):=by
 intro pins s σ H Q I h;exact wpAny_Compare1 (Df ha hb I h λv u s2 x y H2 I2 rx ry q=>ho pins s2 σ H2 x y v u Q I2 rx ry q) hm
noncomputable def GL(t:TE):TT:=λσ H Q=>t σ H λx H'=>∃k,x=.bl k/\Q k H'
theorem mR{op:Ql}(ho:iU X (compareOp op) r)(ha:PE X a ta)(hb:PE X b tb)(hm:Qg op b=PY):PT X (.Compare a [op] [b] pos) (GL (Js r ta tb)):=by
 intro pins s σ H Q I h
 refine wpAny_isTrue_Compare1 (bx (ha pins s σ H _ I h) λv s1 ⟨x,H1,I1,r1,q1⟩=>bx (hb pins s1 σ H1 _ I1 q1) λu s2 ⟨y,H2,I2,r2,q2⟩=>
  bx (ho pins s2 σ H2 x y v u _ I2 r1 r2 q2) λc s3 ⟨z,H3,I3,r3,k,e,q3⟩=>?_) hm
 subst e;cases r3;exact Qo ⟨H3,I3,q3⟩
noncomputable def Ds(K:MW)(x:V)(H:Hp)(k:Bool):Prop:=
 match x with
 |.non=>k=PY
 |.bl b=>k=b
 |.int i=>k=(i != 0)
 |.str y=>y.length<=sizeLine/\k=((y.length:Int) != 0)
 |.byt y=>y.size<=sizeLine/\k=((y.size:Int) != 0)
 |.ref p=>(∃xs,SqL K H p xs/\k=!xs.isEmpty)\/(∃xs,SqT K H p xs/\k=!xs.isEmpty)\/∃kvs,H p=PU (.dK kvs)/\k=!kvs.isEmpty
 |_=>False
theorem qt{κ:Type}{kvs:List (κ×V)}{vs:List (κ×PZ)}(r:KV kvs vs):(!vs.isEmpty)=!kvs.isEmpty:=by
 cases r<;>rfl
theorem kl{xs:List V}{its:List PZ}(r:Vals xs its):(!its.toArray.isEmpty)=!xs.isEmpty:=by
 cases r<;>simp
theorem iV:(sizeLine:Nat)<2^63:=by rw[sizeLine_eq];decide
theorem iW:J6 X (λx H Q=>∃k,Ds X.K x H k/\Q k H):=by
 intro pins s σ H x v Q I rx h;obtain⟨k,e,q⟩:=h;have hl:=iV;have hs:sizeLine=16777216:=sizeLine_eq
 cases x with
 |non=>
  cases rx;have e':k=PY:=e;subst e';exact truthy_none ⟨H,I,q⟩
 |bl b=>
  cases rx;have e':k=b:=e;subst e';exact Qo ⟨H,I,q⟩
 |int i=>
  obtain⟨t,rfl⟩:=rx;have e':k=(i != 0):=e;subst e';exact PySem.P.truthy_int ⟨H,I,q⟩
 |str y=>
  obtain⟨t,rfl⟩:=rx;obtain⟨hy,e'⟩:y.length<=sizeLine/\k=((y.length:Int) != 0):=e;subst e';exact PySem.P.truthy_str (by lia) ⟨H,I.tok _,q⟩
 |byt y=>
  obtain⟨t,rfl⟩:=rx;obtain⟨hy,e'⟩:y.size<=sizeLine/\k=((y.size:Int) != 0):=e;subst e';exact PySem.W.truthy_bytes (by lia) ⟨H,I.tok _,q⟩
 |ref p=>
  cases rx;have e':(∃xs,SqL X.K H p xs/\k=!xs.isEmpty)\/(∃xs,SqT X.K H p xs/\k=!xs.isEmpty)\/∃kvs,H p=PU (.dK kvs)/\k=!kvs.isEmpty:=e;rcases e' with⟨xs,hx,e'⟩|⟨xs,hx,e'⟩|⟨kvs,hx,e'⟩
  ·subst e';obtain⟨its,r,pl,hz⟩:=I.list hx;have hlen:=r.length;exact wpAny_truthy_list pl.isList (by simp only[Nc];lia) ⟨H,I.tok _,by rw[kl r];exact q⟩
  ·subst e';obtain⟨its,r,pl,hz⟩:=I.tuple hx;have hlen:=r.length;exact truthy_tuple pl (by simp only[Nc];lia) ⟨H,I.tok _,by rw[kl r];exact q⟩
  ·subst e';obtain⟨hz,hS,vs,r,m⟩:kvs.length<=sizeLine/\(p==sysModules)=PY/\∃vs,KV kvs vs/\s.heap.DictOf (br X.prog X.w) p vs:=I.hok p _ hx;have hlen:kvs.length=vs.length:=Paired.length r;exact wpAny_truthy_dict hS m (by lia) ⟨H,I.tok _,by rw[qt r];exact q⟩
 |_=>exact(show False from e).elim
theorem wz(ha:PE X a ta)(he:∀whole,isTrue a X.env whole=(do let v <- whole;standAt a.pos;holding [v] (truthy v))) :
  PT X a (λσ H Q=>ta σ H λx H'=>∃k,Ds X.K x H' k/\Q k H'):=by
 intro pins s σ H Q I h;exact isTrue_plain (bx (ha pins s σ H _ I h) λv s1 ⟨x,H1,I1,r1,q1⟩=>iW pins s1 σ H1 x v Q I1 r1 q1) (he _)
theorem lL{x:V}(r:Vals [x] us):∃u,us=[u]/\RelV x u:=by
 cases r with
 |cons r1 r2=>cases r2;exact⟨_,rfl,r1⟩
theorem wB(r:Vals [x,y] us):∃u w',us=[u,w']/\RelV x u/\RelV y w':=by
 cases r with
 |cons r1 r2=>
  cases r2 with
  |cons r3 r4=>cases r4;exact⟨_,_,rfl,r1,r3⟩
theorem wC:hU X (.builtin "abs") (λxs H Q=>∃i,xs=[.int i]/\Q (.int (if i<0 then -i else i)) H):=by
 intro pins s σ H xs us Q I r h;obtain⟨i,rfl,q⟩:=h;obtain⟨u,rfl,t,rfl⟩:=lL r
 exact call_abs_int λu tk=>⟨.int (if i<0 then -i else i),H,I.tok _,⟨_,rfl⟩,q⟩
end
end L2
namespace L2
open PySem PySem.Spec PyProof.Rows
structure ObjM(h:Heap)(x dx C:Addr)(mA:Str->Option Value):Prop where
 obj:h.get? x=PU (O2 C dx)
 ns:h.Ns1 dx mA
 ne:dx≠x
theorem uH{h:Qa}{mA:Str->Option PZ}(n:h.Ns1 dx mA):∃od,h.get? dx=PU od/\∀name,Pb name od=PU (mA name):=by
 obtain⟨o,es,ep,ho,hd,hk,_,hm⟩:=n;refine⟨o,ho,λname=>?_⟩;have e:=hm name;unfold nsFind findBy at e;rw[<- Array.find?_toList] at e;unfold Pb;rw[hd];dsimp only;split
 ·rename_i y q;rw[q] at e;exact congrArg PU e
 ·rename_i q;rw[q] at e
  have a:es.toList.any (·.refKey)=PY:=by
   rw[Pt];intro y hy;obtain⟨z,t,hkey⟩:=hk y (Array.mem_toList_iff.mp hy);simp[DictEntry.refKey,hkey]
  have a':¬es.toList.any (·.refKey)=PX:=by rw[a];exact NQ
  rw[if_neg a'];exact congrArg PU e
theorem ObjM.look{mA:Str->Option PZ}(I:ObjM h x dx C mA):∃od,PySem.W.InstAt h x (O2 C dx) C (PU od)/\∀name,Pb name od=PU (mA name):=
 let ⟨od,ho,hl⟩:=uH I.ns
 ⟨od,⟨I.obj,rfl,rfl,ho⟩,hl⟩
section
variable {prog:P6} {w:P8} {A:Qc} {E:PZ->P2->Prop} {s:P2} {K:MW} {x dx C f:P1} {mA:Str->Option PZ} {name:Str} {v:PZ}
end
noncomputable def putF(f:Str)(v:V):List (Str×V)->List (Str×V)
 |[]=>[(f,v)]
 |(g,x)::r=>if g=f then(g,v)::r else(g,x)::putF f v r
theorem RelO.some_of(r:RelO (PU v) o):∃u,o=PU u/\RelV v u:=by
 cases o with
 |none=>exact(show False from r).elim
 |some u=>exact⟨u,rfl,r⟩
section
variable {P:P6} {w:P8} {H H':Hp} {h h':Qa} {a C dx:P1} {fs fs':List (Str×V)}
theorem zw(hok:HOk P w H h)(e:H a=PU (.ins C dx fs)):∃mA,ObjM h a dx C mA/\(∀f,RelO (fs.lookup f) (mA f))/\PySem.Within mA (fs.map (·.1))/\fs.length<=1000/\H dx=PU (.own a):=by
 obtain⟨d,z,ne,ob,mA,n,r,q⟩:=(show ObjOk P w H h a (.ins C dx fs) from hok a _ e);exact⟨mA,⟨ob,n,ne⟩,r,q,z,d⟩
end
structure Cls(K:MW)(C:Addr):Prop where
 pg:PD K C Str.empty=PX
 hd:PySem.W.hasDictIn K C=PX
 po:PySem.W.plainOver K C=PX
 sa:Oh K (.ref C) "__setattr__" = PU (PU (.builtin "object.__setattr__"))
theorem Cls.get{K:MW}{C:P1}(c:Cls K C)(f:Str):PD K C f=PX:=c.pg
noncomputable def mS(K:MW)(C:P1)(f:Str):Prop:=Oh K (.ref C) f=PU PV
structure MU(K:MW)(C:Addr)(f:Str)(v:V)(u:Value):Prop where
 at_:Oh K (.ref C) f=PU (PU u)
 rel:RelV v u
 get:Pu K u "__get__" = PU PV
 cp:PySem.W.copiedNames.contains f=PY
structure Mq(K:MW)(C:Addr)(m:Str)(f:Addr):Prop where
 at_:Oh K (.ref C) m=PU (PU (.ref f))
 fn:PR K (.ref f)=PX
 kp:NC K (.ref f)=PX
section
variable {X:Cx} {pins:List (P1×Obj)} {σ:St} {H:Hp} {s:P2} {a C dx:P1} {fs:List (Str×V)} {f:Str} {v:V} {A:Qc} {E:PZ->P2->Prop}
end
section
variable {X:Cx} {o e value:P0} {f:Str} {pos pos' tpos:Pos} {ta tv:TE}
end
section
variable {X:Cx} {pins:List (P1×Obj)} {σ:St} {H:Hp} {s:P2} {A:Qc} {E:PZ->P2->Prop} {Q:PZ->P2->Prop} {c:PZ} {b:Bool}
inductive hV (K:MW) (H:Hp):V->Value->Prop where
 |non:hV K H .non (.type "NoneType")
 |bl (x:Bool):hV K H (.bl x) (.type "bool")
 |int (i:Int):hV K H (.int i) (.type "int")
 |str (x:Str):hV K H (.str x) (.type "str")
 |flt (x:UInt64):hV K H (.flt x) (.type "float")
 |lst {a:P1} {xs:List V} (e:H a=PU (.lst xs)):hV K H (.ref a) (.type "list")
 |frz {a:P1} {o:Obj} {xs:List V} (e:H a=PU (.frz o (.lst xs))):hV K H (.ref a) (.type "list")
 |tup {a:P1} {xs:List V} (e:H a=PU (.tup xs)):hV K H (.ref a) (.type "tuple")
 |dK {a:P1} {kvs:List (aS×V)} (e:H a=PU (.dK kvs)):hV K H (.ref a) (.type "dict")
 |dT {a:P1} {m ep:Nat} {kvs:List (List (aS ⊕ List aS)×V)} (e:H a=PU (.dT m ep kvs)):hV K H (.ref a) (.type "dict")
 |ins {a C dx:P1} {fs:List (Str×V)} (e:H a=PU (.ins C dx fs)) (cl:Cls K C) (ha:Oh K (.ref C) "__class__" = PU (PU (.builtin "object.__class__")))
   (hn:Pu K (.builtin "object.__class__") "__get__" = PU (PU (.builtin "getset_descriptor.__get__"))) (htk:PySem.W.takesIn K (.builtin "object.__class__")=PU PX)
   (hm:PySem.W.mroIn K C (.type "object")=PU PX):hV K H (.ref a) (.ref C)
theorem uI(I:Inv X pins σ H s)(rx:RelV x u)(ty:hV X.K H x t)(e:NW X.K t c=PU b)(h:∀tk,Q (.bool b) { s with toks:=tk }) :
  P4 (P5 X.prog X.w) A (call (.builtin "isinstance") [u,c]) Q E s:=by
 cases ty with
 |non=>cases(show u=Value.none from rx);exact NM PySem.W.kitx_none I.kIn True.intro e (λz=>nomatch z) h
 |bl y=>cases(show u=Value.bool y from rx);exact NM PySem.W.kitx_bool I.kIn True.intro e (λz=>nomatch z) h
 |int i=>obtain⟨t,q⟩:=(show ∃t,u=Value.int i t from rx);cases q;exact NM PySem.W.kitx_int I.kIn True.intro e (λz=>nomatch z) h
 |str y=>obtain⟨t,q⟩:=(show ∃t,u=Value.str y t from rx);cases q;exact NM PySem.W.kitx_str I.kIn True.intro e (λz=>nomatch z) h
 |flt y=>obtain⟨t,q⟩:=(show ∃t,u=Value.float y t from rx);cases q;exact NM PySem.W.kitx_float I.kIn True.intro e (λz=>nomatch z) h
 |@lst a xs ea=>
  cases(show u=Value.ref a from rx);obtain⟨_,_,n,_,h1⟩:=(show ObjOk X.prog X.w H s.heap a (.lst xs) from I.hok a _ ea)
  exact NM Pv I.kIn ⟨_,h1,rfl⟩ e (λz=>nomatch z) h
 |@frz a ob xs ea=>
  cases(show u=Value.ref a from rx);obtain⟨_,_,_,n,_,h1⟩:=(show ObjOk X.prog X.w H s.heap a (.frz ob (.lst xs)) from I.hok a _ ea)
  exact NM Pv I.kIn ⟨_,h1,rfl⟩ e (λz=>nomatch z) h
 |@tup a xs ea=>
  cases(show u=Value.ref a from rx);obtain⟨_,_,_,p⟩:=(show ObjOk X.prog X.w H s.heap a (.tup xs) from I.hok a _ ea);obtain⟨o,h1,h2,_⟩:=p
  exact NM PySem.W.kitx_tuple I.kIn ⟨o,h1,h2⟩ e (λz=>nomatch z) h
 |@dK a kvs ea=>
  cases(show u=Value.ref a from rx);obtain⟨_,_,vs,_,p⟩:=(show ObjOk X.prog X.w H s.heap a (.dK kvs) from I.hok a _ ea);obtain⟨o,es,ep,h1,h2,_⟩:=p
  exact NM Pw I.kIn ⟨o,h1,h2.1⟩ e (λz=>nomatch z) h
 |@dT a m ep kvs ea=>
  cases(show u=Value.ref a from rx);obtain⟨_,_,xs,_,o,es,h1,h2,_⟩:=(show ObjOk X.prog X.w H s.heap a (.dT m ep kvs) from I.hok a _ ea)
  exact NM Pw I.kIn ⟨o,h1,h2.1⟩ e (λz=>nomatch z) h
 |@ins a C dx fs ea cl ha hn htk hm=>
  cases(show u=Value.ref a from rx);obtain⟨mA,O,_⟩:=zw I.hok ea;obtain⟨od,J,_⟩:=O.look
  exact NM (PySem.W.kitx_own (cl.get _) cl.hd ha hn htk hm) I.kIn J e (λz=>nomatch z) h
end
end L2
namespace L2
open PySem PySem.Spec PyProof.Rows
structure Room(k:Nat)(A:Around):Prop where
 hd:A.handled=PV
 dp:A.depth+3*k+5<recursionLimit
 un:A.units+16*k+200<cLine
 gd:A.guards=PU []
theorem Room.mono{j k:Nat}(r:Room k A)(h:j<=k):Room j A:=⟨r.hd,by have:=r.dp;lia,by have:=r.un;lia,r.gd⟩
theorem Room.deeper{k:Nat}{A:Qc}(r:Room (k+1) A)(env:Env):Room k (A.deeper env):=
 ⟨r.hd,by have:=r.dp;show A.depth+1+3*k+5<_;lia,by have:=r.un;show A.units+3+16*k+200<_;lia,r.gd⟩
theorem Room.depth{k:Nat}{A:Qc}(r:Room k A):A.depth<recursionLimit:=by have:=r.dp;lia
noncomputable def Dt:TA:=λ_ H Q=>Q [] H
noncomputable def GM(ta:TE)(tr:TA):TA:=λσ H Q=>ta σ H λx H1=>tr σ H1 λxs H2=>Q (x::xs) H2
section
variable {X:Cx} {e:P0} {es:List P0} {te:TE} {t:TA} {pos:Pos}
theorem bJ:PA X [] Dt:=λ_ _ _ _ H Q I h=>Calls.spliced_nil ⟨[],H,I,.nil,h⟩
theorem aK(ha:PE X e te)(hr:PA X es t)(hs:Qb (e::es) X.env=(PY,eval e X.env)::Qb es X.env:=by rfl):PA X (e::es) (GM te t):=by
 intro pos pins s σ H Q I h;rw[hs];show P4 _ _ (spliced ((PY,eval e X.env)::backTo pos (Qb es X.env))) _ _ s;refine Calls.spliced_cons (bx (ha pins s σ H _ I h) λu s1 ⟨x,H1,I1,r1,q1⟩=>?_);exact bx (hr pos pins s1 σ H1 _ I1 q1) λus s2 ⟨xs,H2,I2,r2,q2⟩=>⟨x::xs,H2,I2,.cons r1 r2,q2⟩
noncomputable def J8(t:TA):TE:=λσ H Q=>t σ H λxs H1=>xs.length<=sizeLine/\∀p,H1 p=PV->Q (.ref p) (upd H1 p (.tup xs))
noncomputable def J9(t:TA):TE:=λσ H Q=>t σ H λxs H1=>xs.length<=sizeLine/\∀p,H1 p=PV->Q (.ref p) (upd H1 p (.lst xs))
theorem km{x1}(h:PA X es t):PE X (.Tuple es x1 pos) (J8 t):=by
 intro pins s σ H Q I hq;refine wpAny_Tuple_spliced (bx (h pos pins s σ H _ I hq) λus s1 ⟨xs,H1,I1,r,z,q⟩=>⟨by rw[<- r.length];exact z,?_⟩);have hf:H1 s1.heap.objs.size=PV:=I1.hok.fresh (M8 _);refine⟨.ref s1.heap.objs.size,upd H1 s1.heap.objs.size (.tup xs),I1.laid (t':=s1.toks) (λb u e=>Nb _ e) (M8 _) ?_,rfl,q _ hf⟩;exact⟨z,us,r,⟨_,Nt _ rfl,rfl,_,rfl⟩⟩
theorem mV(h:PA X es t):PE X (.List es pos) (J9 t):=by
 intro pins s σ H Q I hq;refine wpAny_List_spliced (bx (h pos pins s σ H _ I hq) λus s1 ⟨xs,H1,I1,r,z,q⟩=>⟨by rw[<- r.length];exact z,?_⟩);have hf:H1 s1.heap.objs.size=PV:=I1.hok.fresh (M8 _);refine⟨.ref s1.heap.objs.size,upd H1 s1.heap.objs.size (.lst xs),I1.laid (t':=s1.toks) (λb u e=>Nb _ e) (M8 _) ?_,rfl,q _ hf⟩;exact⟨z,us,0,r,Nt _ rfl⟩
end
noncomputable abbrev Sp:=List V->Hp->VK->XK->Prop
noncomputable abbrev qu:=List Env->Hp->P2->XK->PZ->P2->Prop
structure zx(P:Program)(w:World)(K:MW)(mg:Str->Option Value)(base:Heap)(A:Around)(outer:List Env)(s:Shared)(H:Hp):Prop where
 frames:A.frames=PU outer
 mod:Mod K mg base
 bs:∀b o,base.get? b=PU o->s.heap.get? b=PU o/\H b=PV
 bsz:base.objs.size<=s.heap.objs.size
 funs:s.heap.FunFrames base outer
 frf:∀b∈gB outer,H b=PV
 hok:HOk P w H s.heap
 bare:AllBare s.gens
noncomputable def CE(outer:List Env)(P:P6)(w:P8)(H:Hp)(s:P2)(Q:VK)(u:PZ)(s':P2):Prop:=
 ∃v H',s'.os=s.os/\AllBare s'.gens/\Un (gB outer) [] H H' s.heap s'.heap/\HOk P w H' s'.heap/\RelV v u/\Q v H'
noncomputable def CR(CX:qu)(outer:List Env)(P:P6)(w:P8)(H:Hp)(s:P2)(Q:VK)(E:XK)(r:Result)(s':P2):Prop:=
 match r with
 |.ok (.ret u)=>CE outer P w H s Q u s'
 |.ok _=>False
 |.error e=>CX outer H s E e s'
structure FnOk(P:Program)(w:World)(K:MW)(mg:Str->Option Value)(base:Heap)(CX:qu)(k:Nat)(f:Addr)(fd:FuncData)(ps:List Str)(sp:Sp):Prop where
 len:∀vs H Q E,sp vs H Q E->vs.length=ps.length
 run:∀(A:Qc) (outer:List Env) (s:P2) (H:Hp) (args:Args) (us:List PZ) (vs:List V) (Q:VK) (E:XK),Room k A->zx P w K mg base A outer s H->BindsTo s fd args (ps.zip us)->Vals vs us->sp vs H Q E->
  codeAny (P5 P w) A (.call (.ref f) args) (CR CX outer P w H s Q E) s
theorem FnOk.mono{P:P6}{w:P8}{K:MW}{mg:Str->Option PZ}{base:Qa}{CX:qu}{j k:Nat}{f:P1}{fd:Qk}{ps:List Str}{sp:Sp}(F:FnOk P w K mg base CX j f fd ps sp)(h:j<=k) :
  FnOk P w K mg base CX k f fd ps sp:=⟨F.len,λA outer s H args us vs Q E hr=>F.run A outer s H args us vs Q E (hr.mono h)⟩
theorem FnOk.imp{P:P6}{w:P8}{K:MW}{mg:Str->Option PZ}{base:Qa}{CX:qu}{k:Nat}{f:P1}{fd:Qk}{ps:List Str}{sp sp':Sp}(F:FnOk P w K mg base CX k f fd ps sp)
  (h:∀vs H Q E,sp' vs H Q E->sp vs H Q E):FnOk P w K mg base CX k f fd ps sp':=
 ⟨λvs H Q E q=>F.len vs H Q E (h _ _ _ _ q),λA outer s H args us vs Q E hr he hb hv hs=>F.run A outer s H args us vs Q E hr he hb hv (h _ _ _ _ hs)⟩
section
variable {X:Cx} {pins:List (P1×Obj)} {σ:St} {H:Hp} {s s':P2}
theorem Inv.env0(I:Inv X pins σ H s):zx X.prog X.w X.K X.mg X.base X.A X.stack s H:=
 ⟨I.ok.frames,I.ok.mod,I.bs,Nq I.ok.bsz I.sz,I.stack,I.stkFree,I.hok,I.bare⟩
theorem Inv.after(I:Inv X pins σ H s)(h:CE X.stack X.prog X.w H s Q u s'):EP X pins σ Q u s':=by
 obtain⟨v,H',os,bare,un,hok,r,q⟩:=h;obtain⟨hh,g,d,t,os'⟩:=s';obtain rfl:os'=s.os:=os;exact⟨v,H',I.call (h':=hh) (g':=g) (d':=d) (t':=t) (ch:=[]) un hok bare (λb z=>absurd z (by simp)),r,q⟩
end
noncomputable def BF(sp:Sp)(dvs:List V)(E:XK)(t:TA):TE:=λσ H Q=>t σ H λvs H1=>sp (vs++dvs) H1 Q E
noncomputable def Binds(K:MW)(fd:Qk)(ps:List Str)(ds:List PZ):Prop:=
 ∀(s:P2) (us:List PZ),K.In s.heap->(us++ds).length=ps.length->BindsTo s fd ⟨us,[]⟩ (ps.zip (us++ds))
theorem Binds.all{K:MW}{fd:Qk}{ps:List Str}(h:∀us:List PZ,us.length=ps.length->bindArgs fd ⟨us,[]⟩=pure (ps.zip us)):Binds K fd ps []:=λs us _ hl=>by
 rw[On] at hl⊢;exact .of_eq (h us hl)
noncomputable def fB(CX:qu)(X:Cx)(E:XK):Prop:=∀(pins:List (P1×Obj)) (σ:St) (H:Hp) (s:P2) (e:PZ) (s':P2),Inv X pins σ H s->CX X.stack H s E e s'->X.xe e s'
section
variable {X:Cx} {CX:qu} {k:Nat} {f C:P1} {fd:Qk} {ps:List Str} {sp:Sp} {dvs:List V} {ds:List PZ} {E:XK} {x m:Str} {p pos apos:Pos} {e o:P0} {es:List P0} {ta:TE} {t:TA}
theorem wD{vs:List V}(F:FnOk X.prog X.w X.K X.mg X.base CX k f fd ps sp)(hr:Room k X.A)(hb:Binds X.K fd ps ds)(hd:Vals dvs ds)(hx:fB CX X E)(I:Inv X pins σ H s)(r:Vals vs us)(h:sp (vs++dvs) H Q E):P4 (P5 X.prog X.w) X.A (call (.ref f) us) (EP X pins σ Q) X.xe s:=by
 have r2:Vals (vs++dvs) (us++ds):=r.append hd;have hl:(us++ds).length=ps.length:=by rw[<- r2.length];exact F.len _ _ _ _ h
 refine wpAny_call (codeAny_mono (F.run X.A X.stack s H ⟨us,[]⟩ (us++ds) (vs++dvs) Q E hr I.env0 (hb s us I.kIn hl) r2 h) λr s' hq=>?_)
 cases r with
 |error e=>exact hx pins σ H s e s' I hq
 |ok fl=>
  cases fl with
  |ret u=>exact I.after hq
  |next=>exact False.elim hq
  |brk=>exact False.elim hq
  |cont=>exact False.elim hq
theorem mW(F:FnOk X.prog X.w X.K X.mg X.base CX k f fd ps sp)(hr:Room k X.A)(hg:Gl X x)(hm:X.mg x=PU (.ref f))(hk:NC X.K (.ref f)=PX)(hb:Binds X.K fd ps ds)(hd:Vals dvs ds)(hx:fB CX X E)
  (ha:PA X (e::es) t) (hdb:(x==("__debug__":Str))=PY:=by decide) (he:Qb (e::es) X.env=(PY,eval e X.env)::Qb es X.env:=by rfl) (hpl:(backTo pos (Qb es X.env)).any (·.1)=PY:=by rfl) :
  PE X (.Call (.Name x p) (e::es) [] pos) (BF sp dvs E t):=by
 intro pins s σ H Q I h;refine wpAny_Call_Name_kw (fV I hg hm ?_ hdb);refine PySem.W.callWith_K (h₀:=X.base) I.ok.mod.kin hk (bx (ha pos pins s σ H _ I h) λus s1 ⟨vs,H1,I1,r,q⟩=>⟨I1.kIn,?_⟩) he hpl;exact wD F hr hb hd hx I1 r q
theorem wF(F:FnOk X.prog X.w X.K X.mg X.base CX k f fd ps sp)(hr:Room k X.A)(hg:Gl X x)(hm:X.mg x=PU (.ref f))(hk:NC X.K (.ref f)=PX)(hb:Binds X.K fd ps ds)(hd:Vals dvs ds)(hx:fB CX X E)
  (hdb:(x==("__debug__":Str))=PY:=by decide):PE X (.Call (.Name x p) [] [] pos) (BF sp dvs E Dt):=by
 intro pins s σ H Q I h;refine wpAny_Call_Name_kw (fV I hg hm ?_ hdb);exact PySem.W.callWith_K0 I.kIn hk (wD (us:=[]) F hr hb hd hx I .nil h)
structure Mk(K:MW)(C f:Addr):Prop where
 makes:PySem.W.makesIn K C=PX
 init:Oh K (.ref C) "__init__" = PU (PU (.ref f))
 fn:PR K (.ref f)=PX
 kp:NC K (.ref C)=PX
end
section
variable {X:Cx} {CX:qu} {k:Nat} {f C:P1} {fd:Qk} {ps ks:List Str} {sp:Sp} {E:XK} {x m:Str} {p pos apos kpos:Pos} {e o:P0} {es:List P0} {kws:List Keyword} {te ta:TE} {t tk:TA} {nm:Option Str}
structure Ka(K:MW)(fd:FuncData)(ps ks:List Str)(g:List Value->List Value->List Value)(gV:List V->List V->List V):Prop where
 to:∀(s:P2) (us ws:List PZ),K.In s.heap->(g us ws).length=ps.length->BindsTo s fd ⟨us,ks.zip ws⟩ (ps.zip (g us ws))
 rel:∀{vs:List V} {us:List PZ} {zs:List V} {ws:List PZ},Vals vs us->Vals zs ws->Vals (gV vs zs) (g us ws)
variable {g:List PZ->List PZ->List PZ} {gV:List V->List V->List V}
end
structure aA(N P:List Str)(sc:Scope):Prop where
 kind:sc.kind=.function
 co:sc.isCoroutine=PY
 gen:sc.isGenerator=PY
 nd:N.Nodup
 pre:N.take P.length=P
 par:∀x∈P,sc.names.lookup x=PU .local\/sc.names.lookup x=PU .cell
 nofree:∀y∈sc.names,y.2≠.free
theorem lM{kindOf:Str->Option Qj}{x:Str}:∀{binds:List (Str×PZ)} {m:Str->Option PZ},(∀v,(x,v)∉binds)->bindL kindOf binds m x=m x
 |[],_,_=>rfl
 |(n,v)::r,m,h=>by
  unfold bindL;rw[lM λw hw=>h w (Ng _ hw)];split
  ·have:x≠n:=by rintro rfl;exact h v Nm
   simp[this]
  ·rfl
theorem lN{kindOf:Str->Option Qj}{x:Str}:∀{binds:List (Str×PZ)} {m:Str->Option PZ},(∀v,(x,v)∉binds)->bindC kindOf binds m x=m x
 |[],_,_=>rfl
 |(n,v)::r,m,h=>by
  unfold bindC;rw[lN λw hw=>h w (Ng _ hw)];split
  ·rfl
  ·have:x≠n:=by rintro rfl;exact h v Nm
   simp[this]
theorem lO{kindOf:Str->Option Qj}{x:Str}{v:PZ}:∀{P:List Str} {vs:List PZ} {i:Nat} {m:Str->Option PZ},P.Nodup->P[i]?=PU x->vs[i]?=PU v->kindOf x=PU .local->
  bindL kindOf (P.zip vs) m x=PU v
 |[],_,_,_,_,h,_,_=>by simp at h
 |_::_,[],_,_,_,_,h,_=>by simp at h
 |p::P,w::vs,0,m,nd,h1,h2,hk=>by
  simp at h1 h2;subst h1;subst h2;show bindL kindOf ((p,w)::P.zip vs) m p=_;unfold bindL;rw[lM λv hv=>(NB.mp nd).1 (O3 hv).1,if_pos hk];simp
 |p::P,w::vs,i+1,m,nd,h1,h2,hk=>by
  show bindL kindOf ((p,w)::P.zip vs) m x=_;unfold bindL;exact lO (i:=i) (NB.mp nd).2 (by simpa using h1) (by simpa using h2) hk
theorem lP{kindOf:Str->Option Qj}{x:Str}{v:PZ}:∀{P:List Str} {vs:List PZ} {i:Nat} {m:Str->Option PZ},P.Nodup->P[i]?=PU x->vs[i]?=PU v->kindOf x≠PU .local->
  bindC kindOf (P.zip vs) m x=PU v
 |[],_,_,_,_,h,_,_=>by simp at h
 |_::_,[],_,_,_,_,h,_=>by simp at h
 |p::P,w::vs,0,m,nd,h1,h2,hk=>by
  simp at h1 h2;subst h1;subst h2;show bindC kindOf ((p,w)::P.zip vs) m p=_;unfold bindC;rw[lN λv hv=>(NB.mp nd).1 (O3 hv).1,if_neg hk];simp
 |p::P,w::vs,i+1,m,nd,h1,h2,hk=>by
  show bindC kindOf ((p,w)::P.zip vs) m x=_;unfold bindC;exact lP (i:=i) (NB.mp nd).2 (by simpa using h1) (by simpa using h2) hk
noncomputable def cq(N:List Str)(vs:List V):St:=vs.map PU++M3 (N.length-vs.length) PV
noncomputable def eJ(CX:qu)(P:P6)(w:P8)(K:MW)(mg:Str->Option PZ)(base:Qa)(N:List Str)(qual:Str)(scope:Qe)(f:P1)(cd:PZ)(A:Qc)(outer:List Env)(s:P2)(H:Hp)(E:XK):Cx where
 prog:=P
 w:=w
 K:=K
 mg:=mg
 base:=base
 A:=A.deeper (envOfC qual scope s.heap.objs.size f cd)
 N:=N
 s₀:=s
 H₀:=H
 env:=envOfC qual scope s.heap.objs.size f cd
 outer:=outer
 stack:=envOfC qual scope s.heap.objs.size f cd::outer
 ex:=[]
 calm:=PX
 fn:=λ_=>PX
 pn:=[]
 xe:=λe s'=>P4 (P5 P w) (A.deeper (envOfC qual scope s.heap.objs.size f cd)) (leaving (envOfC qual scope s.heap.objs.size f cd) e) (λ_ s''=>CX outer H s E e s'') (λe' s''=>CX outer H s E e' s'') s'
theorem oJ{sc:Qe}{n:Nat}{x:Str}(h:sc.names.lookup x=PU .cell):∃c,(Qf n sc.names []).lookup x=PU c:=by
 have q:=O6 sc.names n [] (.inl h);exact Option.isSome_iff_exists.mp q
theorem uJ{CX:qu}{P:P6}{w:P8}{K:MW}{mg:Str->Option PZ}{base:Qa}{N ps:List Str}{qual:Str}{scope:Qe}{f:P1}{cd:PZ}{A:Qc}{outer:List Env}{s s1:P2}{H:Hp}{E:XK}{us:List PZ}{vs:List V}
  (S:aA N ps scope) (hd:A.handled=PV) (e0:zx P w K mg base A outer s H) (hl:vs.length=ps.length) (r:Vals vs us)
  (x:InCallC s s.heap.objs.size (bindL (envOfC qual scope s.heap.objs.size f cd).kindOf (ps.zip us) λ_=>PV) (Qf (s.heap.objs.size+1) scope.names []) (bindC (envOfC qual scope s.heap.objs.size f cd).kindOf (ps.zip us) λ_=>PV) s1) :
  Inv (eJ CX P w K mg base N qual scope f cd A outer s H E) [] (cq N vs) H s1:=by
 have hpl:ps.length<=N.length:=by have:=congrArg ON S.pre;rw[NN] at this;lia
 obtain⟨h1,tk,rfl,hk⟩:=x.done;have noA:∀b:P1,b∉(eJ CX P w K mg base N qual scope f cd A outer s H E).ex:=λb z=>absurd (show b∈([]:List P1) from z) (by simp)
 refine⟨⟨e0.mod,S.kind,rfl,rfl,M8 _,λy z c h1 h2=>?_,λy hy=>?_,λy c _ h=>?_,λ_=>hd,Around.frames_deeper e0.frames,.inr ⟨rfl,rfl⟩,λb z=>absurd z (noA b),e0.bs,e0.bsz,λb _ _=>noA b,λb z=>absurd z (noA b),e0.funs,e0.frf⟩,
  rfl,e0.bare,Un.kept hk,⟨_,x.toInCall.ns,λi y v h1 h2 h3=>?_⟩,λy c h=>⟨_,x.cell y c h⟩,e0.hok.fresh (M8 _),λy c h=>?_,λp hp=>absurd (show p∈([]:List (P1×Obj)) from hp) (by simp),e0.hok.kept hk,?_⟩
 ·exact name_of_addr x.apart (PySem.mem_of_lookup h1) (PySem.mem_of_lookup h2)
 ·have hy:scope.names.lookup y=PU .cell\/scope.names.lookup y=PU .free:=hy;rcases hy with hy|hy
  ·exact oJ hy
  ·exact absurd rfl (S.nofree _ (PySem.mem_of_lookup hy))
 ·exact OA (x.above y c (PySem.mem_of_lookup h))
 ·have hi:i<vs.length:=by
   unfold cq at h2;by_cases hi:i<vs.length
   ·exact hi
   ·rw[Nx (by simpa using hi)] at h2;rw[Os] at h2
    split at h2<;>cases h2
  have ha:vs[i]?=PU v:=by
   unfold cq at h2;rw[Nz (by simpa using hi),M0] at h2
   cases e:vs[i]? with
   |none=>rw[e] at h2;cases h2
   |some a=>rw[e] at h2;cases h2;rfl
  obtain⟨u,hu,rv⟩:=r.get ha
  have hp:ps[i]?=PU y:=by
   rw[<- S.pre,List.getElem?_take_of_lt (by lia)];exact h1
  have ndP:ps.Nodup:=by rw[<- S.pre];exact S.nd.sublist (List.take_sublist _ _)
  refine⟨u,rv,?_⟩;rcases S.par y (NS hp) with k|k
  ·exact .inl ⟨k,lO ndP hp hu k⟩
  ·obtain⟨c,e⟩:=oJ (n:=s.heap.objs.size+1) k;refine .inr ⟨.inl k,c,e,?_⟩;have q:=x.cell y c e;rw[lP ndP hp hu (by show scope.names.lookup y≠_;rw[k];decide)] at q;exact q
 ·exact e0.hok.fresh (OA (x.above y c (PySem.mem_of_lookup h)))
 ·unfold cq;show _=N.length;rw[ND,MY,N1]
  lia
theorem BG{CX:qu}{P:P6}{w:P8}{K:MW}{mg:Str->Option PZ}{base:Qa}{k:Nat}{f:P1}{name qual:Str}{params:Arguments}{body:List P9}{scope:Qe}{dV kV doc pm cdv ct oc:PZ}{an od:Option P1}
  {osl:Array (Option PZ)} {N ps:List Str} {sp:Sp} (lk:K.lookup f=PU ⟨oc,od,.func (N0 name qual params body scope dV kV doc pm an cdv ct),osl⟩) (hcd:OL K cdv qual=PX) (S:aA N ps scope)
  (len:∀vs H Q E,sp vs H Q E->vs.length=ps.length)
  (hbody:∀(A:Qc) (outer:List Env) (s:P2) (H:Hp) (vs:List V) (Q:VK) (E:XK),Room k (A.deeper (envOfC qual scope s.heap.objs.size f cdv))->sp vs H Q E->
   ∃t,PSs (eJ CX P w K mg base N qual scope f cdv A outer s H E) body t/\t { nx:=λ_ H'=>Q .non H',rt:=Q } (cq N vs) H) :
  FnOk P w K mg base CX (k+1) f (N0 name qual params body scope dV kV doc pm an cdv ct) ps sp:=by
 refine⟨len,λA outer s H args us vs Q E hr e0 hb r hsp=>?_⟩;have hl:=len _ _ _ _ hsp;have KX:K.In s.heap:=e0.mod.kin.keeps λb o e=>(e0.bs b o e).1;have lim:s.heap.NoLimit:=e0.mod.nolimit.keeps λb o e=>(e0.bs b o e).1
 have hkind:∀y∈ps.zip us,scope.names.lookup y.1=PU .local\/(scope.names.lookup y.1=PU .cell/\((Qf (s.heap.objs.size+1) scope.names []).lookup y.1).isSome=PX):=λ⟨n,v⟩ hy=>by
  rcases S.par n (O3 hy).1 with q|q
  ·exact .inl q
  ·exact .inr ⟨q,O6 _ _ _ (.inl q)⟩
 refine codeAny_call_function hr.depth (KX _ _ lk) rfl S.co S.gen rfl (PySem.W.codeRec_of KX hcd) (hb _ _ _ _ ?_);refine wpAny_newFunctionEnv_cells S.kind hkind λenv he s1 x=>?_;subst he;refine⟨lim.keeps x.toInCall.keep,codeAny_func ?_⟩;obtain⟨t,ht,hq⟩:=hbody A outer s H vs Q E (hr.deeper _) hsp;have I:Inv (eJ CX P w K mg base N qual scope f cdv A outer s H E) [] (cq N vs) H s1:=uJ S hr.hd e0 hl r x;refine wpAny_mono (ht [] s1 (cq N vs) H _ I hq) (λfl s' hs=>?_) λe s' hs=>hs
 have fin:∀{σ':St} {H':Hp} {v:V} {u:PZ},Inv (eJ CX P w K mg base N qual scope f cdv A outer s H E) [] σ' H' s'->RelV v u->Q v H'->CE outer P w H s Q u s':=
  λ{σ' H' v u} J rv q=>⟨v,H',J.os,J.bare,J.base,J.hok,rv,q⟩
 cases fl with
 |ret u=>
  obtain⟨v,σ',H',J,rv,q⟩:=hs;exact fin J rv q
 |next=>
  obtain⟨σ',H',J,q⟩:=hs;exact fin (v:=V.non) (u:=Value.none) J rfl q
 |brk=>
  obtain⟨_,_,_,q⟩:=hs;exact False.elim q
 |cont=>
  obtain⟨_,_,_,q⟩:=hs;exact False.elim q
end L2
namespace L2
open PySem PySem.Spec PyProof.Rows
section
variable {X:Cx} {x:Str} {p pos:Pos} {e:P0} {es:List P0} {t:TA} {id T:String} {r:List V->Hp->VK->Prop}
noncomputable def L1(r:List V->Hp->VK->Prop)(t:TA):TE:=λσ H Q=>t σ H λvs H1=>r vs H1 Q
theorem d9(hc:hU X (.builtin id) r)(hg:Gl X x)(hm:X.mg x=PV)(hv:bootBuiltins x=PU (.builtin id))(ha:PA X (e::es) t)(hn:x≠"__name__":=by decide)(hdb:(x==("__debug__":Str))=PY:=by decide)
  (he:Qb (e::es) X.env=(PY,eval e X.env)::Qb es X.env:=by rfl) (hpl:(backTo pos (Qb es X.env)).any (·.1)=PY:=by rfl):PE X (.Call (.Name x p) (e::es) [] pos) (L1 r t):=by
 intro pins s σ H Q I h;refine wpAny_Call_Name_kw (fy I hg hm hv ?_ hn hdb);exact PyProof.Rows.callWith_builtin1 (bx (ha pos pins s σ H _ I h) λus s1 ⟨vs,H1,I1,r1,q1⟩=>hc pins s1 σ H1 vs us Q I1 r1 q1) he hpl
theorem iX(hc:hU X (.type T) r)(hg:Gl X x)(hm:X.mg x=PV)(hv:bootBuiltins x=PU (.type T))(ha:PA X (e::es) t)(hn:x≠"__name__":=by decide)(hdb:(x==("__debug__":Str))=PY:=by decide)
  (he:Qb (e::es) X.env=(PY,eval e X.env)::Qb es X.env:=by rfl) (hpl:(backTo pos (Qb es X.env)).any (·.1)=PY:=by rfl):PE X (.Call (.Name x p) (e::es) [] pos) (L1 r t):=by
 intro pins s σ H Q I h;refine wpAny_Call_Name_kw (fy I hg hm hv ?_ hn hdb);exact PyProof.Rows.callWith_type1 (bx (ha pos pins s σ H _ I h) λus s1 ⟨vs,H1,I1,r1,q1⟩=>hc pins s1 σ H1 vs us Q I1 r1 q1) he hpl
end
end L2
namespace HT
open PySem PyProof.Rows
section
open PySem.SeqAt
open PySem.AutoSeq1 (wpAny_loadPart')
open PySem.MeetsSeq PySem.MeetsSeq2 PySem.MeetsSeq3
end
section
variable {prog:P6} {w:P8} {A:Qc} {E:PZ->P2->Prop} {s:P2}
noncomputable def lu(n d:Nat):Option Int->Nat
 |none=>d
 |some v=>if v<0 then(v+(n:Int)).toNat else min v.toNat n
end
end HT
namespace L2
open PySem PySem.Spec PyProof.Rows
noncomputable abbrev TO:=St->Hp->(Option Int->Hp->Prop)->Prop
noncomputable def PO(X:Cx)(e:Option P0)(t:TO):Prop:=
 ∀(pins:List (P1×Obj)) (s:P2) (σ:St) (H:Hp) (Q:Option Int->Hp->Prop),Inv X pins σ H s->t σ H Q->
  P4 (P5 X.prog X.w) X.A (evalPart e X.env) (λu s'=>∃o H',Inv X pins σ H' s'/\IsPart u o/\Q o H') X.xe s
noncomputable def zy:TO:=λ_ H Q=>Q PV H
noncomputable def GN(t:TE):TO:=λσ H Q=>t σ H λx H1=>∃i,x=.int i/\Q (PU i) H1
section
variable {X:Cx} {e:P0} {te:TE} {lo hi:Option P0} {tl th:TO} {pos p2:Pos}
theorem zA:PO X PV zy:=by
 intro pins s σ H Q I h;rw[evalPart_none];exact P7 ⟨PV,H,I,.none,h⟩
theorem zB(h:PE X e te):PO X (PU e) (GN te):=by
 intro pins s σ H Q I hw;rw[evalPart_some];refine bx (h pins s σ H _ I hw) λu s1 ⟨x,H1,I1,r1,q1⟩=>?_;obtain⟨i,rfl,q⟩:=q1;obtain⟨t,rfl⟩:=r1;exact⟨PU i,H1,I1,.int i t,q⟩
noncomputable def L3(X:Cx)(r:V->Option Int->Option Int->Hp->VK->Prop):Prop:=
 ∀(pins:List (P1×Obj)) (s:P2) (σ:St) (H:Hp) (x:V) (v vl vu:PZ) (lo hi:Option Int) (sl:P1) (Q:VK),Inv X pins σ H s->RelV x v->s.heap.IsSliceOf sl vl vu .none->IsPart vl lo->IsPart vu hi->r x lo hi H Q->
  ∃T id,typeLookup (.type T) "__getitem__" = pure (PU (.builtin id))/\s.TypeIs v T/\P4 (P5 X.prog X.w) X.A (getItem v (.ref sl)) (EP X pins σ Q) X.xe s
noncomputable def Mr(r:V->Option Int->Option Int->Hp->VK->Prop)(te:TE)(tl th:TO):TE:=λσ H Q=>te σ H λx H1=>tl σ H1 λl H2=>th σ H2 λu H3=>r x l u H3 Q
theorem oK(hr:L3 X r)(he:PE X e te)(hl:PO X lo tl)(hu:PO X hi th):PE X (.Subscript e (.Slice lo hi PV p2) pos) (Mr r te tl th):=by
 intro pins s σ H Q I h;refine Subscript_ (bx (he pins s σ H _ I h) λv s1 ⟨x,H1,I1,r1,q1⟩=>?_);refine wpAny_Slice (bx (hl pins s1 σ H1 _ I1 q1) λvl s2 ⟨l,H2,I2,pl,q2⟩=>bx (hu pins s2 σ H2 _ I2 q2) λvu s3 ⟨u,H3,I3,pu,q3⟩=>?_);rw[evalPart_none];refine P7 ?_;have I4:Inv X pins σ H3 { s3 with heap:=s3.heap.push { cls:=.type "slice",data:=.fields #[vl,vu,.none] } }:=I3.kept (t':=s3.toks) λb ob q=>Nb _ q;obtain⟨T,id,hT,ht,hg⟩:=hr pins { s3 with heap:=s3.heap.push { cls:=.type "slice",data:=.fields #[vl,vu,.none] } } σ H3 x v vl vu l u s3.heap.objs.size Q I4 r1 (Heap.IsSliceOf.new ..) pl pu q3;show P4 (P5 X.prog X.w) X.A (subscriptTail e (.Slice lo hi PV p2) v (.ref s3.heap.objs.size)) (EP X pins σ Q) X.xe { s3 with heap:=s3.heap.push { cls:=.type "slice",data:=.fields #[vl,vu,.none] } };exact tail_any (ops:=[.ref s3.heap.objs.size,v]) ht hT hg (by with_unfolding_all rfl)
noncomputable def uK(xs:List V)(lo hi:Option Int):List V:=(xs.drop (HT.lu xs.length 0 lo)).take (HT.lu xs.length xs.length hi-HT.lu xs.length 0 lo)
theorem oM(xs:List V)(lo hi:Option Int):(uK xs lo hi).length<=xs.length:=by
 unfold uK;rw[NN,PF]
 lia
end
end L2
namespace L2
open PySem PySem.Spec PyProof.Rows
noncomputable def kn(n:Nat)(i:Int):Option Nat:=if 0<=i then(if i<n then PU i.toNat else PV) else if -(n:Int)<=i then PU (i+n).toNat else PV
noncomputable def r9{α:Type}(xs:List α)(i:Int):Option α:=(kn xs.length i).bind λj=>xs[j]?
theorem mX{n:Nat}{i:Int}{j:Nat}(h:kn n i=PU j):seqIndex? i n=PU j/\j<n/\-(n:Int)<=i/\i<n:=by
 unfold kn at h;by_cases h0:0<=i
 ·rw[if_pos h0] at h;by_cases h1:i<n
  ·rw[if_pos h1] at h;have e:i.toNat=j:=Option.some.inj h;exact⟨by rw[seqIndex_of h0 h1,e],by lia,by lia,h1⟩
  ·rw[if_neg h1] at h;cases h
 ·rw[if_neg h0] at h;by_cases h1:-(n:Int)<=i
  ·rw[if_pos h1] at h;have e:(i+n).toNat=j:=Option.some.inj h;exact⟨by rw[seqIndex_neg (by lia) h1,e],by lia,h1,by lia⟩
  ·rw[if_neg h1] at h;cases h
theorem mY{α:Type}{xs:List α}{i:Int}{v:α}(h:r9 xs i=PU v):∃j,seqIndex? i xs.length=PU j/\xs[j]?=PU v/\j<xs.length/\-(xs.length:Int)<=i/\i<xs.length:=by
 unfold r9 at h
 cases e:kn xs.length i with
 |none=>rw[e] at h;cases h
 |some j=>
  rw[e] at h;obtain⟨h1,h2,h3,h4⟩:=mX e;exact⟨j,h1,h,h2,h3,h4⟩
noncomputable def sd(b:P0):Prop:=∀o i,subscripted b PY o i=operate [o,i] (getItem o i)
noncomputable def IxR(X:Cx)(r:R2):Prop:=
 ∀(value slice:P0) (pins:List (P1×Obj)) (s:P2) (σ:St) (H:Hp) (x y:V) (v u:PZ) (Q:VK),Inv X pins σ H s->RelV x v->RelV y u->r x y H Q->
  subscripted slice PY v u=operate [v,u] (getItem v u)->P4 (P5 X.prog X.w) X.A (subscriptTail value slice v u) (EP X pins σ Q) X.xe s
noncomputable def Kb(X:Cx)(id:String)(r:V->List V->Hp->VK->Prop):Prop:=
 ∀(pins:List (P1×Obj)) (s:P2) (σ:St) (H:Hp) (x:V) (xs:List V) (v:PZ) (us:List PZ) (Q:VK),Inv X pins σ H s->RelV x v->Vals xs us->r x xs H Q->
  P4 (P5 X.prog X.w) X.A (call (.builtin id) (v::us)) (EP X pins σ Q) X.xe s
section
variable {X:Cx} {a b:P0} {ta tb:TE} {pos:Pos}
theorem IxR.or{r r':R2}(h:IxR X r)(h':IxR X r'):IxR X (λx y H Q=>r x y H Q\/r' x y H Q):=by
 intro value slice pins s σ H x y v u Q I rx ry q hs;rcases q with q|q
 ·exact h value slice pins s σ H x y v u Q I rx ry q hs
 ·exact h' value slice pins s σ H x y v u Q I rx ry q hs
theorem oN(hr:IxR X r)(ha:PE X a ta)(hb:PE X b tb)(hs:sd b):PE X (.Subscript a b pos) (Js r ta tb):=by
 intro pins s σ H Q I h;exact Subscript_ (Df ha hb I h λv u s2 x y H2 I2 rx ry q=>hr a b pins s2 σ H2 x y v u Q I2 rx ry q (hs _ _))
noncomputable def GO(K:MW):R2:=λx y H Q=>∃p xs i v,x=.ref p/\y=.int i/\SqL K H p xs/\r9 xs i=PU v/\Q v H
noncomputable def GP(K:MW):R2:=λx y H Q=>∃p xs i v,x=.ref p/\y=.int i/\SqT K H p xs/\r9 xs i=PU v/\Q v H
noncomputable def GQ:R2:=λx y H Q=>∃z i c,x=.str z/\y=.int i/\z.length<=sizeLine/\r9 z.cps.toList i=PU c/\Q (.str ⟨#[c]⟩) H
theorem ix_list:IxR X (GO X.K):=by
 intro value slice pins s σ H x y v u Q I rx ry h hs;obtain⟨p,xs,i,z,rfl,rfl,hq,he,q⟩:=h;cases rx;obtain⟨t,rfl⟩:=ry;obtain⟨its,r,pl,hz⟩:=I.list hq;obtain⟨j,h1,h2,h3,h4,h5⟩:=mY he;obtain⟨w,ew,rw'⟩:=r.get h2;have hl:=r.length;have hn:=iV;have fin:EP X pins σ Q w s:=⟨z,H,I,rw',q⟩;by_cases h0:0<=i
 ·have hj:i.toNat=j:=by
   rw[seqIndex_of h0 h5] at h1;exact Option.some.inj h1
  exact item_listR pl.isList h0 (by lia) (by rw[hj];simpa using ew) fin hs
 ·have hj:(i+(its.toArray.size:Int)).toNat=j:=by
   rw[seqIndex_neg (by lia) h4] at h1;rw[Nc,<- hl];exact Option.some.inj h1
  exact subscriptTail_builtinR (x:=w) pl.isList.typeIs slot_list_getitem.lookup
   (wpAny_getItem_list_neg (Q:=λr s'=>r=w/\EP X pins σ Q r s') pl.isList (by lia) (by rw[Nc]<;>lia) (by lia) (by rw[hj];simpa using ew) ⟨rfl,fin⟩) hs
theorem ix_tup:IxR X (GP X.K):=by
 intro value slice pins s σ H x y v u Q I rx ry h hs;obtain⟨p,xs,i,z,rfl,rfl,hq,he,q⟩:=h;cases rx;obtain⟨t,rfl⟩:=ry;obtain⟨its,r,pl,hz⟩:=I.tuple hq;obtain⟨j,h1,h2,h3,h4,h5⟩:=mY he;obtain⟨w,ew,rw'⟩:=r.get h2;have hl:=r.length;have hn:=iV;have fin:EP X pins σ Q w s:=⟨z,H,I,rw',q⟩;exact subscriptTail_builtinR (x:=w) pl.typeIs slot_tuple_getitem.lookup
  (getItem_tuple (j:=j) (Q:=λr s'=>r=w/\EP X pins σ Q r s') pl (by lia) (by lia) (by rw[Nc,<- hl];exact h1) (by simpa using ew) ⟨rfl,fin⟩) hs
theorem Du:IxR X GQ:=by
 intro value slice pins s σ H x y v u Q I rx ry h hs;obtain⟨z,i,c,rfl,rfl,hz,he,q⟩:=h;obtain⟨t,rfl⟩:=rx;obtain⟨t',rfl⟩:=ry;obtain⟨j,h1,h2,h3,h4,h5⟩:=mY he;have hl:z.cps.toList.length=z.length:=by simp[Str.length]
 rw[hl] at h1 h4 h5;have hn:=iV
 exact tail_any (typeIs_str s z t) slot_str_getitem.lookup (getItem_str (c:=c) (by
  have e1:decide (i < -(2^63:Int))=PY:=decide_eq_false (by lia);have e2:decide (i ≥ 2^63)=PY:=decide_eq_false (by lia);rw[e1,e2,Bool.or_false]) (by rw[h1];simpa using h2) ⟨.str ⟨#[c]⟩,H,I.tok _,⟨_,rfl⟩,q⟩) hs
noncomputable def L4(K:MW):R2:=λx y H Q=>GO K x y H Q\/GP K x y H Q\/GQ x y H Q
theorem mZ:IxR X (L4 X.K):=ix_list.or (ix_tup.or Du)
theorem qw(its:List PZ)(n j:Nat)(u:PZ):Obj.mapSeq (·.setIfInBounds j u) { cls:=.type "list",data:=.seq its.toArray n }={ cls:=.type "list",data:=.seq (its.set j u).toArray n }:=by
 simp[Obj.mapSeq]
theorem Inv.lst{pins:List (P1×Obj)}{σ:St}{H:Hp}{s:P2}{p:P1}{xs:List V}(I:Inv X pins σ H s)(h:H p=PU (.lst xs)) :
  ∃(its:List PZ) (n:Nat),Vals xs its/\s.heap.get? p=PU { cls:=.type "list",data:=.seq its.toArray n }/\xs.length<=sizeLine:=by
 obtain⟨z,its,n,r,e⟩:=I.hok p _ h;exact⟨its,n,r,e,z⟩
theorem Inv.lstUpd{H:Hp}{s:P2}{xs ys:List V}{its its':List PZ}{n n':Nat}(I:Inv X pins σ H s)(h:H p=PU (.lst xs))(ho:s.heap.get? p=PU { cls:=.type "list",data:=.seq its.toArray n })(hf:f { cls:=.type "list",data:=.seq its.toArray n }={ cls:=.type "list",data:=.seq its'.toArray n' })(r:Vals ys its')(hz:ys.length<=sizeLine)(t:Nat) :
  Inv X pins σ (upd H p (.lst ys)) { s with heap:=s.heap.update p f,toks:=t }:=by
 have e:(s.heap.update p f).get? p=PU { cls:=.type "list",data:=.seq its'.toArray n' }:=by
  rw[Pc f ho (by rw[hf]<;>rfl),hf]
 refine I.write (x:=p) (e:=p) (by rw[h];trivial) (.inl rfl) (λb u hb q=>(O7 _ _ (Ne.symm hb)).trans q) ⟨_,e⟩ ?_;exact⟨hz,its',n',r,e⟩
noncomputable def GR:V->V->V->Hp->(Hp->Prop)->Prop:=λo i v H Q=>∃p xs k j,o=.ref p/\i=.int k/\H p=PU (.lst xs)/\kn xs.length k=PU j/\Q (upd H p (.lst (xs.set j v)))
theorem wH:Gz X GR:=by
 intro pins s σ H o i v ov iv u Q I ro ri rv h;obtain⟨p,xs,k,j,rfl,rfl,hp,hj,q⟩:=h;cases ro;obtain⟨t,rfl⟩:=ri;obtain⟨its,n,r,ho,hz⟩:=I.lst hp;obtain⟨h1,h2,h3,h4⟩:=mX hj;have hl:=r.length;have hn:=iV
 have I':Inv X pins σ (upd H p (.lst (xs.set j v))) { s with heap:=s.heap.update p (Obj.mapSeq (·.setIfInBounds j u)) }:=
  I.lstUpd hp ho (qw its n j u) (r.set rv j) (by rw[PN];exact hz) s.toks
 by_cases h0:0<=k
 ·have hk:k.toNat=j:=by
   rw[seqIndex_of h0 h4] at h1;exact Option.some.inj h1
  exact PySem.W.ki_setAt ho h0 (by lia) (by rw[Nc,<- hl];exact h4) (by rw[hk];exact⟨_,I',q⟩)
 ·have hk:(k+(its.toArray.size:Int)).toNat=j:=by
   rw[seqIndex_neg (by lia) h3] at h1;rw[Nc,<- hl];exact Option.some.inj h1
  exact PySem.W.ki_setBack ho (by lia) (by rw[Nc,<- hl];exact h3) (by lia) (by rw[hk];exact⟨_,I',q⟩)
theorem m7(lo hi:Option Int)(n:Nat):(sliceBounds lo hi PV n).1=((HT.lu n 0 lo:Nat):Int)/\(sliceBounds lo hi PV n).2.1=((HT.lu n n hi:Nat):Int)/\(sliceBounds lo hi PV n).2.2=1:=by
 refine⟨?_,?_,rfl⟩
 ·cases lo with
  |none=>simp[sliceBounds,HT.lu]
  |some i=>
   simp only[sliceBounds,HT.lu,OY,show(1:Int) > 0 by decide,if_true];by_cases h:i<0
   ·simp only[h,if_true]<;>lia
   ·simp only[h,if_false]<;>lia
 ·cases hi with
  |none=>simp[sliceBounds,HT.lu]
  |some i=>
   simp only[sliceBounds,HT.lu,OY,show(1:Int) > 0 by decide,if_true];by_cases h:i<0
   ·simp only[h,if_true]<;>lia
   ·simp only[h,if_false]<;>lia
theorem lw(its:List PZ)(lo hi:Option Int):slicePick its.toArray lo hi PV=((its.drop (HT.lu its.length 0 lo)).take (HT.lu its.length its.length hi-HT.lu its.length 0 lo)).toArray:=by
 obtain⟨h1,h2,h3⟩:=m7 lo hi its.toArray.size;unfold slicePick;rw[h1,h2,h3]
 simp only[sliceRange_one,pick_run,Nc]<;>rfl
noncomputable def Kc(K:MW):V->Option Int->Option Int->Hp->VK->Prop:=λx lo hi H Q=>∃a xs,x=.ref a/\SqL K H a xs/\∀p,H p=PV->Q (.ref p) (upd H p (.lst (uK xs lo hi)))
theorem sg:L3 X (Kc X.K):=by
 intro pins s σ H x v vl vu lo hi sl Q I rx hs pl pu h;obtain⟨a,xs,rfl,hx,q⟩:=h;cases rx;obtain⟨its,r,ht,hz⟩:=I.list hx;have hlen:=r.length;refine⟨"list",_,slot_list_getitem.lookup,ht.isList.typeIs,?_⟩
 refine wpAny_getItem_list_slice ht.isList hs pl pu .none (by simp) ?_ (by rw[Nc]<;>lia)
 rw[lw,<- hlen];refine⟨.ref s.heap.objs.size,_,I.laid (t':=s.toks) (o:=.lst (uK xs lo hi)) (λb ob q=>Nb _ q) (M8 _) ?_,rfl,q _ (I.hok.fresh (M8 _))⟩;exact⟨Nq (oM xs lo hi) hz,_,0,(r.drop (HT.lu xs.length 0 lo)).take (HT.lu xs.length xs.length hi-HT.lu xs.length 0 lo),Nt _ rfl⟩
theorem m8:hU X (.builtin "len") (λxs H Q=>∃p ys,xs=[.ref p]/\(SqL X.K H p ys\/SqT X.K H p ys)/\Q (.int ys.length) H):=by
 intro pins s σ H xs us Q I r h;obtain⟨p,ys,rfl,hq,q⟩:=h;obtain⟨u,rfl,rx⟩:=lL r;cases rx;have hn:=iV;rcases hq with hq|hq
 ·obtain⟨its,r',pl,hz⟩:=I.list hq;have hlen:=r'.length
  exact Calls.call_len_list pl.isList (by simp only[Nc]<;>lia) ⟨.int ys.length,H,I.tok _,⟨s.toks+1,by rw[Nc,hlen]⟩,q⟩
 ·obtain⟨its,r',pl,hz⟩:=I.tuple hq;have hlen:=r'.length
  exact len_tuple pl (by simp only[Nc]<;>lia) ⟨.int ys.length,H,I.tok _,⟨s.toks+1,by rw[Nc,hlen]⟩,q⟩
theorem lx:hU X (.type "tuple") (λxs H Q=>∃p ys,xs=[.ref p]/\((SqL X.K H p ys/\∀l,H l=PV->Q (.ref l) (upd H l (.tup ys)))\/(SqT X.K H p ys/\Q (.ref p) H))):=by
 intro pins s σ H xs us Q I r h;obtain⟨p,ys,rfl,h⟩:=h;obtain⟨u,rfl,rx⟩:=lL r;cases rx;rcases h with⟨hq,q⟩|⟨hq,q⟩
 ·obtain⟨its,r',pl,hz⟩:=I.list hq;have hlen:=r'.length
  refine call_tuple_list pl.isList (λh' kp=>?_) (by simp only[Nc]<;>lia)
  have I1:Inv X pins σ H { s with heap:=h' }:=I.kept (t':=s.toks) kp
  have I2:Inv X pins σ (upd H h'.objs.size (.tup ys)) { s with heap:=h'.push { cls:=.type "tuple",data:=.seq its.toArray } }:=
   I1.laid (t':=s.toks) (λb o e=>Nb _ e) (M8 _) (show ObjOk X.prog X.w _ _ _ (.tup ys) from⟨hz,its,r',IsTup.new _ _⟩)
  exact⟨.ref h'.objs.size,_,I2,rfl,q _ (I1.hok.fresh (M8 _))⟩
 ·obtain⟨its,r',pl,hz⟩:=I.tuple hq;exact call_tuple_same pl ⟨.ref p,H,I,rfl,q⟩
noncomputable def L5(K:MW)(T:String)(x:V)(H:Hp):Prop:=match x with
 |.str _=>T="str"
 |.int _=>T="int"
 |.ref p=>(T="list"/\∃xs,SqL K H p xs)\/(T="tuple"/\∃o,K.lookup p=PU o/\o.cls=.type "tuple"/\o.dict=PV)\/
   (T="dict"/\((∃kvs,H p=PU (.dK kvs))\/∃m ep kvs,H p=PU (.dT m ep kvs)))\/(T="set"/\∃S n,H p=PU (.set S n))
 |_=>False
theorem Dv{s:P2}{T:String}(I:Inv X pins σ H s)(r:RelV x v)(ty:L5 X.K T x H) :
  s.TypeIs v T/\∀a,v=.ref a->∃ob,s.heap.get? a=PU ob/\ob.dict=PV:=by
 cases x with
 |str z=>
  obtain⟨t,rfl⟩:=r;cases(show T="str" from ty)
  exact⟨typeIs_str s z t,λ_ e=>nomatch e⟩
 |int i=>
  obtain⟨t,rfl⟩:=r;cases(show T="int" from ty)
  exact⟨typeIs_int s i t,λ_ e=>nomatch e⟩
 |ref p=>
  cases r;rcases ty with⟨rfl,xs,hq⟩|⟨rfl,o,hk,hc,hd⟩|⟨rfl,hk⟩|⟨rfl,S,n,hk⟩
  ·obtain⟨its,_,pl,_⟩:=I.list hq;refine⟨pl.isList.typeIs,λa e=>?_⟩;cases e;obtain⟨o,n,e,c,hd,_⟩:=pl;exact⟨o,e,hd⟩
  ·refine⟨⟨o,I.kIn p o hk,hc⟩,λa e=>?_⟩;cases e;exact⟨o,I.kIn _ o hk,hd⟩
  ·have z:∃o,s.heap.get? p=PU o/\o.ExactDict:=by
    rcases hk with⟨kvs,hk⟩|⟨_,_,kvs,hk⟩
    ·obtain⟨_,_,_,_,o,_,_,e,ex,_⟩:=I.hok p _ hk;exact⟨o,e,ex⟩
    ·obtain⟨_,_,_,_,o,_,e,ex,_⟩:=I.hok p _ hk;exact⟨o,e,ex⟩
   obtain⟨o,e,ex⟩:=z;refine⟨⟨o,e,ex.1⟩,λa e2=>?_⟩;cases e2;exact⟨o,e,ex.2.1⟩
  ·obtain⟨o,_,_,_,e,ex,_⟩:=I.hok p _ hk;refine⟨⟨o,e,ex.1⟩,λa e2=>?_⟩;cases e2;exact⟨o,e,ex.2.1⟩
 |_=>exact False.elim ty
noncomputable def Ms(K:MW)(T:String)(r:V->List V->Hp->VK->Prop)(to:TE)(t:TA):TE:=λσ H Q=>to σ H λx H1=>L5 K T x H1/\t σ H1 λxs H2=>r x xs H2 Q
variable {o e:P0} {es:List P0} {to:TE} {t:TA} {name:Str} {apos cpos:Pos} {T id:String} {r:V->List V->Hp->VK->Prop}
theorem BH(pa:PlainAttrs T)(slot:Slot T name id)(hty:typeOf (.builtin id)=pure (.type "method_descriptor"))(hm:Kb X id r)(ho:PE X o to)(ha:PA X (e::es) t)
  (hbase:attributeBase o name X.env (eval o X.env)=eval o X.env:=by rfl)
  (hfew:((backTo cpos (Qb (e::es) X.env)).all (λx=>!x.1)&&(backToKw cpos (keywordEach [] X.env)).all (λx=>x.1.isSome)
   && decide ((e::es).length+([]:List Keyword).length+(if([]:List Keyword).isEmpty then 0 else 1)<30))=PX:=by rfl)
  (hline:(apos.endLine==cpos.line)=PX:=by rfl) (hs:Qb (e::es) X.env=(PY,eval e X.env)::Qb es X.env:=by rfl) (hplain:(backTo cpos (Qb es X.env)).any (·.1)=PY:=by rfl) :
  PE X (.Call (.Attribute o name apos) (e::es) [] cpos) (Ms X.K T r to t):=by
 intro pins s σ H Q I h;refine wpAny_Call_method_late hbase hfew hline rfl (bx (ho pins s σ H _ I h) λv s1 ⟨x,H1,I1,r1,ty,q1⟩=>?_);obtain⟨h1,h2⟩:=Dv I1 r1 ty;refine⟨T,id,pa,slot,hty,h1,h2,?_⟩;have hA:=ha cpos pins s1 σ H1 _ I1 q1;rw[hs] at hA⊢
 refine Calls.callWith_builtin (by show(PY||(backTo cpos (Qb es X.env)).any (·.1))=PY;rw[hplain]<;>rfl) (Calls.evalArgs_plain ?_)
 exact bx hA λus s2 ⟨vs,H2,I2,r2,q2⟩=>hm pins s2 σ H2 x vs v us Q I2 r1 r2 q2
/- xs.append(e),list.index on a module's tuple .. are Kb facts of 06m -/
end
end L2
namespace L2
open PySem PySem.Spec PyProof.Rows
noncomputable def L6(X:Cx)(id:String)(r:V->List V->Hp->VK->Prop):Prop:=
 ∀(pins:List (P1×Obj)) (s:P2) (σ:St) (H:Hp) (x:V) (xs:List V) (v:PZ) (us:List PZ) (Q:VK),Inv X pins σ H s->RelV x v->Vals xs us->r x xs H Q->
  P4 (P5 X.prog X.w) X.A (call (.builtin id) (v::us)) (EP X pins σ Q) X.xe s
theorem Vals.one:∀{x:V} {us:List PZ},Vals [x] us->∃u,us=[u]/\RelV x u
 |_,_,.cons r .nil=>⟨_,rfl,r⟩
theorem Vals.eraseIdx:∀{xs:List V} {us:List PZ} (i:Nat),Vals xs us->Vals (xs.eraseIdx i) (us.eraseIdx i)
 |_,_,_,.nil=>.nil
 |_,_,0,.cons _ t=>t
 |_,_,i+1,.cons r t=>.cons r (Vals.eraseIdx i t)
theorem Vals.reverse{xs:List V}{us:List PZ}(h:Vals xs us):Vals xs.reverse us.reverse:=by
 induction h with
 |nil=>exact .nil
 |cons r t ih=>rw[Ou,Ou];exact Vals.append ih (.cons r .nil)
theorem Vals.rep(h:Vals xs us):∀k:Nat,Vals (M3 k xs).flatten (M3 k us).flatten
 |0=>.nil
 |k+1=>by
  rw[NI,NI,Oe,Oe];exact Vals.append h (Vals.rep h k)
theorem lQ{α:Type}:∀(l:List α) (i:Nat),(l.eraseIdx i).length<=l.length
 |[],_=>M8 _
 |_::_,0=>Oy _
 |_::r,i+1=>Nat.succ_le_succ (lQ r i)
theorem lR(its:List PZ):∀(k:Nat) (acc:List PZ),
  Pf (λx1 x2=>x1++x2) acc.toArray (M3 k its.toArray)=(acc++(M3 k its).flatten).toArray
 |0,acc=>by simp
 |k+1,acc=>by
  have e:acc.toArray++its.toArray=(acc++its).toArray:=by simp
  have e2:(acc++its)++(M3 k its).flatten=acc++(M3 (k+1) its).flatten:=by
   rw[NI,Oe,Px]
  rw[<- e2,<- lR its k (acc++its),<- e,NI,List.foldl_cons]
section
variable {X:Cx} {pins:List (P1×Obj)} {σ:St} {H:Hp} {s:P2} {l b:P1} {xs ys zs:List V}
theorem Inv.lset{its its':List PZ}{n:Nat}{f:Array PZ->Array PZ}{t':Nat}(I:Inv X pins σ H s)(hH:H l=PU (.lst xs))
  (e:s.heap.get? l=PU { cls:=.type "list",data:=.seq its.toArray n }) (hf:f its.toArray=its'.toArray) (hv:Vals ys its') (hz:ys.length<=sizeLine) :
  Inv X pins σ (upd H l (.lst ys)) { s with heap:=s.heap.update l (Obj.mapSeq f),toks:=t' }:=by
 have q:=PySem.IsL.update e f;rw[hf] at q;refine I.write (x:=l) (e:=l) (by rw[hH];exact trivial) (.inl rfl) (λb' u hb hu=>(O7 s.heap (Obj.mapSeq f) (Ne.symm hb)).trans hu) ⟨_,q⟩ ?_;exact⟨hz,its',_,hv,q⟩
theorem Inv.lnew{its:List PZ}{t':Nat}(I:Inv X pins σ H s)(hv:Vals ys its)(hz:ys.length<=sizeLine) :
  Inv X pins σ (upd H s.heap.objs.size (.lst ys)) { s with heap:=s.heap.push { cls:=.type "list",data:=.seq its.toArray },toks:=t' }:=
 I.laid (λ_ _ q=>Nb _ q) (M8 _) ⟨hz,its,0,hv,Nt _ rfl⟩
theorem Inv.fresh(I:Inv X pins σ H s):H s.heap.objs.size=PV:=I.hok.fresh (M8 _)
theorem Inv.lstM(I:Inv X pins σ H s)(hH:H l=PU (.lst xs)):xs.length<=sizeLine/\∃(its:List PZ) (n:Nat),Vals xs its/\xs.length=its.length/\s.heap.get? l=PU { cls:=.type "list",data:=.seq its.toArray n }:=by
 obtain⟨z,its,n,r,e⟩:=I.hok l _ hH;exact⟨z,its,n,r,r.length,e⟩
theorem wJ{n:Nat}(h:n<=sizeLine):Builtin.List.listTooLong n=PY:=by
 unfold Builtin.List.listTooLong;exact decide_eq_false (by lia)
end
section
variable {X:Cx}
noncomputable def si:V->List V->Hp->VK->Prop:=λx vs H Q=>∃l xs y,x=.ref l/\vs=[y]/\H l=PU (.lst xs)/\xs.length<sizeLine/\Q .non (upd H l (.lst (xs++[y])))
theorem lS:L6 X "list.append" si:=by
 intro pins s σ H x vs v us Q I rx rv h;obtain⟨l,xs,y,rfl,rfl,hH,hz,q⟩:=h;cases rx;obtain⟨u,rfl,ru⟩:=rv.one;obtain⟨z,its,n,r,hl,e⟩:=I.lstM hH;refine call_meets F.slot_list_append ⟨_,e,rfl⟩ F.entry_list_append (F.args_list_append_2 _ _) (PySem.list_append l its.toArray n u (by rw[Nc];lia)) ⟨e,?_⟩;refine⟨.non,_,I.lset (its':=its++[u]) hH e (by simp) (r.append (.cons ru .nil)) ?_,rfl,q⟩;rw[ND,List.length_singleton]
 lia
noncomputable def wK:V->List V->Hp->VK->Prop:=λx vs H Q=>∃l xs i k y,x=.ref l/\vs=[.int i]/\H l=PU (.lst xs)/\-(2^63)<=i/\i<2^63/\seqIndex? i xs.length=PU k/\xs[k]?=PU y/\Q y (upd H l (.lst (xs.eraseIdx k)))
theorem wL:L6 X "list.pop" wK:=by
 intro pins s σ H x vs v us Q I rx rv h;obtain⟨l,xs,i,k,y,rfl,rfl,hH,h1,h2,hk,hy,q⟩:=h;cases rx;obtain⟨u,rfl,ru⟩:=rv.one;obtain⟨t,rfl⟩:=ru;obtain⟨z,its,n,r,hl,e⟩:=I.lstM hH;obtain⟨w,hw,rw'⟩:=r.get hy;refine call_meets F.slot_list_pop ⟨_,e,rfl⟩ F.entry_list_pop (F.args_list_pop_2 _ _)
  (MeetsSeq.list_pop_at l its.toArray n i t k w (fitsIndex_both h1 h2) (by rw[Nc,<- hl];exact hk) (by rw[<- Array.getElem?_toList];exact hw) (by rw[Nc];lia)) ⟨e,?_⟩
 refine⟨y,_,I.lset (its':=its.eraseIdx k) hH e ?_ (r.eraseIdx k) ?_,rw',q⟩
 ·show its.toArray.eraseIdxIfInBounds k=(its.eraseIdx k).toArray;rw[List.eraseIdxIfInBounds_toArray]
 ·have:=lQ xs k
  lia
noncomputable def Ke:R2:=λx y H Q=>∃l b xs zs,x=.ref l/\y=.ref b/\H l=PU (.lst xs)/\H b=PU (.lst zs)/\xs.length+zs.length<=sizeLine/\∀p,H p=PV->Q (.ref p) (upd H p (.lst (xs++zs)))
theorem Dw:iU X (binaryOp .Add) Ke:=by
 intro pins s σ H x y v u Q I rx ry h;obtain⟨l,b,xs,zs,rfl,rfl,hH,hB,hz,q⟩:=h;cases rx;cases ry;obtain⟨z,its,n,r,hl,e⟩:=I.lstM hH;obtain⟨z2,its2,n2,r2,hl2,e2⟩:=I.lstM hB;refine PySem.P.add_list e e2 ?_ (by rw[Nc,Nc];lia);have ea:its.toArray++its2.toArray=(its++its2).toArray:=by simp
 rw[ea];exact⟨.ref _,_,I.lnew (t':=s.toks) (r.append r2) (by rw[ND];lia),rfl,q _ I.fresh⟩
noncomputable def Kf:R2:=λx y H Q=>∃l k xs,x=.ref l/\y=.int k/\H l=PU (.lst xs)/\-(2^63)<=k/\k<2^63/\xs.length*k.toNat<=sizeLine/\
 ∀p,H p=PV->Q (.ref p) (upd H p (.lst (M3 k.toNat xs).flatten))
theorem zC{α:Type}(xs:List α)(k:Nat):(M3 k xs).flatten.length=k*xs.length:=by
 induction k with
 |zero=>simp
 |succ k ih=>rw[NI,Oe,ND,ih,Nat.succ_mul,Nat.add_comm]
theorem Dx:iU X (binaryOp .Mult) Kf:=by
 intro pins s σ H x y v u Q I rx ry h;obtain⟨l,k,xs,rfl,rfl,hH,h1,h2,hz,q⟩:=h;cases rx;obtain⟨t,rfl⟩:=ry;obtain⟨z,its,n,r,hl,e⟩:=I.lstM hH;have hlen:its.toArray.size*k.toNat<=sizeLine:=by rw[Nc,<- hl];exact hz
 have hcap:¬its.toArray.size*k.toNat > (2^63-1) / 8:=by
  have:(sizeLine:Nat)<=(2^63-1) / 8:=by decide
  lia
 have hfit:¬(!Builtin.List.listFitsIndex k)=PX:=by
  rw[fitsIndex_both h1 h2];exact NQ
 have hlong:¬Builtin.List.listTooLong (its.toArray.size*k.toNat)=PX:=by
  rw[wJ hlen];exact NQ
 have hnew:Pf (λx1 x2=>x1++x2) #[] (M3 (if its.toArray.isEmpty=PX then 0 else k.toNat) its.toArray)=(M3 k.toNat its).flatten.toArray:=by
  have f0:∀m:Nat,Pf (λx1 x2=>x1++x2) #[] (M3 m its.toArray)=(M3 m its).flatten.toArray:=λm=>by
   have:=lR its m [];rw[PP] at this;exact this
  rw[f0]
  cases its with
  |nil=>simp
  |cons a r'=>rw[if_neg (by simp)]
 refine wpAny_binaryOp_repeat_ref (T:="list") (U:="int") (by decide) ⟨_,e,rfl⟩ (λs'=>typeIs_int s' k t) noFill_list_mul F.fills_int_mul F.slot_int_rmul repeat_list F.slot_int_index.lookup
  (call_meets F.slot_int_rmul (typeIs_int s k t) F.entry_int_rmul (F.args_int_rmul_2 _ _) (int___rmul___int_list k t l its.toArray n)
   ⟨e,rfl,⟨_,e,rfl⟩,call_meets F.slot_list_mul ⟨_,e,rfl⟩ F.entry_list_mul (F.args_list_mul_2 _ _) (AutoListH.list___mul___list_int_3 l its.toArray n k t hfit hcap hlong) ⟨e,?_⟩⟩)
 rw[hnew];exact⟨.ref _,_,I.lnew (t':=s.toks) (r.rep k.toNat) (by rw[zC,Nat.mul_comm];exact hz),rfl,q _ I.fresh⟩
end
section
variable {prog:P6} {w:P8} {A:Qc} {E:PZ->P2->Prop} {s:P2}
end
section
variable {X:Cx}
end
end L2
namespace Att
open PySem PySem.W PySem.Calls PyProof.Rows
theorem jC:∀(ns:List Int) (vs:List PZ),WellAll P h vs (ns.map WData.int)->IntsAre vs ns:=by
 intro ns
 induction ns with
 |nil=>
  intro vs w;rw[Pl] at w;cases w;exact .nil
 |cons n ns ih=>
  intro vs w;rw[Nu] at w
  cases w with
  |cons a b=>
   cases a;exact .cons _ _ (ih _ b)
theorem uL{l:OpenLaw}{n:Nat}(hn:l.most=PU n){P:Params}{h:Qa}{args:List WData}{vals:List PZ}
  (hpre:l.row.toRowW.claim.pre args=PX) (hwl:WellAll P h vals args) :
  ∃a vs ns,vals=[Value.ref a]/\args=[WData.list (ns.map WData.int)]/\h.get? a=PU { cls:=.type "list",data:=.seq vs.toArray }/\IntsAre vs ns/\ns.length<=n:=by
 have hsh:WShape.hasAll [] args [.list .int]=PX:=(pre_splitW hpre).1;have hc:l.pre.holds [] { args:=args }=PX:=(pre_splitW hpre).2;obtain⟨d,r,rfl,h1,h2⟩:=hasAllW_cons hsh;obtain rfl:=hasAllW_nil h2;obtain⟨xs,rfl,h3⟩:=hasW_list h1;obtain⟨ns,rfl⟩:=items_int h3
 have hlen:ns.length<=n:=by
  unfold OpenLaw.pre at hc
  have h4:(WTm.not (.lt (.lit (.int (n:Int))) (.len (.arg 0)))).holds [] { args:=[.list (ns.map .int)] }=PX:=by
   have h4:=(holds_andW hc).1;rw[hn] at h4;exact h4
  have h5:=condW_of h4 (w_not (w_lt w_lit (w_len_list (w_arg rfl))));rw[MY] at h5;refine Nat.le_of_not_lt λq=>?_;have q':(n:Int)<((ns.length:Nat):Int):=by lia
  first
   |(rw[decide_eq_true q'] at h5;exact absurd h5 (by decide))
   |(simp at h5;lia)
 cases hwl with
 |cons w1 w2=>
  cases w2
  cases w1 with
  |list ho hall=>exact⟨_,_,ns,rfl,rfl,ho,jC ns _ hall,hlen⟩
theorem uM(l:OpenLaw)(args:List WData):l.row.toRowW.claim.post args (.bool PX) args=PX:=
 postW_of (r:=l.row.toRowW) (X:=(PX==PX))
  (show WShape.has [] (.bool PX) .bool=PX by first|rfl|decide|simp[WShape.has,WShape.arms,WShape.armsAll])
  (show(WTm.eq .res (.lit (.bool PX))).value [] { args:=args,res:=PU (.bool PX),after:=args }=PU (.bool (PX==PX)) from w_eq_bool (w_res rfl) w_lit) rfl
theorem oO{l:OpenLaw}{n:Nat}{YP:P8->Qa->Prop}{d:DefRec}(hn:l.most=PU n)(hdf:d.params.defaults=[])(call:∀(w:P8) (s₀ s₁:P2) (mg mb:Str->Option PZ) (fa:P1) (o:Obj) (pm cd doc:PZ) (a:P1) (vs:List PZ) (ns:List Int),
   Ground q loose [] XP w s₀ mg mb s₁.heap->YP w s₁.heap->
   s₁.heap.get? fa=PU o->o.data=.func (docDef d.name d.params d.body d.scope pm cd doc)->s₁.heap.CodeRec cd d.name->mg d.name=PU (.ref fa)->
   s₁.heap.get? a=PU { cls:=.type "list",data:=.seq vs.toArray }->IntsAre vs ns->ns.length<=n->s₁.gens=#[]->
   codeAny (P5 l.prog w) callerA (.call (.ref fa) ⟨[.ref a],[]⟩) (λr s'=>r=.ok (.ret (.bool PX))/\OldK s₁.heap s'.heap/\s'.os=s₁.os/\AllBare s'.gens) s₁) :
  WalkO q loose XP YP l.row.toRowW d [] (λf vs=>PySem.call f vs):=by
 intro w s₀ s₁ mg mb G Y fa o pm cd doc dV kV ho hd hcd hD hmg hg args vals as hpre hlay hrd hwl hlo;obtain rfl:dV=.none:=Dflts.none hD hdf;obtain rfl:kV=.none:=Dflts.noKw hD;obtain⟨a,vs,ns,rfl,rfl,hobj,hints,hlen⟩:=uL hn hpre hwl;refine enter_call (codeAny_mono (call w s₀ s₁ mg mb fa o pm cd doc a vs ns G Y ho (fd_plain hd) hcd hmg hobj hints hlen hg) λr s' hq=>?_);obtain⟨rfl,h2,h3,h4⟩:=hq
 exact⟨.inl ⟨.bool PX,.bool PX,[],rfl,λ_=>rfl,.bool PX,uM l _,λ_=>⟨List.Pairwise.nil,λ_ hm=>(nomatch hm)⟩⟩,h2,h3,h4⟩
section
variable {prog:P6} {w:P8} {A:Qc} {E:PZ->P2->Prop} {s:P2} {K:Frag}
end
end Att
namespace L2
open PySem PySem.Spec PyProof.Rows
theorem lT:∀{vs:List PZ} {ns:List Int},IntsAre vs ns->Vals (ns.map V.int) vs
 |_,_,.nil=>.nil
 |_,_,.cons n t h=>.cons ⟨t,rfl⟩ (lT h)
noncomputable def Dy(H:Hp):Prop:=∀b,H b=PV\/∃o xs,H b=PU (.frz o (.lst xs))
theorem wM{K:MW}{mg mb:Str->Option PZ}{k:Nat}{x:Str}{s₁:P2}{vs:List PZ}{ns:List Int}(KX:K.In s₁.heap)(hns:s₁.heap.Ns Qh mg)(hb:s₁.heap.Ns builtinsNs mb)(hbb:∀x:Str,x≠"__name__"->mb x=bootBuiltins x)(hlim:s₁.heap.NoLimit)(hg:s₁.gens=#[])(ha:s₁.heap.get? a=PU { cls:=.type "list",data:=.seq vs.toArray })(hi:IntsAre vs ns)(hl:ns.length<=sizeLine)(hr:Room k callerA)(F:∀base:Qa,K.In base->base.Ns Qh mg->FnOk P w K mg base CX k fa fd [x] sp)(hbind:∀(s:P2) (u:PZ),BindsTo s fd ⟨[u],[]⟩ [(x,u)])(hsp:∀H:Hp,Dy H->SqL K H a (ns.map V.int)->sp [.ref a] H (λv _=>v=.bl PX) λ_ _ _=>False)(hCX:∀H e s',CX [] H s₁ (λ_ _ _=>False) e s'->False) :
  codeAny (P5 P w) callerA (.call (.ref fa) ⟨[.ref a],[]⟩) (λr s'=>r=.ok (.ret (.bool PX))/\OldK s₁.heap s'.heap/\s'.os=s₁.os/\AllBare s'.gens) s₁:=by
 have rv:=lT hi;have lenV:=hi.length
 -- from an abstract heap in which nothing but the script may be tracked
 have core:∀H:Hp,Dy H->SqL K H a (ns.map V.int)->HOk P w H s₁.heap->(∀b,H b≠PV->b=a)->(H a≠PV->K.lookup a=PV)->
   codeAny (P5 P w) callerA (.call (.ref fa) ⟨[.ref a],[]⟩) (λr s'=>r=.ok (.ret (.bool PX))/\OldK s₁.heap s'.heap/\s'.os=s₁.os/\AllBare s'.gens) s₁:=by
  intro H hO hS hok hA hK;have base_of:∀{b:P1} {o:Obj},s₁.heap.get? b=PU o->H b=PV->(mK s₁.heap H).get? b=PU o:=λe n=>wg e n
  have noA:∀{b:P1} {o:Obj} {es:Array DictEntry} {ep:Nat},s₁.heap.get? b=PU o->o.data=.dict es ep->H b=PV:=λ{b o es ep} e d=>by
   cases q:H b with
   |none=>rfl
   |some u=>
    have e':b=a:=hA b (by rw[q];simp);subst e';rw[ha] at e;cases e;have d':Data.seq vs.toArray _=Data.dict es ep:=d;cases d'
  have ce:∀{b:P1} {m:Str->Option PZ},s₁.heap.Ns b m->(mK s₁.heap H).Ns b m:=λ{b m} ⟨o,es,ep,e,d,r⟩=>⟨o,es,ep,base_of e (noA e d),d,r⟩
  have hKb:K.In (mK s₁.heap H):=λb o e=>base_of (KX b o e) (by
   cases q:H b with
   |none=>rfl
   |some u=>
    have e':b=a:=hA b (by rw[q];simp);subst e';rw[hK (by rw[q];simp)] at e;cases e)
  have hM:Mod K mg (mK s₁.heap H):=⟨hKb,ce hns,⟨mb,ce hb,hbb⟩,let ⟨mc,h1,h2⟩:=hlim;⟨mc,ce h1,h2⟩⟩;have e0:zx P w K mg (mK s₁.heap H) callerA [] s₁ H:=⟨rfl,hM,λb o e=>zm e,Nat.le_of_eq (uD _ _),trivial,λb hb=>absurd (show b∈([]:List P1) from hb) (by simp),hok,.of_eq hg⟩;refine codeAny_mono ((F _ hKb (ce hns)).run callerA [] s₁ H ⟨[.ref a],[]⟩ [.ref a] [.ref a] _ _ hr e0 (hbind s₁ (.ref a)) (.cons rfl .nil) (hsp H hO hS)) λr s' h=>?_
  cases r with
  |error e=>exact(hCX H e s' h).elim
  |ok fl=>
   cases fl with
   |next=>exact False.elim h
   |brk=>exact False.elim h
   |cont=>exact False.elim h
   |ret u=>
    obtain⟨v,H',os,bare,un,hok',r',q⟩:=h;have q':v=.bl PX:=q;subst q';obtain rfl:u=Value.bool PX:=r';refine⟨rfl,OldK.of_keep λb o e=>?_,os,bare⟩
    cases q:H b with
    |none=>exact un.keep b o e q (by intro z;exact absurd (show b∈([]:List P1) from z) (by simp)) (by simp)
    |some u=>
     rcases hO b with z|⟨ob,xs,z⟩
     ·rw[q] at z;cases z
     ·have z2:=un.frzs b ob _ z;obtain⟨e1,_⟩:=hok b _ z;obtain⟨e2,_⟩:=hok' b _ z2;rw[e] at e1;cases e1;exact e2
 cases hk:K.lookup a with
 |some o=>
  -- the script is one of the module's own objects
  have e:=KX a o hk;rw[ha] at e;cases e;refine core (λ_=>PV) (λ_=>.inl rfl) (.inr ⟨_,vs.toArray,_,hk,rfl,rfl,rfl,by rw[Nc,lenV];exact hl,by simpa using rv⟩) (λb u z=>by have z':(PV:Option HO)=PU u:=z;cases z') (λb z=>absurd rfl z) λz=>absurd rfl z
 |none=>
  refine core (λb=>if b=a then PU (.frz { cls:=.type "list",data:=.seq vs.toArray } (.lst (ns.map V.int))) else PV) (λb=>?_) (.inl (.inr ⟨{ cls:=.type "list",data:=.seq vs.toArray },if_pos rfl⟩)) (λb u z=>?_) (λb z=>?_) λ_=>hk
  ·by_cases hb:b=a
   ·exact .inr ⟨_,_,if_pos hb⟩
   ·exact .inl (if_neg hb)
  ·by_cases hb:b=a
   ·have z':=(if_pos hb).symm.trans z;cases z';subst hb;exact⟨ha,by rw[MY];exact hl,vs,_,rv,ha⟩
   ·have z':=(if_neg hb).symm.trans z;cases z'
  ·by_cases hb:b=a
   ·exact hb
   ·exact absurd (if_neg hb) z
end L2
namespace L2
open PySem PySem.Spec PyProof.Rows
theorem zD{l:PySem.W.OpenLaw}{n k:Nat}{YP:P8->Qa->Prop}{d:DefRec}{K:Params->MW}{CX:P8->qu}{sp:P8->Sp}{x:Str}(hn:l.most=PU n)(hn2:n<=sizeLine)(hdf:d.params.defaults=[])(hr:Room k callerA)(hY:∀(w:P8) (h:Qa),YP w h->(K w.params).In h)(F:∀(w:P8) (mg:Str->Option PZ) (fa:P1) (h:Qa),(K w.params).In h->h.Ns Qh mg->mg d.name=PU (.ref fa)->
   ∃fd:Qk,(∀(s:P2) (u:PZ),BindsTo s fd ⟨[u],[]⟩ [(x,u)])/\
    ∀base:Qa,(K w.params).In base->base.Ns Qh mg->FnOk l.prog w (K w.params) mg base (CX w) k fa fd [x] (sp w))(hsp:∀(w:P8) (H:Hp) (a:P1) (ns:List Int),ns.length<=n->Dy H->SqL (K w.params) H a (ns.map V.int)->sp w [.ref a] H (λv _=>v=.bl PX) λ_ _ _=>False)(hCX:∀(w:P8) (H:Hp) (s:P2) (e:PZ) (s':P2),CX w [] H s (λ_ _ _=>False) e s'->False) :
  PySem.W.WalkO q loose XP YP l.row.toRowW d [] (λf vs=>PySem.call f vs):=by
 refine Att.oO hn hdf λw s₀ s₁ mg mb fa o pm cd doc a vs ns G Y ho hd hcd hmg hobj hints hlen hg=>?_;have KX:=hY w _ Y;obtain⟨fd,hb,hF⟩:=F w mg fa _ KX G.T.g hmg;exact wM KX G.T.g G.T.b G.T.builtins G.T.nolimit hg hobj hints (Nq hlen hn2) hr hF hb (λH hO hS=>hsp w H a ns hlen hO hS) λH e s'=>hCX w H s₁ e s'
end L2
namespace L2
open PySem PySem.Spec PyProof.Rows
noncomputable def dU(s:P9):Arguments:=match s with
 |.FunctionDef _ a _ _ _ _ _ _ _ _=>a
 |_=>{ posonlyargs:=[],args:=[],vararg:=PV,kwonlyargs:=[],kw_defaults:=[],kwarg:=PV,defaults:=[] }
noncomputable def aH(s:P9):List P9:=match s with
 |.FunctionDef _ _ b _ _ _ _ _ _ _=>b
 |_=>[]
noncomputable def af(s:P9):Qe:=match s with
 |.FunctionDef _ _ _ _ _ _ sc _ _ _=>sc
 |_=>{ kind:=.function,names:=[],isGenerator:=PY,isCoroutine:=PY }
noncomputable abbrev oP:qu:=λ_ _ _ _ _ _=>False
noncomputable abbrev E0:XK:=λ_ _ _=>False
theorem wN:fB oP X E0:=λ_ _ _ _ _ _ _ h=>h.elim
structure Fun(K:MW)(x qual:Str)(st:Stmt)(f:Addr)(fd:FuncData):Prop where
 ex:∃(oc:PZ) (od:Option P1) (kV doc pm:PZ) (an:Option P1) (cdv ct:PZ) (osl:Array (Option PZ)),
  fd=N0 x qual (dU st) (aH st) (af st) .none kV doc pm an cdv ct/\K.lookup f=PU ⟨oc,od,.func fd,osl⟩/\OL K cdv qual=PX
 kp:NC K (.ref f)=PX
section
variable {P:P6} {w:P8} {K:MW} {mg:Str->Option PZ} {base:Qa}
theorem Fun.ok{x qual:Str}{st:P9}{f:P1}{fd:Qk}{N ps:List Str}{k:Nat}{sp:Sp}(F:Fun K x qual st f fd)(S:aA N ps (af st))(len:∀vs H Q E,sp vs H Q E->vs.length=ps.length)
  (hbody:∀(cdv:PZ) (A:Qc) (outer:List Env) (s:P2) (H:Hp) (vs:List V) (Q:VK) (E:XK),Room k (A.deeper (envOfC qual (af st) s.heap.objs.size f cdv))->sp vs H Q E->
   ∃t,PSs (eJ oP P w K mg base N qual (af st) f cdv A outer s H E).nox (aH st) t/\t { nx:=λ_ H'=>Q .non H',rt:=Q } (cq N vs) H):FnOk P w K mg base oP (k+1) f fd ps sp:=by
 obtain⟨oc,od,kV,doc,pm,an,cdv,ct,osl,rfl,lk,hcd⟩:=F.ex;refine BG lk hcd S len λA outer s H vs Q E hr hsp=>?_;obtain⟨t,h,q⟩:=hbody cdv A outer s H vs Q E hr hsp;exact⟨t,h.nox,q⟩
theorem Fun.binds{x qual:Str}{st:P9}{f:P1}{fd:Qk}{ps:List Str}(F:Fun K x qual st f fd)
  (h:∀(kV doc pm:PZ) (an:Option P1) (cdv ct:PZ) (us:List PZ),us.length=ps.length->bindArgs (N0 x qual (dU st) (aH st) (af st) .none kV doc pm an cdv ct) ⟨us,[]⟩=pure (ps.zip us)):Binds K fd ps []:=by
 obtain⟨oc,od,kV,doc,pm,an,cdv,ct,osl,rfl,lk,hcd⟩:=F.ex;exact .all (h kV doc pm an cdv ct)
theorem Dz{x qual:Str}{st:P9}{f:P1}{oc:PZ}{od an:Option P1}{osl:Array (Option PZ)}{kV doc pm cdv ct:PZ}(l:K.lookup f=PU ⟨oc,od,.func (N0 x qual (dU st) (aH st) (af st) .none kV doc pm an cdv ct),osl⟩)
  (c:OL K cdv qual=PX) (k:NC K (.ref f)=PX):Fun K x qual st f (N0 x qual (dU st) (aH st) (af st) .none kV doc pm an cdv ct):=⟨⟨oc,od,kV,doc,pm,an,cdv,ct,osl,rfl,l,c⟩,k⟩
end
theorem uN{n:Nat}(h:n<=1000):n<sizeLine:=NA h (by decide)
section
variable {X:Cx}
end
theorem m9{A B:Prop}(h:B):if PY=PX then A else B:=by
 rw[if_neg NQ];exact h
theorem wP{A B:Prop}(h:A):if PX=PX then A else B:=by
 rw[if_pos rfl];exact h
noncomputable def Same(H H':Hp):Prop:=∀b o,H b=PU o->H' b=PU o
theorem Same.refl(H:Hp):Same H H:=λ_ _ h=>h
theorem Same.trans(a:Same H H1)(b:Same H1 H2):Same H H2:=λc o h=>b c o (a c o h)
theorem Same.free{H H':Hp}(e:Same H H'){l:P1}(h:H' l=Option.none):H l=Option.none:=by
 cases q:H l with
 |none=>rfl
 |some o=>
  rw[e l o q] at h;cases h
end L2
namespace HT
open PySem PySem.Spec PyProof.Rows
section
variable {prog:P6} {w:P8} {A:Qc} {E:PZ->P2->Prop} {s:P2}
end
end HT
namespace L2
open PySem PySem.Spec PyProof.Rows
section
variable {X:Cx}
end
end L2
namespace L2
open PySem PySem.Spec PyProof.Rows
section
variable {κ:Type} [DecidableEq κ]
noncomputable def ia(kvs:List (κ×V))(k:κ):Option V:=(kvs.find? λkv=>decide (kv.1=k)).map (·.2)
noncomputable def dl(kvs:List (κ×V))(k:κ)(v:V):List (κ×V):=
 if(kvs.any λkv=>decide (kv.1=k))=PX then kvs.map (λkv=>if kv.1=k then(kv.1,v) else kv) else kvs++[(k,v)]
theorem ko{p:κ×V}(e:p.1=k):ia (p::r) k=PU p.2:=by simp[ia,N2,e]
theorem kq{p:κ×V}(e:¬p.1=k):ia (p::r) k=ia r k:=by simp[ia,N2,e]
theorem oQ(k:κ):∀kvs:List (κ×V),(kvs.any λkv=>decide (kv.1=k))=(ia kvs k).isSome
 |[]=>rfl
 |p::r=>by
  rw[Ph];by_cases e:p.1=k
  ·simp only[ko e,decide_eq_true e,Bool.true_or,Pm]
  ·rw[kq e,decide_eq_false e,Bool.false_or];exact oQ k r
theorem jp(kvs:List (κ×V))(k:κ)(v:V):(dl kvs k v).length<=kvs.length+1:=by
 unfold dl;split
 ·rw[MY];lia
 ·rw[ND,NF,O4];lia
theorem RelO.isSome_eq{o:Option V}{u:Option PZ}(r:RelO o u):o.isSome=u.isSome:=by
 cases o with
 |none=>cases u with
  |none=>rfl
  |some _=>exact(show False from r).elim
 |some _=>cases u with
  |none=>exact(show False from r).elim
  |some _=>rfl
theorem KV.val(r:KV kvs vs)(k:κ):RelO (ia kvs k) (valueAt vs k):=by
 unfold KV at r
 induction r with
 |nil=>exact True.intro
 |@cons p q ps qs h t ih=>
  obtain⟨h1,h2⟩:=h;by_cases e:p.1=k
  ·have e':q.1=k:=h1.symm.trans e;have b:valueAt (q::qs) k=PU q.2:=by simp[valueAt,N2,e']
   rw[ko e,b];exact h2
  ·have e':¬q.1=k:=λz=>e (h1.trans z);have b:valueAt (q::qs) k=valueAt qs k:=by simp[valueAt,N2,e']
   rw[kq e,b];exact ih
theorem KV.any{kvs:List (κ×V)}{vs:List (κ×PZ)}(r:KV kvs vs)(k:κ):(kvs.any λkv=>decide (kv.1=k))=vs.any λkv=>decide (kv.1=k):=by
 unfold KV at r
 induction r with
 |nil=>rfl
 |cons h t ih=>rw[Ph,Ph,ih,h.1]
theorem KV.repl{kvs:List (κ×V)}{vs:List (κ×PZ)}(r:KV kvs vs)(k:κ){y:V}{u:PZ}(ry:RelV y u) :
  KV (kvs.map λkv=>if kv.1=k then(kv.1,y) else kv) (vs.map λkv=>if kv.1=k then(kv.1,u) else kv):=by
 unfold KV at r⊢
 induction r with
 |nil=>exact .nil
 |@cons p q ps qs h t ih=>
  rw[Nu,Nu];refine .cons ?_ ih;obtain⟨h1,h2⟩:=h;by_cases e:p.1=k
  ·rw[if_pos e,if_pos (h1.symm.trans e)];exact⟨h1,ry⟩
  ·rw[if_neg e,if_neg (λz=>e (h1.trans z))];exact⟨h1,h2⟩
theorem KV.put(r:KV kvs vs)(k:κ){y:V}{u:PZ}(ry:RelV y u):KV (dl kvs k y) (stored vs k u):=by
 unfold dl stored;rw[r.any k];by_cases e:(vs.any λkv=>decide (kv.1=k))=PX
 ·rw[if_pos e,if_pos e];exact r.repl k ry
 ·rw[if_neg e,if_neg e];exact Paired.snoc r ⟨rfl,ry⟩
theorem KV.length{kvs:List (κ×V)}{vs:List (κ×PZ)}(r:KV kvs vs):kvs.length=vs.length:=Paired.length r
end
theorem oR(r:RelV (kV k) u):(br P w).is k u=PX:=by
 cases k with
 |inl i=>obtain⟨t,e⟩:=(show ∃t,u=Value.int i t from r);subst e;exact oB P w i t
 |inr x=>obtain⟨t,e⟩:=(show ∃t,u=Value.str x t from r);subst e;exact oC P w x t
theorem lU:∀{ks:List aS} {us:List PZ},Vals (ks.map kV) us->ItemsAre (br P w) ks us
 |[],_,r=>by rw[Pl] at r;cases r;exact .nil
 |k::ks,_,r=>by
  rw[Nu] at r
  cases r with
  |cons h t=>exact .cons (oR h) (lU t)
noncomputable abbrev KT(m:Nat)(H:Hp):List (List (aS ⊕ List aS)×V)->List (List (aS ⊕ List aS)×P1×PZ)->Prop:=Paired λp q=>p.1=q.1/\TkAt H m p.1 q.2.1/\RelV p.2 q.2.2
theorem KT.val{m:Nat}(r:KT m H kvs xs)(k:List (aS ⊕ List aS)):RelO (ia kvs k) ((atKey xs k).map (·.2)):=by
 induction r with
 |nil=>exact True.intro
 |@cons p q ps qs h t ih=>
  obtain⟨h1,_,h2⟩:=h;by_cases e:p.1=k
  ·have e':q.1=k:=h1.symm.trans e;have b:atKey (q::qs) k=PU q.2:=by simp[atKey,N2,e']
   rw[ko e,b];exact h2
  ·have e':¬q.1=k:=λz=>e (h1.trans z);have b:atKey (q::qs) k=atKey qs k:=by simp[atKey,N2,e']
   rw[kq e,b];exact ih
theorem KT.repl{m:Nat}{kvs:List (List (aS ⊕ List aS)×V)}{xs:List (List (aS ⊕ List aS)×P1×PZ)}(r:KT m H kvs xs)(k:List (aS ⊕ List aS)){y:V}{u:PZ}(ry:RelV y u) :
  KT m H (kvs.map λkv=>if kv.1=k then(kv.1,y) else kv) (xs.map (putAt k u)):=by
 induction r with
 |nil=>exact .nil
 |@cons p q ps qs h t ih=>
  rw[Nu,Nu];refine .cons ?_ ih;obtain⟨h1,h2,h3⟩:=h;unfold putAt;by_cases e:p.1=k
  ·rw[if_pos e,if_pos (h1.symm.trans e)];exact⟨h1,h2,ry⟩
  ·rw[if_neg e,if_neg (λz=>e (h1.trans z))];exact⟨h1,h2,h3⟩
theorem KT.put{m:Nat}{H:Hp}{kvs:List (List (aS ⊕ List aS)×V)}{xs:List (List (aS ⊕ List aS)×P1×PZ)}(r:KT m H kvs xs)(k:List (aS ⊕ List aS)){b:P1}{y:V}{u:PZ}(hb:TkAt H m k b)(ry:RelV y u) :
  KT m H (dl kvs k y) (storedH xs k b u):=by
 have e:(kvs.any λkv=>decide (kv.1=k))=(atKey xs k).isSome:=by
  rw[oQ,(r.val k).isSome_eq,Py]
 unfold dl storedH;rw[e];by_cases q:(atKey xs k).isSome=PX
 ·rw[if_pos q,if_pos q];exact r.repl k ry
 ·rw[if_neg q,if_neg q];exact Paired.snoc r ⟨rfl,hb,ry⟩
theorem KT.keeps{m:Nat}{H H':Hp}(r:KT m H kvs xs)(ht:∀b ys,H b=PU (.tup ys)->H' b=PU (.tup ys)):KT m H' kvs xs:=
 Paired.mapP r λ_ _ z=>⟨z.1,z.2.1.keep ht,z.2.2⟩
section
variable {P:P6} {w:P8} {H:Hp} {h:Qa} {a:P1}
theorem BI(ok:HOk P w H h)(e:Rd H a u):ObjOk P w H h a u:=e.ok ok
theorem sj{kvs:List (aS×V)}(ok:HOk P w H h)(e:Rd H a (.dK kvs)):kvs.length<=sizeLine/\(a==sysModules)=PY/\∃vs,KV kvs vs/\h.DictOf (br P w) a vs:=
 show ObjOk P w H h a (.dK kvs) from BI ok e
theorem GS{kvs:List (aS×V)}(ok:HOk P w H h)(e:H a=PU (.dK kvs)):kvs.length<=sizeLine/\(a==sysModules)=PY/\∃vs,KV kvs vs/\h.DictOf (br P w) a vs:=sj ok (.inl e)
theorem DA{ks:List aS}(ok:HOk P w H h)(e:H a=PU (.tup (ks.map kV))):(tupleKind (br P w)).is h ks a:=by
 obtain⟨_,its,r,o,h1,h2,n,h3⟩:=(show ObjOk P w H h a (.tup (ks.map kV)) from ok a _ e);exact⟨o,its.toArray,n,h1,h2,h3,by simpa using lU r⟩
theorem iY{A:Qc}{m:Nat}(hu:A.units+9<cLine):(dE m (br P w)).room A.in1:=by
 show A.units+1+8<cLine
 lia
theorem kr:∀{m:Nat} {ks:List (aS ⊕ List aS)} {vs:List V} {us:List PZ},HOk P w H h->TkIts H m ks vs->Vals vs us->Its2 (br P w) h m ks us
 |_,[],_,_,ok,r,v=>by cases(show _=[] from r);cases v;exact .nil
 |m,.inl k::xs,_,_,ok,r,v=>by
  obtain⟨r',rfl,z,t⟩:=r
  cases v with
  |cons h1 h2=>exact .key z (oR h1) (kr ok t h2)
 |m,.inr ks::xs,_,_,ok,r,v=>by
  obtain⟨b,r',rfl,z,g,t⟩:=r
  cases v with
  |@cons _ u _ _ h1 h2=>
   cases(show u=Value.ref b from h1);exact .tup z (DA ok g) (kr ok t h2)
theorem ig{m:Nat}(ok:HOk P w H h)(e:TkAt H m ks a):(dE m (br P w)).is h ks a:=by
 obtain⟨vs,g,r⟩:=e;obtain⟨_,its,q,o,h1,h2,n,h3⟩:=(show ObjOk P w H h a (.tup vs) from ok a _ g);exact⟨o,its.toArray,n,h1,h2,h3,by simpa using kr ok r q⟩
theorem sr{m ep:Nat}{kvs:List (List (aS ⊕ List aS)×V)}(ok:HOk P w H h)(e:Rd H a (.dT m ep kvs)):kvs.length<=sizeLine/\(a==sysModules)=PY/\
  ∃xs,KT m H kvs xs/\h.DictOfH (dE m (br P w)) a xs:=by
 obtain⟨z,y,xs,r,o,es,h1,h2,h3,h4,h5⟩:=(show ObjOk P w H h a (.dT m ep kvs) from BI ok e);refine⟨z,y,xs,r,o,es,ep,h1,h2,h3,h4,λx hx=>?_,h5⟩
 have all:∀{l:List (List (aS ⊕ List aS)×V)} {n:List (List (aS ⊕ List aS)×P1×PZ)},KT m H l n->∀x∈n,(dE m (br P w)).is h x.1 x.2.1:=by
  intro l n q
  induction q with
  |nil=>intro x hx;exact nomatch hx
  |@cons p q ps qs hq t ih=>
   intro x hx;rcases M7.mp hx with e|hx
   ·subst e;exact ig ok (by rw[<- hq.1];exact hq.2.1)
   ·exact ih x hx
 exact all r x hx
theorem BJ{m ep:Nat}{kvs:List (List (aS ⊕ List aS)×V)}(ok:HOk P w H h)(e:H a=PU (.dT m ep kvs)):kvs.length<=sizeLine/\(a==sysModules)=PY/\
  ∃xs,KT m H kvs xs/\h.DictOfH (dE m (br P w)) a xs:=sr ok (.inl e)
end
noncomputable def DGet(H:Hp)(a:P1)(y:V)(r:Option V):Prop:=
 (∃kvs k,Rd H a (.dK kvs)/\y=kV k/\r=ia kvs k)\/∃m ep kvs k b,Rd H a (.dT m ep kvs)/\y=.ref b/\TkAt H m k b/\r=ia kvs k
noncomputable def DPut(H:Hp)(a:P1)(y v:V)(F:Nat->Hp):Prop:=
 (∃kvs k,H a=PU (.dK kvs)/\y=kV k/\kvs.length<sizeLine/\F=λ_=>upd H a (.dK (dl kvs k v)))\/
 ∃m ep kvs k b,H a=PU (.dT m ep kvs)/\y=.ref b/\TkAt H m k b/\kvs.length<sizeLine/\F=λe=>upd H a (.dT m e (dl kvs k v))
theorem DGet.k{H:Hp}{a:P1}{kvs:List (aS×V)}{k:aS}(e:H a=PU (.dK kvs)):DGet H a (kV k) (ia kvs k):=.inl ⟨kvs,k,.inl e,rfl,rfl⟩
theorem DGet.t{H:Hp}{a b:P1}{m ep:Nat}{kvs:List (List (aS ⊕ List aS)×V)}{k:List (aS ⊕ List aS)}(e:H a=PU (.dT m ep kvs))(eb:TkAt H m k b):DGet H a (.ref b) (ia kvs k):=.inr ⟨m,ep,kvs,k,b,.inl e,rfl,eb,rfl⟩
theorem DPut.k{H:Hp}{a:P1}{kvs:List (aS×V)}{k:aS}{v:V}(e:H a=PU (.dK kvs))(hl:kvs.length<sizeLine):DPut H a (kV k) v λ_=>upd H a (.dK (dl kvs k v)):=.inl ⟨kvs,k,e,rfl,hl,rfl⟩
theorem DPut.t{H:Hp}{a b:P1}{m ep:Nat}{kvs:List (List (aS ⊕ List aS)×V)}{k:List (aS ⊕ List aS)}{v:V}(e:H a=PU (.dT m ep kvs))(eb:TkAt H m k b)(hl:kvs.length<sizeLine) :
  DPut H a (.ref b) v λe=>upd H a (.dT m e (dl kvs k v)):=.inr ⟨m,ep,kvs,k,b,e,rfl,eb,hl,rfl⟩
section
variable {X:Cx} {pins:List (P1×Obj)} {σ:St} {H:Hp} {s:P2} {a:P1} {y v:V} {u r:PZ} {o:Option V} {A:Qc} {E:PZ->P2->Prop}
theorem Inv.big(I:Inv X pins σ H s):sysModules<s.heap.objs.size:=by
 have h:Qh<s.heap.objs.size:=(I.mod.glob.keeps I.bk).lt;exact Oq (by decide) h
theorem uO{Q:PZ->P2->Prop}(hu:A.units+9<cLine)(I:Inv X pins σ H s)(g:DGet H a y (PU v))(ry:RelV y u)(h:∀w' s',Inv X pins σ H s'->RelV v w'->Q w' s') :
  P4 (P5 X.prog X.w) A (getItem (.ref a) u) Q E s:=by
 rcases g with⟨kvs,k,e,ey,l⟩|⟨m,ep,kvs,k,b,e,ey,eb,l⟩
 ·subst ey;obtain⟨z,hd,vs,rel,dd⟩:=sj I.hok e;obtain⟨w',hw,rw'⟩:=RelO.some_of (v:=v) (o:=valueAt vs k) (by rw[l];exact rel.val k);exact wpAny_getItem_of (oR ry) dd.mapOf hw (h w' _ (I.tok _) rw')
 ·subst ey;cases(show u=Value.ref b from ry);obtain⟨z,hd,xs,rel,dd⟩:=sr I.hok e;obtain⟨w',hw,rw'⟩:=RelO.some_of (v:=v) (o:=(atKey xs k).map (·.2)) (by rw[l];exact rel.val k);obtain⟨p,hp,hp2⟩:=Option.map_eq_some_iff.mp hw;refine wpAny_getItem_heap (iY hu) (ig I.hok eb) dd hp ?_;rw[hp2];exact h w' _ (I.tok _) rw'
theorem zE{Q:PZ->P2->Prop}(hu:A.units+9<cLine)(I:Inv X pins σ H s)(g:DGet H a y o)(ry:RelV y u)(h:∀s',Inv X pins σ H s'->Q (.bool (!o.isSome)) s') :
  P4 (P5 X.prog X.w) A (compareOp .NotIn u (.ref a)) Q E s:=by
 rcases g with⟨kvs,k,e,ey,l⟩|⟨m,ep,kvs,k,b,e,ey,eb,l⟩
 ·subst ey;obtain⟨z,hd,vs,rel,dd⟩:=sj I.hok e;refine wpAny_notIn_of (oR ry) hd dd.mapOf ?_;rw[<- (rel.val k).isSome_eq,<- l];exact h _ (I.tok _)
 ·subst ey;cases(show u=Value.ref b from ry);obtain⟨z,hd,xs,rel,dd⟩:=sr I.hok e;refine wpAny_notIn_heap (iY hu) (ig I.hok eb) hd dd ?_;have q:=(rel.val k).isSome_eq;rw[Py] at q;rw[<- q,<- l];exact h _ (I.tok _)
theorem nc{h':Qa}{t':Nat}(I:Inv X pins σ H s)(mu:Gu (H a))(hs:Heap.SameBut a s.heap h')(he:∃q,h'.get? a=PU q)(new:ObjOk X.prog X.w (upd H a ob) h' a ob) :
  Inv X pins σ (upd H a ob) { s with heap:=h',toks:=t' }:=
 I.write (x:=a) (e:=a) mu (.inl rfl) (λb q hb z=>(hs.2 b hb).trans z) he new
theorem DB{h':Qa}{kvs:List (aS×V)}(z:kvs.length<=sizeLine)(hd:(a==sysModules)=PY)(rel:KV kvs vs)(dd:h'.DictOf (br P w) a vs) :
  ObjOk P w H' h' a (.dK kvs):=⟨z,hd,vs,rel,dd⟩
theorem uP{F:Nat->Hp}{Q:Unit->P2->Prop}(hu:A.units+9<cLine)(I:Inv X pins σ H s)(g:DPut H a y v F)(ry:RelV y u)(rv:RelV v r)(h:∀e s',Inv X pins σ (F e) s'->Q () s') :
  P4 (P5 X.prog X.w) A (setItem (.ref a) u r) Q E s:=by
 rcases g with⟨kvs,k,e,ey,l,eH⟩|⟨m,ep,kvs,k,b,e,ey,eb,l,eH⟩
 ·subst ey eH;obtain⟨z,hd,vs,rel,dd⟩:=GS I.hok e;have hz:vs.length<=sizeLine:=by rw[<- rel.length];exact z
  have hl:(dl kvs k v).length<=sizeLine:=by have:=jp kvs k v;lia
  refine wpAny_setItem_pairs (hsz:=hz) (oR ry) dd λh' dd' hs=>h 0 _ ?_;have he:∃q,h'.get? a=PU q:=let ⟨q,_,_,hq,_⟩:=dd';⟨q,hq⟩;exact nc I (by rw[e];exact True.intro) hs he (DB hl hd (rel.put k rv) dd')
 ·subst ey eH;cases(show u=Value.ref b from ry);obtain⟨z,hd,xs,rel,dd⟩:=BJ I.hok e;have hz:xs.length<=sizeLine:=by rw[<- Paired.length rel];exact z
  have hl:(dl kvs k v).length<=sizeLine:=by have:=jp kvs k v;lia
  refine wpAny_setItem_heap (hsz:=hz) (iY hu) (ig I.hok eb) dd λh' dd' hs=>?_;obtain⟨q,es,ep,hq,h2,h3,h4,_,h5⟩:=dd';refine h ep _ ?_;refine nc I (by rw[e];exact True.intro) hs ⟨q,hq⟩ ⟨hl,hd,_,(rel.put k eb rv).keeps λc ys ec=>?_,q,es,hq,h2,h3,h4,h5⟩
  rw[ah (BD ec e (λz=>nomatch z))]
  exact ec
end
section
variable {X:Cx} {pins:List (P1×Obj)} {σ:St} {H:Hp} {s:P2} {a:P1} {kvs:List (aS×V)} {k:aS} {u:PZ} {A:Qc} {E:PZ->P2->Prop}
end
noncomputable def GU(i:P0):Prop:=∀ov iv,subscripted i PY ov iv=operate [ov,iv] (getItem ov iv)
theorem zG{T id:String}(hl:typeLookup (.type T) "__getitem__" = pure (PU (.builtin id)))(hs:GU slice)(h:P4 (P5 prog w) A (eval value env) (λo s₁=>P4 (P5 prog w) A (eval slice env) (λi s₂=>s₂.TypeIs o T/\P4 (P5 prog w) A (getItem o i) Q E s₂) E s₁) E s) :
  P4 (P5 prog w) A (eval (.Subscript value slice pos) env) Q E s:=by
 refine Subscript_ (wpAny_mono h (λo s₁ h₁=>wpAny_mono h₁ (λi s₂ h₂=>?_) λ_ _ x=>x) λ_ _ x=>x);obtain⟨hT,h₂⟩:=h₂;unfold subscriptTail;refine P3 ?_;rw[getitemInPython_of_ne hT.not_modules];refine P3 (wpAny_specialOf hT hl ?_)
 have fin:P4 (P5 prog w) A (subscripted slice PY o i) (λr s₃=>P4 (P5 prog w) A (letTemporaryGo value o r >>= λ_=>pure r) Q E s₃) E s₂:=by
  rw[hs o i];exact wpAny_operating (wpAny_mono h₂ (λr s₃ h₃=>P3 (wpAny_letTemporaryGo (P7 h₃))) λ_ _ x=>x)
 first
  |exact P7 (P3 fin)
  |exact P3 (P7 (P3 fin))
  |exact P3 fin
theorem oT{s:P2}(I:Inv X pins σ H s)(g:DGet H a y o):s.TypeIs (.ref a) "dict":=by
 rcases g with⟨kvs,k,e,_,_⟩|⟨m,ep,kvs,k,b,e,_,_,_⟩
 ·obtain⟨_,_,vs,_,dd⟩:=sj I.hok e;exact dd.typeIs
 ·obtain⟨_,_,xs,_,dd⟩:=sr I.hok e;exact dd.typeIs
noncomputable def GV(td ty:TE):TE:=λσ H Q=>td σ H λx H1=>ty σ H1 λy H2=>∃a v,x=.ref a/\DGet H2 a y (PU v)/\Q v H2
noncomputable def GW(td ty tv:TE):TS:=λD σ H=>tv σ H λv H1=>td σ H1 λx H2=>ty σ H2 λy H3=>∃a F,x=.ref a/\DPut H3 a y v F/\∀e,D.nx σ (F e)
section
variable {X:Cx} {o i e value:P0} {pos pos' tpos:Pos} {td ty tv:TE}
theorem zH(hu:X.A.units+9<cLine)(ho:PE X o td)(hi:PE X i ty)(hs:GU i):PE X (.Subscript o i pos) (GV td ty):=by
 intro pins s σ H Q I h;refine zG PySem.F.slot_dict_getitem.lookup hs (bx (ho pins s σ H _ I h) λu s1 ⟨x,H1,I1,rx,q1⟩=>bx (hi pins s1 σ H1 _ I1 q1) λiv s2 ⟨y,H2,I2,ry,a,v,ex,g,q2⟩=>?_);subst ex;obtain rfl:u=Value.ref a:=rx;exact⟨oT I2 g,uO hu I2 g ry λw' s3 I3 rw'=>⟨v,H2,I3,rw',q2⟩⟩
theorem zI(hu:X.A.units+9<cLine)(ho:PE X o td)(hi:PE X i ty)(hv:PE X value tv)(hs:swapsWith value (PU (.Subscript o i pos')) pos.line X.env=pure PY) :
  PS X (.Assign [.Subscript o i pos'] value pos) (GW td ty tv):=by
 intro pins s σ H D I h;refine wpAny_Assign_Subscript (bx (hv pins s σ H _ I h) λr s1 ⟨v,H1,I1,rv,q1⟩=>bx (ho pins s1 σ H1 _ I1 q1) λu s2 ⟨x,H2,I2,rx,q2⟩=>bx (hi pins s2 σ H2 _ I2 q2) λiv s3 ⟨y,H3,I3,ry,a,F,ex,g,q3⟩=>?_) hs;subst ex;obtain rfl:u=Value.ref a:=rx;exact uP hu I3 g ry rv λe s4 I4=>⟨σ,F e,I4,q3 e⟩
end
theorem wQ{m:Nat}(h:Qa)(hb:sysModules<h.objs.size):ObjOk P w H (h.push { cls:=.type "dict",data:=.dict #[] }) h.objs.size (.dT m 0 []):=
 ⟨NG _,beq_eq_false_iff_ne.mpr (Ne.symm (Ni hb)),[],.nil,_,#[],Nt _ rfl,⟨rfl,rfl,rfl⟩,rfl,rfl,List.nodup_nil⟩
section
variable {X:Cx} {pos:Pos}
end
structure M1(X:Cx)(o:Expr)(m:Str)(apos:Pos)(e:Expr)(cpos:Pos):Prop where
 base:attributeBase o m X.env (eval o X.env)=eval o X.env
 few:((backTo cpos (Qb [e] X.env)).all (λx=>!x.1)&&(backToKw cpos (keywordEach [] X.env)).all (λx=>x.1.isSome)
  && decide (([e]:List P0).length+([]:List Keyword).length+(if([]:List Keyword).isEmpty then 0 else 1)<30))=PX
 line:(apos.endLine==cpos.line)=PX
 trees:backTo cpos (Qb [e] X.env)=[(PY,eval e X.env)]
structure M2(X:Cx)(o:Expr)(m:Str)(apos:Pos)(e f:Expr)(cpos:Pos):Prop where
 base:attributeBase o m X.env (eval o X.env)=eval o X.env
 few:((backTo cpos (Qb [e,f] X.env)).all (λx=>!x.1)&&(backToKw cpos (keywordEach [] X.env)).all (λx=>x.1.isSome)
  && decide (([e,f]:List P0).length+([]:List Keyword).length+(if([]:List Keyword).isEmpty then 0 else 1)<30))=PX
 line:(apos.endLine==cpos.line)=PX
 trees:backTo cpos (Qb [e,f] X.env)=[(PY,eval e X.env),(PY,eval f X.env)]
section
variable {X:Cx} {pins:List (P1×Obj)} {σ:St} {H:Hp} {s:P2} {a:P1} {y d:V} {u r:PZ} {o:Option V} {A:Qc} {E:PZ->P2->Prop}
end
section
variable {X:Cx} {o e f:P0} {apos cpos:Pos} {td ty tx:TE}
end
section
variable {X:Cx} {pins:List (P1×Obj)} {σ:St} {H:Hp} {s:P2} {a:P1} {kvs:List (aS×V)} {A:Qc} {E:PZ->P2->Prop}
end
section
variable {X:Cx} {pins:List (P1×Obj)} {σ:St} {H:Hp} {s:P2} {a:P1} {y:V} {u:PZ} {A:Qc} {E:PZ->P2->Prop}
end
end L2
namespace L2
open PySem PySem.Spec PyProof.Rows
section
variable {prog:P6} {w:P8} {A:Qc} {E:PZ->P2->Prop} {s:P2}
theorem wR{k v:P0}{Q:PZ->P2->Prop}(h:P4 (P5 prog w) A (eval k env) (λkv s1=>P4 (P5 prog w) A (eval v env) (λvv s2=>P4 (P5 prog w) A (dictSet s.heap.objs.size kv vv) (λ_ s3=>Q (.ref s.heap.objs.size) s3) E s2) E s1) E { s with heap:=s.heap.push { cls:=.type "dict",data:=.dict #[] } }) :
  P4 (P5 prog w) A (eval (.Dict [PU k] [v] pos) env) Q E s:=by
 rw[arm_eval_Dict,zip_pairTrees [PU k] [v] env pos rfl rfl,dictDisplay_pairs _ (by simp[pairTrees]) (by simp[pairTrees])];refine P3 (wpAny_standAt (P3 ?_));unfold subDict;refine P3 (wpAny_alloc (P3 (Qn ?_)));rw[if_pos (by simp[pairTrees])];refine P3 (pairTrees_cons_walk (wpAny_mono h (λkv s1 h1=>wpAny_mono h1 (λvv s2 h2=>pairTrees_nil_walk (Qn ?_)) λ_ _ e=>e) λ_ _ e=>e));rw[PQ];refine P3 (P3 (show P4 _ _ (dictSet s.heap.objs.size kv vv >>= λ_=>pure (ForInStep.yield PUnit.unit)) _ _ _ from P3 (wpAny_mono h2 (λ_ s3 q=>?_) λ_ _ e=>e)));refine P7 ?_;show P4 _ _ (forIn [] _ _) _ _ _;rw[List.forIn_nil];exact P7 (P7 (P7 (P7 q)))
end
noncomputable def GX(m:Nat)(tk tv:TE):TE:=λσ H Q=>∀p,H p=PV->tk σ (upd H p (.dT m 0 [])) λx H1=>tv σ H1 λy H2=>H2 p=PU (.dT m 0 [])/\∃k b,x=.ref b/\TkAt H2 m k b/\∀ep,Q (.ref p) (upd H2 p (.dT m ep [(k,y)]))
theorem zJ{X:Cx}{k v:P0}{m:Nat}(hu:X.A.units+8<cLine)(hk:PE X k tk)(hv:PE X v tv):PE X (.Dict [PU k] [v] pos) (GX m tk tv):=by
 intro pins s σ H Q I h;have I1:=I.laid (a:=s.heap.objs.size) (o:=.dT m 0 []) (h':=s.heap.push { cls:=.type "dict",data:=.dict #[] }) (t':=s.toks) (λ_ _ q=>Nb _ q) (M8 _) (wQ s.heap I.big);refine wR (bx (hk pins _ σ _ _ I1 (h _ (I.hok.fresh (M8 _)))) λkv s1 ⟨x,H1,I2,rx,q1⟩=>bx (hv pins s1 σ H1 _ I2 q1) λvv s2 ⟨y,H2,I3,ry,hp,kk,b,ex,tk,q⟩=>?_);subst ex;cases(show kv=Value.ref b from rx);obtain⟨z,hd,xs,rel,dd⟩:=BJ I3.hok hp;cases rel;refine wpAny_dictSet_heap (hsz:=NG _) (knd:=dE m (br X.prog X.w)) hu (ig I3.hok tk) dd λh' dd' hs=>?_;obtain⟨ob,es,ep,hq,h2,h3,h4,_,h5⟩:=dd';have one:storedH ([]:List (List (aS ⊕ List aS)×P1×PZ)) kk b vv=[(kk,b,vv)]:=rfl;rw[one] at h4 h5;refine⟨.ref s.heap.objs.size,_,nc I3 (by rw[hp];exact True.intro) hs ⟨ob,hq⟩ (ob:=.dT m ep [(kk,y)]) ⟨by show 1<=sizeLine;decide,hd,[(kk,b,vv)],.cons ⟨rfl,tk.keep λc ys ec=>?_,ry⟩ .nil,ob,es,hq,h2,h3,h4,h5⟩,rfl,q ep⟩
 rw[ah (BD ec hp (λz=>nomatch z))]
 exact ec
end L2
namespace L2
open PySem PySem.Spec PyProof.Rows
section
variable {prog:P6} {w:P8} {K:Type} [DecidableEq K] {knd:HeapKind prog w K} {A:Qc} {E:PZ->P2->Prop} {s:P2} {d a:P1} {k:K} {xs:List (K×P1×PZ)}
end
section
variable {X:Cx} {pins:List (P1×Obj)} {σ:St} {H:Hp} {s:P2} {a b:P1} {m ep:Nat} {kvs:List (List (aS ⊕ List aS)×V)} {k:List (aS ⊕ List aS)} {v:V} {r:PZ} {A:Qc} {E:PZ->P2->Prop}
end
end L2
namespace L2
open PySem PySem.Spec PyProof.Rows
section
variable {prog:P6} {w:P8} {A:Qc} {E:PZ->P2->Prop} {s:P2} {d:P1}
end
end L2
namespace L2
open PySem PySem.Spec PyProof.Rows
section
variable {prog:P6} {w:P8} {A:Qc} {E:PZ->P2->Prop} {s:P2} {d it:P1} {o:Obj} {es:Array DictEntry} {ep i:Nat}
end
end L2
namespace L2
open PySem PySem.Spec PyProof.Rows
noncomputable def gE(cells:List (Str×P1)):List (Str×Qj)->List (Str×P1)->List (Str×P1)
 |[],acc=>acc
 |(n,k)::r,acc=>gE cells r (if k=.free then(match cells.lookup n with|some c=>(n,c)::acc|none=>acc) else acc)
theorem ed{cells:List (Str×P1)}:∀{names:List (Str×Qj)} {acc:List (Str×P1)},(∀x c,acc.lookup x=PU c->cells.lookup x=PU c)->
  ∀x c,(gE cells names acc).lookup x=PU c->cells.lookup x=PU c
 |[],_,h=>h
 |(n,k)::r,acc,h=>by
  unfold gE;refine ed (names:=r) λx c=>?_;split
  ·cases e:cells.lookup n with
   |none=>exact h x c
   |some d=>
    dsimp only;intro q;rw[No] at q
    cases hx:x==n with
    |true=>
     rw[hx] at q;have:x=n:=by simpa using hx
     subst this;cases q;exact e
    |false=>
     rw[hx] at q;exact h x c q
  ·exact h x c
theorem lV:∀{names:List (Str×Qj)} {acc:List (Str×P1)} {x:Str},(∃c,acc.lookup x=PU c)->∃c,(gE cells names acc).lookup x=PU c
 |[],_,_,h=>h
 |(n,k)::r,acc,x,h=>by
  unfold gE;refine lV (names:=r) ?_;split
  ·cases e:cells.lookup n with
   |none=>exact h
   |some d=>
    dsimp only;rw[No]
    cases x==n with
    |true=>exact⟨d,rfl⟩
    |false=>exact h
  ·exact h
theorem ku{cells:List (Str×P1)}:∀{names:List (Str×Qj)} {acc:List (Str×P1)} {x:Str},(x,NameKind.free)∈names->(∃c,cells.lookup x=PU c)->∃c,(gE cells names acc).lookup x=PU c
 |(n,k)::r,acc,x,h,hc=>by
  unfold gE;rcases M7.mp h with e|h
  ·cases e;obtain⟨c,hc⟩:=hc;refine lV ⟨c,?_⟩;rw[if_pos rfl,hc];simp
  ·exact ku h hc
theorem ly{scope:Qe}{env:Env}(h:∀y∈scope.names,y.2=.free->∃c,env.cells.lookup y.1=PU c):closureFor scope env=pure (gE env.cells scope.names []):=by
 have key:∀(names:List (Str×Qj)) (acc:List (Str×P1)),(∀y∈names,y.2=.free->∃c,env.cells.lookup y.1=PU c)->
   (forIn names acc λ(x:Str×Qj) (r:List (Str×P1))=>(match x with|(name,kind)=>if(kind==.free)=PX then do let a <- cellOf env name;pure (ForInStep.yield ((name,a)::r)) else pure (ForInStep.yield r):Sem (ForInStep (List (Str×P1)))))=pure (gE env.cells names acc):=by
  intro names
  induction names with
  |nil=>intro acc _;rfl
  |cons y r ih=>
   intro acc hh;obtain⟨n,k⟩:=y;rw[PQ];dsimp only;by_cases hk:k=.free
   ·obtain⟨c,hc⟩:=hh (n,k) Nm hk;subst hk;have e:cellOf env n=pure c:=by unfold cellOf;rw[hc]
    rw[e];simp only[beq_self_eq_true,if_true,pure_bind];rw[ih _ λy hy=>hh y (Ng _ hy)]
    conv=>rhs;unfold gE
    rw[if_pos rfl];have hc':env.cells.lookup n=PU c:=hc;rw[hc']
   ·have e:(k==NameKind.free)=PY:=by simpa using hk
    rw[e];simp only[NZ,if_false,pure_bind];rw[ih _ λy hy=>hh y (Ng _ hy)]
    conv=>rhs;unfold gE
    rw[if_neg hk]
 unfold closureFor;exact(congrArg (λm=>m >>= λr=>pure r) (key scope.names [] h)).trans (by simp)
theorem cX:∀(names:List (Str×Qj)) (n:Nat) (acc:List (Str×P1)),Qf n names acc=Qf n names []++acc
 |[],n,acc=>rfl
 |(x,k)::r,n,acc=>by
  unfold Qf;split
  ·rw[cX r (n+1) ((x,n)::acc),cX r (n+1) [(x,n)],Px];rfl
  ·exact cX r n acc
theorem wS{x:Str}{c:P1}:∀{names:List (Str×Qj)} {n:Nat} {acc:List (Str×P1)},(Qf n names acc).lookup x=PU c->((x,NameKind.cell)∈names/\n<=c)\/acc.lookup x=PU c
 |[],_,_,h=>.inr h
 |(y,k)::r,n,acc,h=>by
  unfold Qf at h;split at h
  ·rename_i hk;have hk:k=.cell:=by simpa using hk
   subst hk;rcases wS h with⟨h1,h2⟩|h1
   ·exact .inl ⟨Ng _ h1,OV h2⟩
   ·rw[No] at h1
    cases hx:x==y with
    |true=>
     rw[hx] at h1;have:x=y:=by simpa using hx
     subst this;cases h1;exact .inl ⟨Nm,M8 _⟩
    |false=>rw[hx] at h1;exact .inr h1
  ·rcases wS h with⟨h1,h2⟩|h1
   ·exact .inl ⟨Ng _ h1,h2⟩
   ·exact .inr h1
theorem qx{x:Str}:∀{names:List (Str×Qj)} {n:Nat} {acc:List (Str×P1)},(x,NameKind.cell)∉names->(Qf n names acc).lookup x=acc.lookup x
 |[],_,_,_=>rfl
 |(y,k)::r,n,acc,h=>by
  unfold Qf;have hr:(x,NameKind.cell)∉r:=λz=>h (Ng _ z);split
  ·rename_i hk;have hk:k=.cell:=by simpa using hk
   subst hk;rw[qx hr,No]
   have:(x==y)=PY:=by
    have:x≠y:=λz=>h (by rw[z];exact Nm);simpa using this
   rw[this]
  ·exact qx hr
theorem ng{x:Str}:∀{names:List (Str×Qj)} {n:Nat} {acc:List (Str×P1)},((x,NameKind.cell)∈names\/∃c,acc.lookup x=PU c)->∃c,(Qf n names acc).lookup x=PU c
 |[],_,_,h=>by
  rcases h with h|h
  ·simp at h
  ·exact h
 |(y,k)::r,n,acc,h=>by
  unfold Qf;split
  ·rename_i hk;have hk:k=.cell:=by simpa using hk
   subst hk;refine ng ?_;by_cases hx:x=y
   ·subst hx;exact .inr ⟨n,by rw[No];simp⟩
   ·have e:(x==y)=PY:=by simpa using hx
    rcases h with h|h
    ·rcases M7.mp h with z|z
     ·exact absurd (by cases z;rfl) hx
     ·exact .inl z
    ·exact .inr (by rw[No,e];exact h)
  ·rename_i hk;refine ng ?_;rcases h with h|h
   ·rcases M7.mp h with z|z
    ·exact absurd (by cases z;rfl) hk
    ·exact .inl z
   ·exact .inr h
theorem qy{x:Str}{m:Nat}:∀{names:List (Str×Qj)} {n:Nat} {acc:List (Str×P1)},((x,NameKind.cell)∈names\/∀c,acc.lookup x=PU c->m<=c)->m<=n->∀c,(Qf n names acc).lookup x=PU c->m<=c
 |[],_,_,h,_,c,e=>by
  rcases h with h|h
  ·simp at h
  ·exact h c e
 |(y,k)::r,n,acc,h,hm,c,e=>by
  unfold Qf at e;split at e
  ·rename_i hk;have hk:k=.cell:=by simpa using hk
   subst hk;refine qy ?_ (Nat.le_succ_of_le hm) c e;by_cases hx:x=y
   ·subst hx;refine .inr λc e=>?_;rw[No] at e;simp at e;exact e▸hm
   ·have e2:(x==y)=PY:=by simpa using hx
    rcases h with h|h
    ·rcases M7.mp h with z|z
     ·exact absurd (by cases z;rfl) hx
     ·exact .inl z
    ·exact .inr (by intro c e;rw[No,e2] at e;exact h c e)
  ·rename_i hk;refine qy ?_ hm c e;rcases h with h|h
   ·rcases M7.mp h with z|z
    ·exact absurd (by cases z;rfl) hk
    ·exact .inl z
   ·exact .inr h
theorem qz:∀{names:List (Str×Qj)} {n:Nat} {acc:List (Str×P1)},(∀x c,acc.lookup x=PU c->c<n)->(∀x y c,acc.lookup x=PU c->acc.lookup y=PU c->x=y)->∀x y c,(Qf n names acc).lookup x=PU c->(Qf n names acc).lookup y=PU c->x=y
 |[],_,_,_,h=>h
 |(z,k)::r,n,acc,hb,h=>by
  unfold Qf;split
  ·refine qz (λx c e=>?_) λx y c e1 e2=>?_
   ·rw[No] at e
    cases hx:x==z with
    |true=>rw[hx] at e;cases e;exact NR _
    |false=>rw[hx] at e;exact OW (hb x c e)
   ·rw[No] at e1 e2
    cases hx:x==z with
    |true=>
     rw[hx] at e1;cases e1
     cases hy:y==z with
     |true=>rw[(by simpa using hx:x=z),(by simpa using hy:y=z)]
     |false=>rw[hy] at e2;exact absurd (hb y _ e2) (NU _)
    |false=>
     rw[hx] at e1
     cases hy:y==z with
     |true=>rw[hy] at e2;cases e2;exact absurd (hb x _ e1) (NU _)
     |false=>rw[hy] at e2;exact h x y c e1 e2
  ·exact qz hb h
noncomputable def FY(cells:List (Str×P1))(names:List (Str×Qj))(C:P1):List (Str×P1):=Qf (C+1) names (gE cells names [])
theorem wU{cells:List (Str×P1)}{C:P1}{x:Str}(h:(FY cells names C).lookup x=PU c):C+1<=c\/cells.lookup x=PU c:=by
 rcases wS h with h|h
 ·exact .inl h.2
 ·exact .inr (ed (λ_ _ z=>by cases z) x c h)
theorem lz{s:P2}{scope:Qe}{qual:Str}{Q:Env->P2->Prop}(hQ:Q (newEnv scope s.heap.objs.size globals (Qf (s.heap.objs.size+1) scope.names cl) qual PV .none (PU outer) builtinsNs) { s with heap:=pushCells (s.heap.push { cls:=.type "dict",data:=.dict #[] }) scope.names }) :
  P4 M A (newFunctionEnv scope globals cl [] qual PV .none (PU outer)) Q E s:=by
 simp only[newFunctionEnv,Pm,if_true];refine P3 (wpAny_alloc ?_)
 refine P3 (wpAny_layCells _ (λname kind cells=>by cases hkc:kind==NameKind.cell<;>simp[hkc]) _ _ _ _ ?_)
 rw[show({ s with heap:=s.heap.push { cls:=.type "dict",data:=.dict #[] } }:P2).heap.objs.size=s.heap.objs.size+1 from OM ..];rw[List.forIn_nil];exact P3 (P7 (P7 hQ))
noncomputable def aV(X:Cx)(N':List Str)(scope:Qe)(C:P1)(s:P2)(H:Hp)(ex:List P1):Cx where
 prog:=X.prog
 w:=X.w
 K:=X.K
 mg:=X.mg
 base:=X.base
 A:=X.A
 N:=N'
 s₀:=s
 H₀:=H
 env:=compEnvC scope (FY X.env.cells scope.names C) C X.env
 outer:=X.stack
 stack:=X.stack
 ex:=ex
 fn:=λx=>scope.names.lookup x==PU .cell
 calm:=X.calm
 pn:=[]
 xe:=λ_ _=>False
theorem cV{α β:Type}[BEq α][LawfulBEq α]:∀{l:List (α×β)} {x:α} {y:β},l.lookup x=PU y->(x,y)∈l
 |(a,b)::r,x,y,h=>by
  rw[No] at h
  cases e:x==a with
  |true=>
   rw[e] at h;have:x=a:=by simpa using e
   subst this;cases h;exact Nm
  |false=>
   rw[e] at h;exact Ng _ (cV h)
theorem kw{scope:Qe}{x:Str}(h:(relabel scope env).names.lookup x=PU .cell\/(relabel scope env).names.lookup x=PU .free):(x,NameKind.cell)∈scope.names\/(x,NameKind.free)∈scope.names:=by
 have key:∀k,(k=NameKind.cell\/k=NameKind.free)->(x,k)∈(relabel scope env).names->(x,NameKind.cell)∈scope.names\/(x,NameKind.free)∈scope.names:=λk hk hm=>by
  obtain⟨⟨n,k'⟩,hy,e⟩:=NK.mp hm;dsimp only at e;split at e
  ·rename_i q
   have:k'=NameKind.free:=by
    simp only[MX,beq_iff_eq] at q;exact q.1.1
   subst this;cases e;exact .inr hy
  ·cases e;rcases hk with rfl|rfl
   ·exact .inl hy
   ·exact .inr hy
 rcases h with h|h
 ·exact key _ (.inl rfl) (cV h)
 ·exact key _ (.inr rfl) (cV h)
section
variable {X:Cx} {pins:List (P1×Obj)} {σ:St} {H:Hp} {s:P2}
theorem wV(I:Inv X pins σ H s){fp:List P1}{N':List Str}{scope:Qe}{C:P1}(hf:∀b∈fp,kj X pins H b)(hfo:∀b∈fp,b<s.heap.objs.size)(hkind:scope.kind=.function)(hC:s.heap.objs.size<=C)
  (hfree:∀y∈scope.names,y.2=.free->X.env.kindOf y.1=PU .cell\/X.env.kindOf y.1=PU .free):(aV X N' scope C s H fp).Ok where
 mod:=I.ok.mod
 kind:=hkind
 glob:=I.ok.glob
 blt:=I.ok.blt
 above:=hC
 inj:=qz (λx c h=>by
   obtain⟨v,o,g,_⟩:=I.cell x c (ed (λ_ _ z=>by cases z) x c h);exact OW (M6 (M5 g) hC)) λx y c h1 h2=>I.ok.inj x y c (ed (λ_ _ z=>by cases z) x c h1) (ed (λ_ _ z=>by cases z) y c h2)
 has:=λx hx=>by
  rcases kw hx with m|m
  ·exact ng (.inl m)
  ·exact ng (.inr (ku m (I.ok.has x (hfree _ m rfl))))
 cab:=λx c h e=>by
  have h:scope.names.lookup x=PU .cell:=by simpa[aV] using h
  exact Nq hC (OV (qy (.inl (cV h)) (M8 _) c e))
 hd:=I.ok.hd
 frames:=I.ok.frames
 stk:=.inl rfl
 exf:=λb hb=>⟨Ni (M6 (hfo b hb) hC),λx c h=>by
  rcases wU h with h|h
  ·exact N6 (M6 (OW (M6 (hfo b hb) hC)) h)
  ·exact(hf b hb).2.2.2.2.1 x c h⟩
 bs:=I.bs
 bsz:=Nq I.ok.bsz I.sz
 noex:=λb o e hb=>by
  obtain⟨_,_,_,h,_⟩:=hf b hb;rcases h with h|h
  ·exact I.ok.noex b o e h
  ·exact absurd (M6 (M5 e) (Nq I.ok.bsz h)) (NU _)
 exfs:=λb hb hz=>by
  obtain⟨_,h1,h2,_⟩:=hf b hb;rcases M7.mp (I.stkSub b hz) with e|e
  ·exact h1 e
  ·exact h2 e
 funs:=I.stack
 frf:=I.stkFree
noncomputable def dW(σ:St)(cap:List (Option Nat)):St:=cap.map λo=>o.bind λi=>(σ[i]?).join
structure kA(X:Cx)(N':List Str)(scope:Scope)(cap:List (Option Nat)):Prop where
 kind:scope.kind=.function
 cell:∀y∈scope.names,y.2=.cell->scope.names.lookup y.1=PU .cell
 names:∀y∈scope.names,y.2=.local->scope.names.lookup y.1=PU .local
 free:∀y∈scope.names,y.2=.free->X.env.kindOf y.1=PU .cell\/X.env.kindOf y.1=PU .free
 len:cap.length=N'.length
 cap:∀(j i:Nat) (x:Str),N'[j]?=PU x->cap[j]?=PU (PU i)->X.N[i]?=PU x/\scope.names.lookup x=PU .free/\(X.env.kindOf x=PU .cell\/X.env.kindOf x=PU .free)
theorem ii{scope:Qe}{env:Env}{x:Str}:∀{names:List (Str×Qj)},names.lookup x=PU .free->
  (names.map λ(n,k)=>if(k==NameKind.free&&env.scope.kind==.function&&env.kindOf n==PU .cell) then(n,NameKind.cell) else(n,k)).lookup x=PU .cell\/
  (names.map λ(n,k)=>if(k==NameKind.free&&env.scope.kind==.function&&env.kindOf n==PU .cell) then(n,NameKind.cell) else(n,k)).lookup x=PU .free
 |(n,k)::r,h=>by
  have ih:=@ii scope env x r
  show O8 x ((if(k==NameKind.free&&env.scope.kind==.function&&env.kindOf n==PU .cell)=PX then(n,NameKind.cell) else(n,k))::_)=_\/O8 x ((if(k==NameKind.free&&env.scope.kind==.function&&env.kindOf n==PU .cell)=PX then(n,NameKind.cell) else(n,k))::_)=_
  cases hx:x==n with
  |true=>
   simp only[No,hx] at h;cases h;by_cases hc:(NameKind.free==NameKind.free&&env.scope.kind==.function&&env.kindOf n==PU .cell)=PX
   ·rw[if_pos hc];left;simp only[No,hx]
   ·rw[if_neg hc];right;simp only[No,hx]
  |false=>
   simp only[No,hx] at h;by_cases hc:(k==NameKind.free&&env.scope.kind==.function&&env.kindOf n==PU .cell)=PX
   ·rw[if_pos hc];simp only[No,hx];exact ih h
   ·rw[if_neg hc];simp only[No,hx];exact ih h
theorem wX(I:Inv X pins σ H s){fp:List P1}{N':List Str}{scope:Qe}{cap:List (Option Nat)}{C D:P1}{h₁:Qa}{tk n:Nat}{m:Str->Option PZ}(O:kA X N' scope cap)(hf:∀b∈fp,kj X pins H b)(hfo:∀b∈fp,b<s.heap.objs.size)
  (hC:s.heap.objs.size<=C) (hD:s.heap.objs.size<=D) (hDC:D<C) (hcs:∀x c,(Qf (C+1) scope.names []).lookup x=PU c->h₁.IsCell c PV) (hn:h₁.Ns C m) (old:∀b o,s.heap.get? b=PU o->h₁.get? b=PU o)
  (new:h₁.get? D=PU { cls:=.type "list",data:=.seq ([]:List PZ).toArray n }) :
  Inv (aV X N' scope C s H fp) [] (dW σ cap) (upd H D (.lst [])) { s with heap:=h₁,toks:=tk }:=by
 have sub:∀x c,(gE X.env.cells scope.names []).lookup x=PU c->X.env.cells.lookup x=PU c:=ed (λ_ _ z=>by cases z)
 have offc:∀x,scope.names.lookup x=PU .free->(FY X.env.cells scope.names C).lookup x=(gE X.env.cells scope.names []).lookup x:=λx h=>qx λz=>by
  have:=O.cell _ z rfl;rw[h] at this;cases this
 refine⟨wV I hf hfo O.kind hC O.free,rfl,I.bare,Un.laid old hD (I.hok.fresh hD),⟨m,hn,λj x v h1 h2 h3=>?_⟩,λx c e=>?_,?_,λx c e=>?_,λp hp=>absurd hp (by simp[aV]),I.hok.laid old hD ⟨NG _,[],n,.nil,new⟩,?_⟩
 ·have h2':(dW σ cap)[j]?=PU (PU v):=h2;unfold dW at h2';rw[M0] at h2'
  cases hc:cap[j]? with
  |none=>rw[hc] at h2';cases h2'
  |some o=>
   rw[hc] at h2'
   cases o with
   |none=>cases h2'
   |some i=>
    have hv:(σ[i]?).join=PU v:=by simpa using h2'
    have hv2:σ[i]?=PU (PU v):=by
     cases q:σ[i]? with
     |none=>rw[q] at hv;cases hv
     |some z=>rw[q] at hv;have:z=PU v:=hv;rw[this]
    obtain⟨c1,c2,c3⟩:=O.cap j i x h1 hc;obtain⟨mo,hno,hl⟩:=I.loc;have vis:Gv X.env.scope x:=c3.elim (λz=>.inr (.inl z)) λz=>.inr (.inr z);obtain⟨u,ru,l⟩:=hl i x v c1 hv2 vis;refine⟨u,ru,?_⟩;rcases l with⟨k,_⟩|⟨_,c,ec,ic⟩
    ·rcases c3 with z|z
     ·rw[z] at k;cases k
     ·rw[z] at k;cases k
    ·obtain⟨c',ec'⟩:=ku (cells:=X.env.cells) (acc:=[]) (cV c2) ⟨c,ec⟩;have e2:=sub x c' ec';rw[ec] at e2;cases e2;obtain⟨oc,hoc,hdc⟩:=ic;exact .inr ⟨ii (scope:=scope) c2,c,(offc x c2).trans ec',oc,old _ _ hoc,hdc⟩
 ·have e:(FY X.env.cells scope.names C).lookup x=PU c:=e;unfold FY at e;rw[cX,List.lookup_append] at e
  cases q:(Qf (C+1) scope.names []).lookup x with
  |some c'=>
   rw[q] at e;cases e;exact⟨PV,hcs x _ q⟩
  |none=>
   rw[q] at e;obtain⟨v,oc,hoc,hdc⟩:=I.cell x c (sub x c e);exact⟨v,oc,old _ _ hoc,hdc⟩
 ·rw[show(aV X N' scope C s H fp).env.locals=C from rfl,ah (Ne.symm (Ni hDC))];exact I.hok.fresh hC
 ·rcases wU e with e'|e'
  ·rw[ah (N6 (Oq hDC e'))];exact I.hok.fresh (Nq hC (OV e'))
  ·obtain⟨v,oc,hoc,hdc⟩:=I.cell x c e';rw[ah (Ni (M6 (M5 hoc) hD))];exact I.freeC x c e'
 ·show(dW σ cap).length=N'.length;unfold dW;rw[MY,O.len]
theorem oU(I:Inv X pins σ H s){fp:List P1}{N':List Str}{scope:Qe}{C:P1}{σ':St}{H':Hp}{s':P2}{h':Qa}(hf:∀b∈fp,kj X pins H b)(J:Inv (aV X N' scope C s H fp) [] σ' H' s')(hsb:Heap.SameBut C s'.heap h') :
  Inv X pins σ H' { s' with heap:=h' }:=by
 have hC:s.heap.objs.size<=C:=J.ok.above;have neC:∀b o,s.heap.get? b=PU o->b≠C:=λb o e=>Ni (M6 (M5 e) hC);have U:Un (gB X.stack) fp H H' s.heap s'.heap:=J.base;refine I.call' (s':={ s' with heap:=h' }) (ch:=fp) (J.os) ⟨λb o e n h1 h2=>?_,λb o e n h1 h2=>?_,U.free,λb o e h2=>?_,U.tups,U.frzs,U.tbls⟩ (λb o e=>?_) J.bare λb hb=>?_
 ·exact(hsb.2 b (neC b o e)).trans (U.keep b o e n h1 h2)
 ·obtain⟨sl,q⟩:=U.slot b o e n h1 h2;exact⟨sl,(hsb.2 b (neC b o e)).trans q⟩
 ·obtain⟨o',q⟩:=U.there b o e h2;exact⟨o',(hsb.2 b (neC b o e)).trans q⟩
 ·have fr:H' C=PV:=J.free;refine(J.hok b o e).stay (λc v hc q=>(hsb.2 c ?_).trans q) (λ_ q=>q) λ_ _ q=>q
  rintro rfl
  rcases hc with rfl|hc
  ·rw[fr] at e;cases e
  ·rw[fr] at hc;cases hc
 ·obtain⟨h0,h1,h2,h3,h4,h5⟩:=hf b hb;exact⟨h3,h1,h4,h5⟩
theorem nh{R:Result->P2->Prop}{s:P2}(I:Nat->P2->Prop)(turn:∀n s,I n s->P4 (P5 prog w) A (pyNext it) (λr s₁=>match r with
   |none=>R (.ok .next) s₁
   |some v=>P4 (P5 prog w) A (letOwnedTupleGo target it v) (λ_ s₁'=>P4 (P5 prog w) A (assign target env v) (λ_ s₂=>
     P4 (P5 prog w) A (forIn ifs PX λc r=>if r=PX then do let ok <- isTrue c env (eval c env);pure (ForInStep.yield ok) else pure (ForInStep.yield r)) (λok s₃=>
      if ok=PX then P4 (P5 prog w) A (eval elt env) (λx s₄=>
       P4 (P5 prog w) A (call (.builtin "list.append") [acc,x]) (λ_ s₅=>∃m,m<n/\I m s₅) (λ_ _=>False) s₄) (λ_ _=>False) s₃
      else ∃m,m<n/\I m s₃) (λ_ _=>False) s₂) (λ_ _=>False) s₁') (λ_ _=>False) s₁) (λ_ _=>False) s)(n:Nat)(h:I n s) :
  codeAny (P5 prog w) A (.compLoop (.ListComp elt [⟨target,iter,ifs,0⟩] scope pos) 0 it acc env) R s:=by
 refine codeAny_loop rfl I (λn s hI=>?_) n h;show P4 _ A ((compTurn (.ListComp elt [⟨target,iter,ifs,0⟩] scope pos) 0 it acc env).onRaise (λx=>do noteFrame x env;theTreesLotGoes x)) _ _ s;refine wpAny_noted ?_;rw[compTurn_list];refine P3 (wpAny_standAt (P3 (wpAny_mono (turn n s hI) (λr s₁ h₁=>?_) λ_ _ h'=>h'.elim)))
 cases r with
 |none=>exact P7 h₁
 |some v=>
  refine P3 (wpAny_mono h₁ (λ_ s₁' h₁'=>?_) λ_ _ h'=>h'.elim);refine P3 (wpAny_mono h₁' (λ_ s₂ h₂=>P3 (wpAny_mono h₂ (λok s₃ h₃=>?_) λ_ _ h'=>h'.elim)) λ_ _ h'=>h'.elim)
  cases ok with
  |false=>exact P7 ⟨rfl,h₃⟩
  |true=>
   exact P3 (P3 (wpAny_mono h₃ (λx s₄ h₄=>P3 (wpAny_mono h₄ (λ_ s₅ h₅=>P7 (P7 ⟨rfl,h₅⟩)) λ_ _ h'=>h'.elim)) λ_ _ h'=>h'.elim))
end
end L2
namespace L2
open PySem PySem.Spec PyProof.Rows
section
variable {X:Cx} {pins:List (P1×Obj)} {σ:List (Option V)} {H:Hp} {s:P2} {h':Qa}
theorem Inv.junk(I:Inv X pins σ H s)(hs:Heap.SameBut C s.heap h')(h0:X.s₀.heap.objs.size<=C)(hL:X.env.locals≠C)(hc:∀x c,X.env.cells.lookup x=PU c->c≠C)(hp:∀p∈X.pn++pins,p.1≠C)(hH:H C=PV):Inv X pins σ H { s with heap:=h' }:=by
 have ne:∀b o,X.s₀.heap.get? b=PU o->b≠C:=λb o e=>Ni (M6 (M5 e) h0);obtain⟨m,hn,hl⟩:=id I.loc;refine⟨I.ok,I.os,I.bare,⟨λb o e n hb hx=>?_,λb o e n hb hx=>?_,I.base.free,λb o e hx=>?_,I.base.tups,I.base.frzs,I.base.tbls⟩,⟨m,hn.sameBut hs hL,λj y v' e1 e2 e3=>?_⟩,λy c e=>?_,I.free,I.freeC,λp hpp=>?_,λb ob e=>?_,I.len⟩
 ·exact(hs.2 b (ne b o e)).trans (I.base.keep b o e n hb hx)
 ·obtain⟨sl,e1⟩:=I.base.slot b o e n hb hx;exact⟨sl,(hs.2 b (ne b o e)).trans e1⟩
 ·obtain⟨o',e1⟩:=I.base.there b o e hx;exact⟨o',(hs.2 b (ne b o e)).trans e1⟩
 ·obtain⟨u',r',q⟩:=hl j y v' e1 e2 e3;refine⟨u',r',?_⟩;rcases q with⟨k,e⟩|⟨k,c,e,z⟩
  ·exact .inl ⟨k,e⟩
  ·refine .inr ⟨k,c,e,?_⟩;obtain⟨o,g,d⟩:=z;exact⟨o,(hs.2 c (hc y c e)).trans g,d⟩
 ·obtain⟨v,o,g,d⟩:=I.cell y c e;exact⟨v,o,(hs.2 c (hc y c e)).trans g,d⟩
 ·obtain⟨g,r⟩:=I.pin p hpp;exact⟨(hs.2 _ (hp p hpp)).trans g,r⟩
 ·refine(I.hok b ob e).stay (λc w' hcc q=>(hs.2 c ?_).trans q) (λ_ q=>q) λ_ _ q=>q
  rintro rfl
  rcases hcc with rfl|hcc
  ·rw[hH] at e;cases e
  ·rw[hH] at hcc;cases hcc
noncomputable def Kg(te tst:TE):TE:=λσ H Q=>te σ H λx H1=>tst σ H1 λy H2=>∃a xs,x=.ref a/\y=.int (-1)/\SqL X.K H2 a xs/\∀p,H2 p=PV->Q (.ref p) (upd H2 p (.lst xs.reverse))
theorem DC{e st:P0}{te tst:TE}{p2 pos:Pos}(he:PE X e te)(hst:PE X st tst):PE X (.Subscript e (.Slice PV PV (PU st) p2) pos) (Kg (X:=X) te tst):=by
 intro pins s σ H Q I h;refine Subscript_ (bx (he pins s σ H _ I h) λv s1 ⟨x,H1,I1,r1,q1⟩=>?_);refine wpAny_Slice ?_;rw[evalPart_none];refine P7 (P7 ?_);refine bx (hst pins s1 σ H1 _ I1 q1) λvst s3 ⟨y,H3,I3,r3,q3⟩=>?_;obtain⟨a,xs,rfl,rfl,hx,q⟩:=q3;obtain⟨t,rfl⟩:=r3;cases r1;have I4:Inv X pins σ H3 { s3 with heap:=s3.heap.push { cls:=.type "slice",data:=.fields #[.none,.none,.int (-1) t] } }:=I3.kept (t':=s3.toks) λb ob q=>Nb _ q;obtain⟨its,r,ht,hz⟩:=I4.list hx;show P4 (P5 X.prog X.w) X.A (subscriptTail e (.Slice PV PV (PU st) p2) (.ref a) (.ref s3.heap.objs.size)) (EP X pins σ Q) X.xe { s3 with heap:=s3.heap.push { cls:=.type "slice",data:=.fields #[.none,.none,.int (-1) t] } };refine tail_any (ops:=[.ref a,.ref s3.heap.objs.size]) ht.isList.typeIs slot_list_getitem.lookup ?_ (by with_unfolding_all rfl);refine wpAny_getItem_list_slice ht.isList (Heap.IsSliceOf.new ..) .none .none (.int _ _) (by simp) ?_ (by rw[Nc,<- r.length];exact hz);rw[PySem.W.krv_pick];refine⟨.ref _,_,I4.laid (t':=s3.toks) (o:=.lst xs.reverse) (λb ob q=>Nb _ q) (M8 _) ?_,rfl,q _ (I4.hok.fresh (M8 _))⟩;exact⟨by rw[List.length_reverse];exact hz,_,0,r.reverse,Nt _ rfl⟩
noncomputable def Kh(K:MW)(n:Nat)(t:wv):TG:=λv σ H Q=>∃a xs,v=.ref a/\SqL K H a xs/\xs.length=n/\t xs σ H Q
theorem DD{k:Nat}{n:Nat}(hc:X.calm=PX)(h:C6 X es t)(hn:(Qi es X.env).length=n)(hst:(Qi es X.env).findIdx? (·.1)=PV):PG X (.Tuple es k pos) (Kh X.K n t):=by
 intro pins s σ H v u Q I r hw;obtain⟨a,xs,e1,hq,hl,hw⟩:=hw;subst e1;cases r;obtain⟨its,rv,ht,hz⟩:=I.list hq;rw[assign_Tuple];refine P3 (wpAny_standAt ?_);unfold unpack;rw[hst,show(Qi es X.env).length=its.toArray.size by rw[hn,<- hl,rv.length,Nc]];refine P3 (Qn (PySem.W.kun_itemsOf (I.ok.hd hc) ht.isList λh' hx=>?_));have I1:Inv X pins σ H { s with heap:=h' }:=I.kept (t':=s.toks) λb o e=>hx b o (Ni (M5 e)) e;exact h pins _ σ H xs _ Q I1 (by simpa using rv) hw
end
end L2
namespace G
open PySem PySem.Spec PyProof.Rows L2
inductive D where
 |non|bl (b:Bool)|int (i:Int)|str (x:Str)|lst (xs:List D)|tup (xs:List D)|scr (ns:List Int)|dic (ks:List aS) (vs:List D)
noncomputable def GY(K:MW)(a:P1)(xs:List V):Prop:=
 ∃(o:Obj) (its:Array PZ) (n:Nat),K.lookup a=PU o/\o.cls=.type "list"/\o.dict=PV/\o.data=.seq its n/\its.size<=sizeLine/\Vals xs its.toList
mutual
noncomputable def Rp(K:MW)(H:Hp)(S:List P1):D->V->Prop
 |.non,v=>v=.non
 |.bl b,v=>v=.bl b
 |.int i,v=>v=.int i
 |.str x,v=>v=.str x
 |.lst ds,v=>∃a xs,v=.ref a/\a∉S/\H a=PU (.lst xs)/\RpL K H S ds xs
 |.tup ds,v=>∃a xs,v=.ref a/\a∉S/\H a=PU (.tup xs)/\RpL K H S ds xs
 |.scr ns,v=>∃a,v=.ref a/\((a∉S/\Rd H a (.lst (ns.map V.int)))\/GY K a (ns.map V.int))
 |.dic ks vs,v=>∃a kvs,v=.ref a/\a∉S/\H a=PU (.dK kvs)/\kvs.map (·.1)=ks/\RpL K H S vs (kvs.map (·.2))
noncomputable def RpL(K:MW)(H:Hp)(S:List P1):List D->List V->Prop
 |[],xs=>xs=[]
 |d::ds,xs=>∃y ys,xs=y::ys/\Rp K H S d y/\RpL K H S ds ys
end
section
variable {K:MW} {H H':Hp} {S S':List P1}
end
inductive Kd where
 |sh|fr|bo
 deriving DecidableEq
noncomputable def VR(K:MW)(H0 H:Hp)(S:List P1):Kd->D->V->Prop
 |.sh,d,v=>Rp K H S d v
 |.fr,.lst ds,v=>∃a xs,v=.ref a/\H0 a=PV/\H a=PU (.lst xs)/\RpL K H (a::S) ds xs
 |.bo,.lst ds,v=>∃a xs,v=.ref a/\H a=PU (.lst xs)/\RpL K H S ds xs
 |_,_,_=>False
section
variable {K:MW} {H0 H H':Hp} {S:List P1}
end
end G
namespace G
open PySem PySem.Spec PyProof.Rows L2
section
variable {X:Cx}
section
variable {pins:List (P1×Obj)} {s:P2} {σ:L2.St} {H:Hp}
end
end
noncomputable def Jt(K:MW)(a:P1):It:=
 ⟨λi H=>∃xs x,SqL K H a xs/\xs[i]?=PU x,λi H x H'=>∃p v,H p=PV/\H'=upd H p (.tup [.int i,v])/\x=.ref p/\∀xs,SqL K H a xs->xs[i]?=PU v,λi H=>∃xs,SqL K H a xs/\xs.length<=i⟩
theorem uQ{P:P6}{w:P8}{K:MW}{es:List P0}{kk:Nat}{tp:Pos}(a e it:P1)(hne:e≠it):ql P w K (.Tuple es kk tp) (Jt K a) [e,it] e (λi h=>(∃old,IsEnum h e it ((i:Nat):Int) old)/\h.IsListIter it a i) where
 mem:=by simp
 obj:=λi h st b hb=>by
  obtain⟨⟨old,h1⟩,o,h2,h3,h4⟩:=st;rcases M7.mp hb with rfl|hb
  ·exact⟨_,h1,λv z=>by
    have z':Data.fields _=Data.cell v:=z;cases z'⟩
  ·have:b=it:=by simpa using hb
   subst this;exact⟨o,h2,λv z=>by rw[h4] at z;cases z⟩
 keep:=λi h h' st k=>by
  obtain⟨⟨old,h1⟩,h2⟩:=st;exact⟨⟨old,k e (by simp) _ h1⟩,h2.at λo q=>k it (by simp) o q⟩
 item:=by
  intro X hP hw hK hc i pins s σ H E I hf st hg;subst hP hw hK;obtain⟨⟨old,he⟩,hit⟩:=st;obtain⟨xs,x,hq,hx⟩:=hg;obtain⟨its,rv,p,hz⟩:=I.list hq;obtain⟨u,hu,ru⟩:=rv.get hx;obtain⟨f0,f1,f2,f3,f4,f5⟩:=hf e (by simp);obtain⟨g0,g1,g2,g3,g4,g5⟩:=hf it (by simp);have hes:=M5 he;refine wpAny_pyNext_enum_item he hit p.isList (x:=u) (by simpa using hu) hne λh1 ho hit1 ht hs1 kk1=>?_;refine⟨_,rfl,wpAny_letOwnedTupleGo_enum ho λh2 he2 sb2=>?_⟩;have sb2':Heap.SameBut e h1 h2:=sb2;have step1:∀b o,b≠e->b≠it->s.heap.get? b=PU o->h2.get? b=PU o:=λb o n1 n2 q=>(sb2'.2 b n1).trans (kk1 b o n1 n2 q);have fr:=I.hok.fresh (M8 s.heap.objs.size);have htup:h2.get? s.heap.objs.size=PU { cls:=.type "tuple",data:=.seq #[.int i s.toks,u] }:=(sb2'.2 _ (N6 hes)).trans ht
  have I1:Inv X pins σ (upd H s.heap.objs.size (.tup [.int i,x])) { s with heap:=h2,toks:=s.toks+1 }:=by
   have nit:∀b o,H b=PU o->b≠e/\b≠it:=λb o q=>⟨(λz=>by rw[z,f0] at q;cases q),(λz=>by rw[z,g0] at q;cases q)⟩
   have hok':HOk X.prog X.w (upd H s.heap.objs.size (.tup [.int i,x])) h2:=λb o q=>by
    by_cases hb:b=s.heap.objs.size
    ·subst hb;rw[am] at q;cases q;exact⟨(by show 2<=sizeLine;decide),[.int i s.toks,u],.cons ⟨_,rfl⟩ (.cons ru .nil),_,htup,rfl,_,rfl⟩
    ·rw[ah hb] at q;refine(I.hok b o q).stay (λc v hc' q'=>step1 c v ?_ ?_ q') (λc q'=>by rw[ah (av q' fr)];exact q') λc ys q'=>by rw[ah (av q' fr)];exact q'
     ·rcases hc' with rfl|hc'
      ·exact(nit _ _ q).1
      ·exact(nit _ _ hc').1
     ·rcases hc' with rfl|hc'
      ·exact(nit _ _ q).2
      ·exact(nit _ _ hc').2
   refine I.step (g':=s.gens) (d':=s.drawn) (t':=s.toks+1) (ch:=[e,it]) (λb hb=>?_) (λb o _ _ hcx q _=>step1 b o (λz=>hcx (by simp[z])) (λz=>hcx (by simp[z])) q)
    (λb o _ _ hcx q _=>⟨o.slots,step1 b o (λz=>hcx (by simp[z])) (λz=>hcx (by simp[z])) q⟩) (λb o hcx q n=>by rw[ah (Ni (M5 q))];exact n)
    (λb o hcx q=>⟨o,step1 b o (λz=>hcx (by simp[z])) (λz=>hcx (by simp[z])) q⟩) (λb ys q=>by rw[ah (av q fr)];exact q) (λb o z q=>by rw[ah (av q fr)];exact q)
    (λb ps q=>⟨#[],by rw[ah (av q fr),q];simp⟩) (λm hm=>?_) hok' I.bare
   ·rcases M7.mp hb with rfl|hb
    ·exact⟨f3,f1,f4,f5⟩
    ·have:b=it:=by simpa using hb
     subst this;exact⟨g3,g1,g4,g5⟩
   ·obtain⟨o,es',ep,ho',r'⟩:=hm;exact⟨o,es',ep,step1 _ o (Ne.symm f1) (Ne.symm g1) ho',r'⟩
  refine⟨.ref s.heap.objs.size,_,I1,rfl,⟨s.heap.objs.size,x,fr,rfl,rfl,λys hy=>by rw[I.list_inj hy hq];exact hx⟩,⟨⟨u,by
    have:(((i+1:Nat):Int))=(i:Int)+1:=by lia
    rw[this];exact he2⟩,hit1.extBut sb2'.extBut (Ne.symm hne)⟩,λb hb=>?_⟩
  have hb0:=(hf b hb).1
  have hlt:b<s.heap.objs.size:=by
   rcases M7.mp hb with rfl|hb
   ·exact hes
   ·have:b=it:=by simpa using hb
    subst this;obtain⟨o,q,_⟩:=hit;exact M5 q
  rw[ah (Ni hlt)];exact hb0
 done:=by
  intro X hP hw hK hc i pins s σ H E I hf st hg;subst hP hw hK;obtain⟨⟨old,he⟩,hit⟩:=st;obtain⟨xs,hq,hx⟩:=hg;obtain⟨its,rv,p,hz⟩:=I.list hq;obtain⟨f0,f1,f2,f3,f4,f5⟩:=hf it (by simp);have hl:=rv.length;exact wpAny_pyNext_enum_end (I.ok.hd hc) he hit p.isList (by simp;lia) λh' eb=>⟨rfl,I.turned (t':=s.toks) (λb o hb q=>eb b o hb q) f0 f1 f3 f4 f5⟩
 self:=λ_ _ _ _ _ st h=>let ⟨_,q⟩:=st.1;wpAny_pyIter_enum q h
section
variable {X:Cx}
noncomputable def GZ(K:MW)(ta:TA):TI:=λσ H R=>ta σ H λvs H1=>∃a,vs=[.ref a]/\(∃xs,SqL K H1 a xs)/\R (Jt K a) H1
theorem zK{a:P0}{kk:Nat}(hg:Gl X "enumerate")(hm:X.mg "enumerate" = PV)(ha:PA X [a] ta)(hs:Qb [a] X.env=[(PY,eval a X.env)]) :
  PI X (.Tuple es kk tp) (.Call (.Name "enumerate" p) [a] [] pos) (GZ X.K ta):=by
 intro pins s σ H R I h;refine Call_ (fy I hg hm boot_enumerate (PyProof.Rows.callWith_type1 (bx (ha pos pins s σ H _ I h) λus s1 ⟨vs,H1,I1,r1,q1⟩=>?_) hs rfl));obtain⟨l,e,⟨xs,hq⟩,q⟩:=q1;subst e;obtain⟨u,rfl,rx⟩:=lL r1;cases rx;obtain⟨its,rv,pl,hz⟩:=I1.list hq;refine call_enumerate_list pl.isList λh' he hit hsz hk=>?_;refine wpAny_pyIter_enum (s:={ s1 with heap:=h' }) he ?_;have I2:Inv X pins σ H1 { s1 with heap:=h' }:=I1.kept (t':=s1.toks) hk;refine⟨s1.heap.objs.size+1,[s1.heap.objs.size+1,s1.heap.objs.size],_,_,H1,rfl,I2,uQ l _ _ (N6 (NR _)),⟨⟨_,he⟩,hit⟩,λb hb=>?_,q⟩
 have hb':s1.heap.objs.size<=b:=by
  rcases M7.mp hb with rfl|hb
  ·exact Oy _
  ·have:b=s1.heap.objs.size:=by simpa using hb
   rw[this];exact M8 _
 exact I1.fpOk hb' (I1.hok.fresh hb')
end
end G
namespace G
open PySem PySem.Spec PyProof.Rows L2
open AutoSeq1 (wpAny_loadPart')
section
variable {prog:P6} {w:P8} {A:Qc} {E:PZ->P2->Prop} {s:P2}
theorem wY{i:Nat}{items:Array PZ}{Q:PZ->P2->Prop}(hh:A.handled=PV)(hit:s.heap.IsTupleIter it t i)(ht:s.heap.IsTuple t items)(yes:∀x h',items[i]?=PU x->h'.IsTupleIter it t (i+1)->Heap.SameBut it s.heap h'->Q x { s with heap:=h' })(no:∀h' e,items[i]?=PV->Heap.ExtBut it s.heap h'->(∃o,h'.get? e=PU o/\o.cls=.type "StopIteration")->E (.ref e) { s with heap:=h' }):P4 (P5 prog w) A (Builtin.SmallTypes.nextOf (.ref it)) Q E s:=by
 have ty:=hit.typeIs;rcases hit with⟨o,ho,hc,hd⟩;rcases ht with⟨ot,hot,_,nt,hdt⟩;have here:¬((Value.ref t==Value.none)=PX):=NQ;have sl:=F.slot_tuple_iterator_next;unfold Builtin.SmallTypes.nextOf;refine P3 (wpAny_callSpecial?_slot (name:=Str.ofString "__next__") ty sl (Qq sl ty F.entry_tuple_iterator_next (show P4 _ _ (field (.ref it) 0 >>= _) _ _ s from P3 (wpAny_field ho hd (x:=.ref t) rfl ?_)) (F.args_tuple_iterator_next_1 _)))
 show P4 _ _ (if(Value.ref t==Value.none)=PX then _ else _) _ _ s
 rw[if_neg here];refine P3 (m:=field (.ref it) 1) (wpAny_field ho hd (x:=.int i 0) rfl (P3 (m:=seqItems? (.ref t)) (wpAny_seqItems hot hdt ?_)))
 cases e:items[i]? with
 |some x=>
  simp only[NJ,e];exact P3 (wpAny_setField ho hd (by simp) (P7 ⟨x,rfl,P7 (yes x _ e ⟨_,Pc _ ho (Obj.isFreed_of_fields (Obj.data_mapFields hd _)),(Obj.cls_mapFields ..).trans hc,by rw[Obj.data_mapFields hd];simp[Qr]⟩ (Heap.SameBut.update ..))⟩))
 |none=>
  simp only[NJ,e];refine P3 (wpAny_rule (P3 (wpAny_setField ho hd (by simp) (P3 (m:=newExc (.type "StopIteration") []) ?_))));simp only[newExc,newTuple]
  refine P3 (Qp (P3 (m:=firstArgMember _ _) (wpAny_of_eq (a:=Value.none) (by first|rfl|(simp only[firstArgMember];rfl)) (Qp ?_ (by size_fits)))) (by size_fits))
  simp only[raiseNew];refine P3 (wpAny_handled ?_)
  first|rw[show A.in1.handled=PV from hh]|rw[hh]
  exact P3 (P7 (wpAny_throw (no _ _ e (((Heap.SameBut.update ..).extBut.push _).push _) ⟨_,Nt _ rfl,rfl⟩)))
theorem DE(hh:A.handled=PV)(it t:P1)(hne:t≠it)(items:Array PZ):Draws prog w A it [it,t] items.size (λi v=>items[i]?=PU v) (λi h=>h.IsTupleIter it t i/\h.IsTuple t items) where
 live:=λ_ _ st=>let ⟨o,ho,_⟩:=st.1;⟨o,ho⟩
 frame:=λ_ _ _ st hk=>⟨st.1.at λo e=>hk it (by simp) o e,let ⟨o,ho,r⟩:=st.2;⟨o,hk t (by simp) o ho,r⟩⟩
 item:=λi s Q E hi st hQ=>wY hh st.1 st.2 (λx h' e q b=>hQ x h' s.toks e ⟨q,st.2.extBut b.extBut hne⟩ b) λ_ _ e=>by simp[hi] at e
 done:=λs Q E st hE=>wY hh st.1 st.2 (λx h' e=>by simp at e) λh' e _=>hE h' e
theorem uR(l:P1)(items:Array PZ)(n:Nat)(dct:Option P1)(sl:Array (Option PZ)) :
  Meets (Builtin.«enumerate.__new__» ⟨[.type "enumerate",.ref l],[]⟩) (λ_ R s=>s.heap.get? l=PU { cls:=.type "tuple",dict:=dct,data:=.seq items n,slots:=sl }/\
   R (.ok (.ret (.ref (s.heap.push { cls:=.type "tuple_iterator",data:=.fields #[.ref l,.int 0 0] }).objs.size)))
    { s with heap:=(s.heap.push { cls:=.type "tuple_iterator",data:=.fields #[.ref l,.int 0 0] }).push { cls:=.type "enumerate",data:=.fields #[.none,.bool PY,.ref s.heap.objs.size,Qr 0,.none,.none] } }):=
 .of_wp λprog w A R s h=>by
  obtain⟨hp,g,d,tk,os⟩:=s;obtain⟨hl,h⟩:=h;have hsub:=sub_enumerate;have hL:Heap.IsTuple (Shared.heap ⟨hp,g,d,tk,os⟩) l items:=⟨_,hl,rfl,n,rfl⟩
  wp_walk using wpAny_loadPart' hl
  refine wpAny_stack_any λst=>P7 ?_;split
  ·rename_i c _ _ _ _ _
   cases(c==Value.type "enumerate") <;>
   ·wp_walk using wpAny_loadPart' hl,wpAny_pyIter_tuple hL
    exact⟨_,rfl,h⟩
  ·wp_walk using wpAny_loadPart' hl,wpAny_pyIter_tuple hL
   exact⟨_,rfl,h⟩
theorem qA{Q:PZ->P2->Prop}(hL:s.heap.IsTuple l items)(h:∀h',IsEnum h' (s.heap.objs.size+1) s.heap.objs.size 0 .none->h'.IsTupleIter s.heap.objs.size l 0->(∀b o,s.heap.get? b=PU o->h'.get? b=PU o)->Q (.ref (s.heap.objs.size+1)) { s with heap:=h' }) :
  P4 (P5 prog w) A (call (.type "enumerate") [.ref l]) Q E s:=by
 obtain⟨⟨c,dct,dt,sl⟩,hl,hc,n,hd⟩:=hL;replace hc:c=.type "tuple":=hc;replace hd:dt=.seq items n:=hd;subst hc hd;refine callType_new F.called_enumerate (by decide) (F.typeCall_enumerate_1 _) (F.newCall_enumerate_1 _) (λobj=>F.args_object_init_2 obj _) F.entry_enumerate_new (uR l items n dct sl) ⟨hl,?_⟩;have hz:(s.heap.push { cls:=.type "tuple_iterator",data:=.fields #[.ref l,.int 0 0] }).objs.size=s.heap.objs.size+1:=OM ..;show _/\_;rw[hz]
 have he:IsEnum ((s.heap.push { cls:=.type "tuple_iterator",data:=.fields #[.ref l,.int 0 0] }).push { cls:=.type "enumerate",data:=.fields #[.none,.bool PY,.ref s.heap.objs.size,Qr 0,.none,.none] }) (s.heap.objs.size+1) s.heap.objs.size 0 .none:=by
  have:=Nt (s.heap.push { cls:=.type "tuple_iterator",data:=.fields #[.ref l,.int 0 0] }) (o:={ cls:=.type "enumerate",data:=.fields #[.none,.bool PY,.ref s.heap.objs.size,Qr 0,.none,.none] }) rfl;rw[hz] at this;exact this
 exact⟨⟨_,he,rfl⟩,h _ he ⟨_,Nb _ (Nt _ rfl),rfl,rfl⟩ λb o x=>Nb _ (Nb _ x)⟩
end
noncomputable def Ki(K:MW)(a:P1):It:=
 ⟨λi H=>∃xs x,SqT K H a xs/\xs[i]?=PU x,λi H x H'=>∃p v,H p=PV/\H'=upd H p (.tup [.int i,v])/\x=.ref p/\∀xs,SqT K H a xs->xs[i]?=PU v,λi H=>∃xs,SqT K H a xs/\xs.length<=i⟩
theorem qB{P:P6}{w:P8}{K:MW}{es:List P0}{kk:Nat}{tp:Pos}(a e it:P1)(hne:e≠it):ql P w K (.Tuple es kk tp) (Ki K a) [e,it] e (λi h=>(∃old,IsEnum h e it ((i:Nat):Int) old)/\h.IsTupleIter it a i) where
 mem:=by simp
 obj:=λi h st b hb=>by
  obtain⟨⟨old,h1⟩,o,h2,h3,h4⟩:=st;rcases M7.mp hb with rfl|hb
  ·exact⟨_,h1,λv z=>by
    have z':Data.fields _=Data.cell v:=z;cases z'⟩
  ·have:b=it:=by simpa using hb
   subst this;exact⟨o,h2,λv z=>by rw[h4] at z;cases z⟩
 keep:=λi h h' st k=>by
  obtain⟨⟨old,h1⟩,h2⟩:=st;exact⟨⟨old,k e (by simp) _ h1⟩,h2.at λo q=>k it (by simp) o q⟩
 item:=by
  intro X hP hw hK hc i pins s σ H E I hf st hg;subst hP hw hK;obtain⟨⟨old,he⟩,hit⟩:=st;obtain⟨xs,x,hq,hx⟩:=hg;obtain⟨its,rv,p,hz⟩:=I.tuple hq;have p:s.heap.IsTuple a its.toArray:=p;obtain⟨u,hu,ru⟩:=rv.get hx;obtain⟨f0,f1,f2,f3,f4,f5⟩:=hf e (by simp);obtain⟨g0,g1,g2,g3,g4,g5⟩:=hf it (by simp);have hes:=M5 he
  have hai:a≠it:=λz=>by
   subst z;obtain⟨o1,e1,c1,_⟩:=p;obtain⟨o2,e2,c2,_⟩:=hit;rw[e1] at e2;cases e2;rw[c1] at c2;exact absurd c2 (by decide)
  have hea:e≠a:=λz=>by
   subst z;obtain⟨o1,e1,c1,_⟩:=p;have he':s.heap.get? e=PU _:=he;rw[e1] at he';cases he';exact absurd (show Value.type "enumerate" = Value.type "tuple" from c1) (by decide)
  have hlt:i<its.toArray.size:=by
   have:=(MZ.mp hu).1;simpa using this
  refine wpAny_pyNext_enum_itemD (DE (A:=X.A.in1) (I.ok.hd hc) it a hai its.toArray) he ⟨hit,p⟩ hlt hne (by simp[hne,hea]) λx' h1 tk hP ho hit1 ht hs1 kk1=>?_
  obtain rfl:u=x':=by
   have hu':its.toArray[i]?=PU u:=by simpa using hu
   have hP':its.toArray[i]?=PU x':=hP;rw[hu'] at hP';cases hP';rfl
  refine⟨_,rfl,wpAny_letOwnedTupleGo_enum ho λh2 he2 sb2=>?_⟩;have sb2':Heap.SameBut e h1 h2:=sb2;have step1:∀b o,b≠e->b≠it->s.heap.get? b=PU o->h2.get? b=PU o:=λb o n1 n2 q=>(sb2'.2 b n1).trans (kk1 b o n1 n2 q);have fr:=I.hok.fresh (M8 s.heap.objs.size);have htup:h2.get? s.heap.objs.size=PU { cls:=.type "tuple",data:=.seq #[.int i tk,u] }:=(sb2'.2 _ (N6 hes)).trans ht
  have I1:Inv X pins σ (upd H s.heap.objs.size (.tup [.int i,x])) { s with heap:=h2,toks:=tk+1 }:=by
   have nit:∀b o,H b=PU o->b≠e/\b≠it:=λb o q=>⟨(λz=>by rw[z,f0] at q;cases q),(λz=>by rw[z,g0] at q;cases q)⟩
   have hok':HOk X.prog X.w (upd H s.heap.objs.size (.tup [.int i,x])) h2:=λb o q=>by
    by_cases hb:b=s.heap.objs.size
    ·subst hb;rw[am] at q;cases q;exact⟨(by show 2<=sizeLine;decide),[.int i tk,u],.cons ⟨_,rfl⟩ (.cons ru .nil),_,htup,rfl,_,rfl⟩
    ·rw[ah hb] at q;refine(I.hok b o q).stay (λc v hc' q'=>step1 c v ?_ ?_ q') (λc q'=>by rw[ah (av q' fr)];exact q') λc ys q'=>by rw[ah (av q' fr)];exact q'
     ·rcases hc' with rfl|hc'
      ·exact(nit _ _ q).1
      ·exact(nit _ _ hc').1
     ·rcases hc' with rfl|hc'
      ·exact(nit _ _ q).2
      ·exact(nit _ _ hc').2
   refine I.step (g':=s.gens) (d':=s.drawn) (t':=tk+1) (ch:=[e,it]) (λb hb=>?_) (λb o _ _ hcx q _=>step1 b o (λz=>hcx (by simp[z])) (λz=>hcx (by simp[z])) q)
    (λb o _ _ hcx q _=>⟨o.slots,step1 b o (λz=>hcx (by simp[z])) (λz=>hcx (by simp[z])) q⟩) (λb o hcx q n=>by rw[ah (Ni (M5 q))];exact n)
    (λb o hcx q=>⟨o,step1 b o (λz=>hcx (by simp[z])) (λz=>hcx (by simp[z])) q⟩) (λb ys q=>by rw[ah (av q fr)];exact q) (λb o z q=>by rw[ah (av q fr)];exact q)
    (λb ps q=>⟨#[],by rw[ah (av q fr),q];simp⟩) (λm hm=>?_) hok' I.bare
   ·rcases M7.mp hb with rfl|hb
    ·exact⟨f3,f1,f4,f5⟩
    ·have:b=it:=by simpa using hb
     subst this;exact⟨g3,g1,g4,g5⟩
   ·obtain⟨o,es',ep,ho',r'⟩:=hm;exact⟨o,es',ep,step1 _ o (Ne.symm f1) (Ne.symm g1) ho',r'⟩
  refine⟨.ref s.heap.objs.size,_,I1,rfl,⟨s.heap.objs.size,x,fr,rfl,rfl,λys hy=>by rw[I.tuple_inj hy hq];exact hx⟩,⟨⟨u,by
    have:(((i+1:Nat):Int))=(i:Int)+1:=by lia
    rw[this];exact he2⟩,hit1.1.extBut sb2'.extBut (Ne.symm hne)⟩,λb hb=>?_⟩
  have hb0:=(hf b hb).1
  have hlt:b<s.heap.objs.size:=by
   rcases M7.mp hb with rfl|hb
   ·exact hes
   ·have:b=it:=by simpa using hb
    subst this;obtain⟨o,q,_⟩:=hit;exact M5 q
  rw[ah (Ni hlt)];exact hb0
 done:=by
  intro X hP hw hK hc i pins s σ H E I hf st hg;subst hP hw hK;obtain⟨⟨old,he⟩,hit⟩:=st;obtain⟨xs,hq,hx⟩:=hg;obtain⟨its,rv,p,hz⟩:=I.tuple hq;have p:s.heap.IsTuple a its.toArray:=p;obtain⟨f0,f1,f2,f3,f4,f5⟩:=hf it (by simp);have hl:=rv.length;have hT:s.TypeIs (.ref e) "enumerate":=⟨_,he,rfl⟩;unfold pyNext;refine P3 (wpAny_attempt (wpAny_callSpecial?_slot (name:=Str.ofString "__next__") hT F.slot_enumerate_next (Qq F.slot_enumerate_next hT F.entry_enumerate_next ?_ (F.args_enumerate_next_1 _))));show P4 _ _ (field (.ref e) 2 >>= _) _ _ _;refine P3 (wpAny_field he rfl (x:=.ref it) rfl ?_);refine P3 (wY (A:=X.A.in1) (I.ok.hd hc) hit p (λx h' e=>by simp at e;have:=(MZ.mp e).1;lia) λh' x _ he' hx'=>?_);obtain⟨o,ho,hc⟩:=hx';refine P3 (wpAny_isInstance (T:="StopIteration") (b:=PX) ⟨o,ho,hc⟩ isSubtype_stop ?_);exact P7 ⟨rfl,I.turned (t':=s.toks) (λb o hb q=>he' b o hb q) f0 f1 f3 f4 f5⟩
 self:=λ_ _ _ _ _ st h=>let ⟨_,q⟩:=st.1;wpAny_pyIter_enum q h
section
variable {X:Cx}
noncomputable def DF(K:MW)(ta:TA):TI:=λσ H R=>ta σ H λvs H1=>∃a,vs=[.ref a]/\(∃xs,SqT K H1 a xs)/\R (Ki K a) H1
theorem wZ{a:P0}{kk:Nat}(hg:Gl X "enumerate")(hm:X.mg "enumerate" = PV)(ha:PA X [a] ta)(hs:Qb [a] X.env=[(PY,eval a X.env)]) :
  PI X (.Tuple es kk tp) (.Call (.Name "enumerate" p) [a] [] pos) (DF X.K ta):=by
 intro pins s σ H R I h;refine Call_ (fy I hg hm boot_enumerate (PyProof.Rows.callWith_type1 (bx (ha pos pins s σ H _ I h) λus s1 ⟨vs,H1,I1,r1,q1⟩=>?_) hs rfl));obtain⟨l,e,⟨xs,hq⟩,q⟩:=q1;subst e;obtain⟨u,rfl,rx⟩:=lL r1;cases rx;obtain⟨its,rv,pl,hz⟩:=I1.tuple hq;refine qA (show s1.heap.IsTuple l its.toArray from pl) λh' he hit hk=>?_;refine wpAny_pyIter_enum (s:={ s1 with heap:=h' }) he ?_;have I2:Inv X pins σ H1 { s1 with heap:=h' }:=I1.kept (t':=s1.toks) hk;refine⟨s1.heap.objs.size+1,[s1.heap.objs.size+1,s1.heap.objs.size],_,_,H1,rfl,I2,qB l _ _ (N6 (NR _)),⟨⟨_,he⟩,hit⟩,λb hb=>?_,q⟩
 have hb':s1.heap.objs.size<=b:=by
  rcases M7.mp hb with rfl|hb
  ·exact Oy _
  ·have:b=s1.heap.objs.size:=by simpa using hb
   rw[this];exact M8 _
 exact I1.fpOk hb' (I1.hok.fresh hb')
end
end G
namespace G
open PySem PySem.Spec PyProof.Rows L2
noncomputable def Kj(K:MW)(a b:P1):It:=
 ⟨λi H=>∃xs ys x y,SqL K H a xs/\SqL K H b ys/\xs[i]?=PU x/\ys[i]?=PU y,λi H x H'=>∃p v u,H p=PV/\H'=upd H p (.tup [v,u])/\x=.ref p/\(∀xs,SqL K H a xs->xs[i]?=PU v)/\∀ys,SqL K H b ys->ys[i]?=PU u,
  λi H=>∃xs ys,SqL K H a xs/\SqL K H b ys/\(xs.length<=i\/ys.length<=i)⟩
theorem lW{h:Qa}{z TI TO i1 i2 l a b:P1}{us:Array PZ}{x y:PZ}{i j:Nat}(hl:h.IsList l us)(hz:IsZip h z TI TO .none)(hTI:IsPair h TI (.ref i1) (.ref i2))(hTO:IsPair h TO x y)(h1:h.IsListIter i1 a i)(h2:h.IsListIter i2 b j):∀c∈[z,TI,TO,i1,i2],l≠c:=λc hc e=>by
 subst e;obtain⟨o,q,q1,_⟩:=hl;simp only[M7,NH,or_false] at hc;rcases hc with rfl|rfl|rfl|rfl|rfl
 ·rw[hz] at q;cases q;exact absurd (show Value.type "zip" = .type "list" from q1) (by decide)
 ·rw[hTI] at q;cases q;exact absurd (show Value.type "tuple" = .type "list" from q1) (by decide)
 ·rw[hTO] at q;cases q;exact absurd (show Value.type "tuple" = .type "list" from q1) (by decide)
 ·obtain⟨o2,r,r1,_⟩:=h1;rw[r] at q;cases q;rw[r1] at q1;exact absurd q1 (by decide)
 ·obtain⟨o2,r,r1,_⟩:=h2;rw[r] at q;cases q;rw[r1] at q1;exact absurd q1 (by decide)
theorem BK{h:Qa}{z TI TO i1 i2 a b:P1}{us vs:Array PZ}{x y:PZ}{i j:Nat}(nd:[z,TI,TO,i1,i2].Nodup)(hl:h.IsList a us)(hl2:h.IsList b vs)(hz:IsZip h z TI TO .none)(hTI:IsPair h TI (.ref i1) (.ref i2))(hTO:IsPair h TO x y)(h1:h.IsListIter i1 a i)(h2:h.IsListIter i2 b j):ZipApart z TI TO i1 i2 a b:=by
 have n1:=lW hl hz hTI hTO h1 h2;have n2:=lW hl2 hz hTI hTO h1 h2;simp only[NB,M7,NH,or_false,not_or,List.nodup_nil,and_true,not_false_iff] at nd;obtain⟨⟨a1,a2,a3,a4⟩,⟨b1,b2,b3⟩,⟨c1,c2⟩,d1⟩:=nd;exact⟨Ne.symm a1,Ne.symm a2,Ne.symm a3,Ne.symm a4,b1,b2,b3,c1,c2,d1,n1 _ (by simp),n1 _ (by simp),n1 _ (by simp),n1 _ (by simp),n2 _ (by simp),n2 _ (by simp),n2 _ (by simp),n2 _ (by simp)⟩
theorem w4{P:P6}{w:P8}{K:MW}{es:List P0}{kk:Nat}{tp:Pos}(a b z TI TO i1 i2:P1)(nd:[z,TI,TO,i1,i2].Nodup):ql P w K (.Tuple es kk tp) (Kj K a b) [z,TI,TO,i1,i2] z (λi h=>IsZip h z TI TO .none/\IsPair h TI (.ref i1) (.ref i2)/\(∃x y,IsPair h TO x y)/\h.IsListIter i1 a i/\h.IsListIter i2 b i) where
 mem:=by simp
 obj:=λi h st c hc=>by
  obtain⟨h1,h2,⟨x,y,h3⟩,⟨o4,h4,h5,h6⟩,o7,h7,h8,h9⟩:=st;simp only[M7,NH,or_false] at hc;rcases hc with rfl|rfl|rfl|rfl|rfl
  ·exact⟨_,h1,λv z=>by
    have z':Data.fields _=Data.cell v:=z;cases z'⟩
  ·exact⟨_,h2,λv z=>by
    have z':Data.seq _ _=Data.cell v:=z;cases z'⟩
  ·exact⟨_,h3,λv z=>by
    have z':Data.seq _ _=Data.cell v:=z;cases z'⟩
  ·exact⟨o4,h4,λv z=>by rw[h6] at z;cases z⟩
  ·exact⟨o7,h7,λv z=>by rw[h9] at z;cases z⟩
 keep:=λi h h' st k=>by
  obtain⟨h1,h2,⟨x,y,h3⟩,h4,h5⟩:=st;exact⟨k z (by simp) _ h1,k TI (by simp) _ h2,⟨x,y,k TO (by simp) _ h3⟩,h4.at λo q=>k i1 (by simp) o q,h5.at λo q=>k i2 (by simp) o q⟩
 item:=by
  intro X hP hw hK hc i pins s σ H E I hf st hg;subst hP hw hK;obtain⟨hz,hTI,⟨x0,y0,hTO⟩,hi1,hi2⟩:=st;obtain⟨xs,ys,x,y,hq,hq2,hx,hy⟩:=hg;obtain⟨its,rv,p,hsz⟩:=I.list hq;obtain⟨its2,rv2,p2,hsz2⟩:=I.list hq2;obtain⟨u,hu,ru⟩:=rv.get hx;obtain⟨u2,hu2,ru2⟩:=rv2.get hy;have un:∀c∈[z,TI,TO,i1,i2],H c=PV:=λc hc=>(hf c hc).1;have D:=BK nd p.isList p2.isList hz hTI hTO hi1 hi2
  have hlt:∀c∈[z,TI,TO,i1,i2],c<s.heap.objs.size:=λc hc=>by
   simp only[M7,NH,or_false] at hc;rcases hc with rfl|rfl|rfl|rfl|rfl
   ·exact M5 hz
   ·exact M5 hTI
   ·exact M5 hTO
   ·obtain⟨o,q,_⟩:=hi1;exact M5 q
   ·obtain⟨o,q,_⟩:=hi2;exact M5 q
  refine wpAny_pyNext_zip_item D hz hTI hTO hi1 hi2 p.isList p2.isList (x:=u) (y:=u2) (by simpa using hu) (by simpa using hu2) λh1 hz1 hTO1 hi11 hi21 ht hs1 kk1=>?_;refine⟨_,rfl,wpAny_letOwnedTupleGo_zip hz1 λh2 hz2 sb2=>?_⟩;have sb2':Heap.SameBut z h1 h2:=sb2
  have step1:∀c o,c∉[z,TI,TO,i1,i2]->s.heap.get? c=PU o->h2.get? c=PU o:=λc o n q=>
   (sb2'.2 c (λe=>n (by simp[e]))).trans (kk1 c o (λe=>n (by simp[e])) (λe=>n (by simp[e])) (λe=>n (by simp[e])) (λe=>n (by simp[e])) q)
  have fr:=I.hok.fresh (M8 s.heap.objs.size);have htup:h2.get? s.heap.objs.size=PU { cls:=.type "tuple",data:=.seq #[u,u2] }:=(sb2'.2 _ (N6 (hlt z (by simp)))).trans ht
  have I1:Inv X pins σ (upd H s.heap.objs.size (.tup [x,y])) { s with heap:=h2 }:=by
   have nit:∀c o,H c=PU o->c∉[z,TI,TO,i1,i2]:=λc o q hc=>by rw[un c hc] at q;cases q
   have hok':HOk X.prog X.w (upd H s.heap.objs.size (.tup [x,y])) h2:=λc o q=>by
    by_cases hb:c=s.heap.objs.size
    ·subst hb;rw[am] at q;cases q;exact⟨(by show 2<=sizeLine;decide),[u,u2],.cons ru (.cons ru2 .nil),_,htup,rfl,_,rfl⟩
    ·rw[ah hb] at q;refine(I.hok c o q).stay (λd v hc' q'=>step1 d v ?_ q') (λd q'=>by rw[ah (av q' fr)];exact q') λd ys q'=>by rw[ah (av q' fr)];exact q'
     rcases hc' with rfl|hc'
     ·exact nit _ _ q
     ·exact nit _ _ hc'
   refine I.step (g':=s.gens) (d':=s.drawn) (t':=s.toks) (ch:=[z,TI,TO,i1,i2]) (λc hc=>?_) (λc o _ _ hcx q _=>step1 c o hcx q)
    (λc o _ _ hcx q _=>⟨o.slots,step1 c o hcx q⟩) (λc o hcx q n=>by rw[ah (Ni (M5 q))];exact n)
    (λc o hcx q=>⟨o,step1 c o hcx q⟩) (λc ys q=>by rw[ah (av q fr)];exact q) (λc o z q=>by rw[ah (av q fr)];exact q)
    (λc ps q=>⟨#[],by rw[ah (av q fr),q];simp⟩) (λm hm=>?_) hok' I.bare
   ·obtain⟨f0,f1,f2,f3,f4,f5⟩:=hf c hc;exact⟨f3,f1,f4,f5⟩
   ·obtain⟨o,es',ep,ho',r'⟩:=hm;exact⟨o,es',ep,step1 _ o (λhc=>(hf _ hc).2.1 rfl) ho',r'⟩
  refine⟨.ref s.heap.objs.size,_,I1,rfl,⟨s.heap.objs.size,x,y,fr,rfl,rfl,λzs hy=>by rw[I.list_inj hy hq];exact hx,λzs hz=>by rw[I.list_inj hz hq2];exact hy⟩,⟨hz2,?_,⟨u,u2,(sb2'.2 TO D.TOz).trans hTO1⟩,hi11.extBut sb2'.extBut D.i1z,hi21.extBut sb2'.extBut D.i2z⟩,λc hc=>?_⟩
  ·exact(sb2'.2 TI D.TIz).trans (kk1 TI _ D.TIz D.TITO D.TIi1 D.TIi2 hTI)
  ·rw[ah (Ni (hlt c hc))];exact un c hc
 done:=by
  intro X hP hw hK hc i pins s σ H E I hf st hg;subst hP hw hK;obtain⟨hz,hTI,⟨x0,y0,hTO⟩,hi1,hi2⟩:=st;obtain⟨xs,ys,hq,hq2,hx⟩:=hg;obtain⟨its,rv,p,hsz⟩:=I.list hq;obtain⟨its2,rv2,p2,hsz2⟩:=I.list hq2;have D:=BK nd p.isList p2.isList hz hTI hTO hi1 hi2;have l1:=rv.length;have l2:=rv2.length;refine wpAny_pyNext_zip_end (I.ok.hd hc) D hz hTI hTO hi1 hi2 p.isList p2.isList (hx.imp (λh=>by simp;lia) λh=>by simp;lia) λh' kk=>⟨rfl,?_⟩;have un:∀c∈[z,TI,TO,i1,i2],H c=PV:=λc hc=>(hf c hc).1
  have step1:∀c o,c∉[z,TI,TO,i1,i2]->s.heap.get? c=PU o->h'.get? c=PU o:=λc o n q=>
   kk c o (λe=>n (by simp[e])) (λe=>n (by simp[e])) (λe=>n (by simp[e])) (λe=>n (by simp[e])) q
  have nit:∀c o,H c=PU o->c∉[z,TI,TO,i1,i2]:=λc o q hc=>by rw[un c hc] at q;cases q
  refine I.step (g':=s.gens) (d':=s.drawn) (t':=s.toks) (ch:=[z,TI,TO,i1,i2]) (λc hc=>?_) (λc o _ _ hcx q _=>step1 c o hcx q)
   (λc o _ _ hcx q _=>⟨o.slots,step1 c o hcx q⟩) (λ_ _ _ _ n=>n)
   (λc o hcx q=>⟨o,step1 c o hcx q⟩) (λ_ _ q=>q) (λ_ _ _ q=>q)
   (λc ps q=>⟨#[],by rw[q];simp⟩) (λm hm=>?_) (λc o q=>?_) I.bare
  ·obtain⟨f0,f1,f2,f3,f4,f5⟩:=hf c hc;exact⟨f3,f1,f4,f5⟩
  ·obtain⟨o,es',ep,ho',r'⟩:=hm;exact⟨o,es',ep,step1 _ o (λhc=>(hf _ hc).2.1 rfl) ho',r'⟩
  ·refine(I.hok c o q).stay (λd v hc' q'=>step1 d v ?_ q') (λd q'=>q') λd ys q'=>q';rcases hc' with rfl|hc'
   ·exact nit _ _ q
   ·exact nit _ _ hc'
 self:=λ_ _ _ _ _ st h=>wpAny_pyIter_zip st.1 h
section
variable {X:Cx}
noncomputable def Kl(K:MW)(ta:TA):TI:=λσ H R=>ta σ H λvs H1=>∃a b,vs=[.ref a,.ref b]/\(∃xs,SqL K H1 a xs)/\(∃ys,SqL K H1 b ys)/\R (Kj K a b) H1
theorem DG{a b:P0}{kk:Nat}(hg:Gl X "zip")(hm:X.mg "zip" = PV)(ha:PA X [a,b] ta)(hs:Qb [a,b] X.env=[(PY,eval a X.env),(PY,eval b X.env)])(hs2:Qb [b] X.env=[(PY,eval b X.env)]) :
  PI X (.Tuple es kk tp) (.Call (.Name "zip" p) [a,b] [] pos) (Kl X.K ta):=by
 intro pins s σ H R I h;refine Call_ (fy I hg hm boot_zip (PyProof.Rows.callWith_type1 (bx (ha pos pins s σ H _ I h) λus s1 ⟨vs,H1,I1,r1,q1⟩=>?_) (by rw[hs,hs2]) (by rw[hs2];rfl)));obtain⟨l,l2,e,⟨xs,hq⟩,⟨ys,hq2⟩,q⟩:=q1;subst e
 cases r1 with
 |cons rx r1=>cases r1 with
  |cons ry r1=>
   cases r1;cases rx;cases ry;obtain⟨its,rv,pl,hz⟩:=I1.list hq;obtain⟨its2,rv2,pl2,hz2⟩:=I1.list hq2;refine call_zip_2 pl.isList pl2.isList λh' he hti hto hi1 hi2 hsz hk=>?_;refine wpAny_pyIter_zip (s:={ s1 with heap:=h' }) he ?_;have I2:Inv X pins σ H1 { s1 with heap:=h' }:=I1.kept (t':=s1.toks) hk
   refine⟨s1.heap.objs.size+4,[s1.heap.objs.size+4,s1.heap.objs.size+2,s1.heap.objs.size+3,s1.heap.objs.size,s1.heap.objs.size+1],_,_,H1,rfl,I2,w4 l l2 _ _ _ _ _ (by simp<;>lia),⟨he,hti,⟨_,_,hto⟩,hi1,hi2⟩,λc hb=>?_,q⟩
   have hb':s1.heap.objs.size<=c:=by
    simp only[M7,NH,or_false] at hb;rcases hb with rfl|rfl|rfl|rfl|rfl
    ·exact NV _ _
    ·exact NV _ _
    ·exact NV _ _
    ·exact M8 _
    ·exact NV _ _
   exact I1.fpOk hb' (I1.hok.fresh hb')
end
end G
namespace G
open PySem PySem.Spec PyProof.Rows L2
section
variable {X:Cx}
end
end G
namespace G
open PySem PySem.Spec PyProof.Rows L2
end G
namespace G
open PySem PySem.Spec PyProof.Rows L2
section
variable {X:Cx}
end
end G
namespace G
open PySem PySem.Spec PyProof.Rows L2
section
variable {X:Cx}
end
end G
namespace L2
open PySem PySem.Spec PyProof.Rows
section
variable {X:Cx} {pins:List (P1×Obj)} {σ:St} {H:Hp} {s:P2}
noncomputable def iZ(wi:TI)(g:TG)(tt:TT)(te:TE)(cap:List (Option Nat)):TE:=λσ H Q=>wi σ H λJ H1=>∀D,H1 D=PV->∃W:Nat->Nat->St->Hp->Prop,(∃m,W 0 m (dW σ cap) (upd H1 D (.lst [])))/\∀i m σ' H',W i m σ' H'->
 (J.stop i H'/\Q (.ref D) H')\/(J.go i H'/\∀x H2,J.yld i H' x H2->g x σ' H2 λσ2 H3=>tt σ2 H3 λok H3=>if ok=PX then te σ2 H3 λy H4=>∃ys,H4 D=PU (.lst ys)/\ys.length<sizeLine/\∃m',m'<m/\W (i+1) m' σ2 (upd H4 D (.lst (ys++[y]))) else ∃m',m'<m/\W (i+1) m' σ2 H3)
noncomputable def FZ(X:Cx)(ifs:List P0)(tt:TT):Prop:=∀(pins:List (P1×Obj)) (s:P2) (σ:St) (H:Hp) (Q:Bool->Hp->Prop),Inv X pins σ H s->tt σ H Q->
 P4 (P5 X.prog X.w) X.A (forIn ifs PX λc r=>if r=PX then do let ok <- isTrue c X.env (eval c X.env);pure (ForInStep.yield ok) else pure (ForInStep.yield r)) (TP X pins σ Q) X.xe s
theorem ss:FZ X [] (λ_ H Q=>Q PX H):=λpins s σ H Q I h=>wpAny_tests_nil ⟨H,I,h⟩
theorem su{c:P0}(h:PT X c t):FZ X [c] t:=λpins s σ H Q I q=>wpAny_tests_one (h pins s σ H Q I q)
theorem lX(hc:X.calm=PX)(O:kA X N' scope cap)(hi:PI X tg iter wi)(hg:∀C s H ex,PG (aV X N' scope C s H ex) tg g)(ht:∀C s H ex,FZ (aV X N' scope C s H ex) ifs tt)(he:∀C s H ex,PE (aV X N' scope C s H ex) elt te){Q:VK}(I:Inv X pins σ H s)(h:iZ wi g tt te cap σ H Q)(hs:∀x,foldedSetIterable iter X.env x=pure x)(hX:X.xe=E)(hQ:∀(C D:P1) (s1:P2) (H1:Hp) (fp:List P1) (σ':St) (H':Hp) (s':P2),Inv X pins σ H1 s1->(∀b∈fp,kj X pins H1 b)->Inv (aV X N' scope C s1 H1 fp) [] σ' H' s'->Q (.ref D) H'->
   compPost (P5 X.prog X.w) X.A E use Q' (.ref D) C (.ok .next) s') :
  P4 (P5 X.prog X.w) X.A (comprehension (.ListComp elt [⟨tg,iter,ifs,0⟩] scope pos) scope X.env cpos (newList []) PY (eval iter X.env) use) Q' E s:=by
 have hcl:closureFor scope X.env=pure (gE X.env.cells scope.names []):=ly λy hy e=>I.ok.has _ (O.free y hy e);refine wpAny_comprehension_free (g:=⟨tg,iter,ifs,0⟩) (gs:=[]) rfl hs hcl O.kind O.names ?_;subst hX;refine bx (hi pins s σ H _ I h) λv s1 h1=>bx h1 λitv s2 h2=>?_;obtain⟨it,fp,tn,J,H2,e,I2,T,st2,f2,hW⟩:=h2;subst e;refine Qp (lz ?_);dsimp only;generalize hH2:s2.heap.push { cls:=.type "list",dict:=PV,data:=.seq ([]:List PZ).toArray }=HH;have hCs:HH.objs.size=s2.heap.objs.size+1:=by rw[<- hH2,OM]
 have hDC:s2.heap.objs.size<HH.objs.size:=by rw[hCs];exact NR _
 generalize hh1:pushCells (HH.push { cls:=.type "dict",data:=.dict #[] }) scope.names=h₁;have kp:∀b o,HH.get? b=PU o->h₁.get? b=PU o:=λb o e=>hh1▸pushCells_keeps _ _ b o (Nb _ e);have hns₁:h₁.Ns HH.objs.size λ_=>PV:=hh1▸(Heap.Ns.new HH (.type "dict")).keeps (pushCells_keeps _ _)
 have hcs:∀x c,(Qf (HH.objs.size+1) scope.names []).lookup x=PU c->h₁.IsCell c PV:=λx c e=>by
  have ok:=cellsFrom_ok scope.names (HH.push { cls:=.type "dict",data:=.dict #[] }) 0 [] ⟨λ_ _ hm=>(nomatch hm),List.Pairwise.nil⟩ (NG _)
  rw[OM] at ok;exact hh1▸(ok.empty x c (cV e)).1
 have old:∀b o,s2.heap.get? b=PU o->h₁.get? b=PU o:=λb o e=>kp b o (hH2▸Nb _ e);have new:h₁.get? s2.heap.objs.size=PU { cls:=.type "list",data:=.seq ([]:List PZ).toArray }:=kp _ _ (hH2▸Nt _ rfl);have hfo:∀b∈fp,b<s2.heap.objs.size:=λb hb=>let ⟨o,e,_⟩:=T.obj 0 _ st2 b hb;M5 e;have hfree:=I2.hok.fresh (M8 s2.heap.objs.size);obtain⟨W,⟨m0,w0⟩,turn⟩:=hW s2.heap.objs.size hfree;have J0:=wX (tk:=s2.toks) I2 O f2 hfo (C:=HH.objs.size) (D:=s2.heap.objs.size) (by rw[hCs];exact Oy _) (M8 _) hDC hcs hns₁ old new;have st0:tn 0 h₁:=T.keep 0 _ _ st2 λb _ o e=>old b o e
 have fr0:∀b∈fp,(upd H2 s2.heap.objs.size (.lst [])) b=PV:=λb hb=>by
  rw[ah (Ni (hfo b hb))];exact(f2 b hb).1
 have stat:∀{H':Hp},(∀b∈fp,H' b=PV)->∀b∈fp,kj (aV X N' scope HH.objs.size s2 H2 fp) [] H' b:=λhn b hb=>
  ⟨hn b hb,(J0.ok.exf b hb).1,J0.ok.exfs b hb,.inl hb,(J0.ok.exf b hb).2,λp hp=>absurd hp (by simp[aV])⟩
 have loop:codeAny (P5 X.prog X.w) X.A (.compLoop (.ListComp elt [⟨tg,iter,ifs,0⟩] scope pos) 0 (.ref it) (.ref s2.heap.objs.size) (compEnvC scope (FY X.env.cells scope.names HH.objs.size) HH.objs.size X.env))
   (compPost (P5 X.prog X.w) X.A X.xe use Q' (.ref s2.heap.objs.size) HH.objs.size) { s2 with heap:=h₁,toks:=s2.toks }:=by
  refine nh (λn s'=>∃i σ' H',Inv (aV X N' scope HH.objs.size s2 H2 fp) [] σ' H' s'/\tn i s'.heap/\(∀b∈fp,H' b=PV)/\W i n σ' H') ?_ m0 ⟨0,_,_,J0,st0,fr0,w0⟩
  rintro n s3 ⟨i,σ3,H3,I3,st3,fr3,w3⟩
  rcases turn i n σ3 H3 w3 with⟨stop,qn⟩|⟨go,step⟩
  ·refine bx (T.done (aV X N' scope HH.objs.size s2 H2 fp) rfl rfl rfl hc i [] s3 σ3 H3 _ I3 (stat fr3) st3 stop) λr s4 ⟨hr,I4⟩=>?_;subst hr;exact hQ _ _ s2 H2 fp σ3 H3 s4 I2 f2 I4 qn
  ·refine bx (T.item (aV X N' scope HH.objs.size s2 H2 fp) rfl rfl rfl hc i [] s3 σ3 H3 _ I3 (stat fr3) st3 go) λr s4 ⟨u,hr,h4⟩=>?_;subst hr;refine bx h4 λ_ s5 ⟨x,H5,I5,r5,y5,st5,fr5⟩=>?_;have I5':=I5.pinned (stat fr5) (T.obj _ _ st5);refine bx (hg _ _ _ _ _ s5 σ3 H5 x u _ I5' r5 (step x H5 y5)) λ_ s6 ⟨σ6,H6,I6,q6⟩=>?_;refine bx (ht _ _ _ _ _ s6 σ6 H6 _ I6 q6) λok s6' ⟨H6',I6',q6'⟩=>?_
   cases ok with
   |false=>
    rw[if_neg NQ] at q6'⊢;obtain⟨m',hm,w7⟩:=q6';refine⟨m',hm,i+1,σ6,_,I6'.unpinned,T.keep _ _ _ st5 λb hb o e=>(I6'.pin (b,o) (Nj _ (Nj _ (cR hb e)))).1,λb hb=>?_,w7⟩;obtain⟨o,e,d⟩:=T.obj _ _ st5 b hb;exact(I6'.pin (b,o) (Nj _ (Nj _ (cR hb e)))).2.1
   |true=>
   rw[if_pos rfl] at q6'⊢;refine bx (he _ _ _ _ _ s6' σ6 H6' _ I6' q6') λyv s7 ⟨y,H7,I7,r7,ys,hD,hz,m',hm,w7⟩=>?_;refine bx (lS _ s7 σ6 H7 (.ref s2.heap.objs.size) [y] (.ref s2.heap.objs.size) [yv] (λv H'=>v=.non/\H'=upd H7 s2.heap.objs.size (.lst (ys++[y]))) I7 rfl (.cons r7 .nil) ⟨_,ys,y,rfl,rfl,hD,hz,rfl,rfl⟩) λ_ s8 ⟨_,H8,I8,_,_,e8⟩=>?_;subst e8;refine⟨m',hm,i+1,σ6,_,I8.unpinned,T.keep _ _ _ st5 λb hb o e=>(I8.pin (b,o) (Nj _ (Nj _ (cR hb e)))).1,λb hb=>?_,w7⟩;obtain⟨o,e,d⟩:=T.obj _ _ st5 b hb;exact(I8.pin (b,o) (Nj _ (Nj _ (cR hb e)))).2.1
 exact codeAny_compStart_list loop (T.self _ 0 _ _ _ st0 loop)
theorem oV(hc:X.calm=PX)(O:kA X N' scope cap)(hi:PI X tg iter wi)(hg:∀C s H ex,PG (aV X N' scope C s H ex) tg g)(ht:∀C s H ex,FZ (aV X N' scope C s H ex) ifs tt)(he:∀C s H ex,PE (aV X N' scope C s H ex) elt te)(hs:∀x,foldedSetIterable iter X.env x=pure x:=by intro _;rfl):PE X (.ListComp elt [⟨tg,iter,ifs,0⟩] scope pos) (iZ wi g tt te cap):=by
 intro pins s σ H Q I h;rw[eval_ListComp];refine lX (use:=PV) (Q':=EP X pins σ Q) hc O hi hg ht he I h hs rfl λC D s1 H1 fp σ' H' s' I1 f1 J q=>?_;obtain⟨m,hn,_⟩:=J.loc;exact⟨m,hn,λh' hsb=>⟨.ref D,H',oU I1 f1 J hsb,rfl,q⟩⟩
theorem w5{cpos pos' pos:Pos}{i:Nat}{x:Str}(hc:X.calm=PX)(O:kA X N' scope cap)(hi:PI X tg iter wi)(hg:∀C s H ex,PG (aV X N' scope C s H ex) tg g)(ht:∀C s H ex,FZ (aV X N' scope C s H ex) ifs tt)(he:∀C s H ex,PE (aV X N' scope C s H ex) elt te)(hs:∀x,foldedSetIterable iter X.env x=pure x)(hN:X.N.Nodup)(hix:X.N[i]?=PU x)(hx:CY X.env.scope x)(hf:X.fn x=PX\/X.env.scope.names.lookup x=PU .local)(hsw:swapsWith (.ListComp elt [⟨tg,iter,ifs,0⟩] scope cpos) (PU (.Name x pos')) pos.line X.env=pure PX) :
  PS X (.Assign [.Name x pos'] (.ListComp elt [⟨tg,iter,ifs,0⟩] scope cpos) pos) (Da (iZ wi g tt te cap) (kh i)):=by
 intro pins s σ H D I h;rw[exec_Assign_Name_used _ _ _ _ hsw];refine P3 (wpAny_standAt (P3 ?_));show P4 _ _ (do let _ <- comprehension (.ListComp elt [⟨tg,iter,ifs,0⟩] scope cpos) scope X.env _ (newList []) PY (eval iter X.env) (PU (assign (.Name x pos') X.env))) _ _ s;refine P3 (wpAny_mono (lX (use:=PU (assign (.Name x pos') X.env)) (Q':=λ_ s'=>∃σ' H',Inv X pins σ' H' s'/\D.nx σ' H') hc O hi hg ht he I h hs rfl λC D1 s1 H1 fp σ' H' s' I1 f1 J q=>?_) (λ_ s' hq=>P7 (P7 hq)) λ_ _ e=>e);show P4 _ _ (assign (.Name x pos') X.env (.ref D1)) _ _ s';have I2:Inv X pins σ H' s':=oU I1 f1 J (Heap.SameBut.refl C s'.heap);have hC:s1.heap.objs.size<=C:=J.ok.above;have old:∀b o,s1.heap.get? b=PU o->b≠C:=λb o e=>Ni (M6 (M5 e) hC);obtain⟨m1,⟨oL,_,_,gL,_⟩,_⟩:=id I1.loc;have hL:X.env.locals≠C:=old _ _ gL
 have hcl:∀x c,X.env.cells.lookup x=PU c->c≠C:=λx c e=>by
  obtain⟨v,o,g,_⟩:=I1.cell x c e;exact old _ _ g
 have hpn:∀p∈X.pn++pins,p.1≠C:=λp hp=>old _ _ (I1.pin p hp).1
 have h0:X.s₀.heap.objs.size<=C:=by
  refine Nq ?_ hC;exact OA (NA I1.ok.above (M5 gL))
 obtain⟨m,hn,_⟩:=J.loc;refine wpAny_assign_Name (lJ I2 hN hix hx (v:=.ref D1) rfl (λs3 I3 hsb=>?_) hf);obtain⟨a,hsb,ha⟩:=hsb
 have hCa:C≠a:=by
  rcases ha with rfl|ha
  ·exact Ne.symm hL
  ·exact Ne.symm (hcl _ _ ha)
 exact⟨m,hn.sameBut hsb hCa,λh' hs'=>⟨_,H',I3.junk hs' h0 hL hcl hpn J.free,q⟩⟩
end
end L2
namespace J
open PySem PySem.Spec PyProof.Rows L2
noncomputable abbrev DK:=aS ⊕ List (aS ⊕ List aS)
inductive Hd where
 |lst|tup|dic (t:Nat) (ks:List DK)|obj (c:Str) (ns:List Str)
 deriving DecidableEq
inductive D where
 |non|bl (b:Bool)|int (i:Int)|str (x:Str)|scr (ns:List Int)|nd (h:Hd) (ds:List D)
noncomputable abbrev D.lst(ds:List D):D:=.nd .lst ds
noncomputable abbrev D.tup(ds:List D):D:=.nd .tup ds
noncomputable abbrev D.dic(t:Nat)(ks:List DK)(ds:List D):D:=.nd (.dic t ks) ds
noncomputable abbrev D.obj(c:Str)(ns:List Str)(ds:List D):D:=.nd (.obj c ns) ds
noncomputable def Hd.mu:Hd->Bool
 |.tup=>PY
 |_=>PX
noncomputable def GY(K:MW)(a:P1)(xs:List V):Prop:=
 ∃(o:Obj) (its:Array PZ) (n:Nat),K.lookup a=PU o/\o.cls=.type "list"/\o.dict=PV/\o.data=.seq its n/\its.size<=sizeLine/\Vals xs its.toList
noncomputable def fD(K:MW)(o:HO):Hd->List V->Prop
 |.lst,xs=>o=.lst xs
 |.tup,xs=>o=.tup xs
 |.dic t ks,xs=>(t=0/\∃kvs:List (aS×V),o=.dK kvs/\ks=kvs.map (λp=>Sum.inl p.1)/\xs=kvs.map (·.2))\/(∃m,t=m+1/\∃(kvs:List (List (aS ⊕ List aS)×V)) (ep:Nat),o=.dT m ep kvs/\ks=kvs.map (λp=>Sum.inr p.1)/\xs=kvs.map (·.2))
 |.obj c ns,xs=>∃C dx,OB K Qh c=PU (PU (.ref C))/\(Cls K C/\∀f∈ns,mS K C f)/\o=.ins C dx (ns.zip xs)/\ns.length=xs.length
noncomputable abbrev Pr:=P1->Prop
mutual
noncomputable def Rp(K:MW)(H:Hp)(S:Pr):D->V->Prop
 |.non,v=>v=.non
 |.bl b,v=>v=.bl b
 |.int i,v=>v=.int i
 |.str x,v=>v=.str x
 |.scr ns,v=>∃a,v=.ref a/\((¬S a/\Rd H a (.lst (ns.map V.int)))\/GY K a (ns.map V.int))
 |.nd h ds,v=>∃a o xs,v=.ref a/\¬S a/\H a=PU o/\fD K o h xs/\RpL K H S ds xs
noncomputable def RpL(K:MW)(H:Hp)(S:Pr):List D->List V->Prop
 |[],xs=>xs=[]
 |d::ds,xs=>∃y ys,xs=y::ys/\Rp K H S d y/\RpL K H S ds ys
end
section
variable {K:MW} {H H':Hp} {S S':Pr}
mutual
theorem Rp.go(k:∀b o,¬S b->H b=PU o->H' b=PU o/\¬S' b):∀{d:D} {v:V},Rp K H S d v->Rp K H' S' d v
 |.non,_,h=>h
 |.bl _,_,h=>h
 |.int _,_,h=>h
 |.str _,_,h=>h
 |.scr ns,v,h=>by
  unfold Rp at h⊢;obtain⟨a,e,h⟩:=h;refine⟨a,e,?_⟩;rcases h with⟨n,g|⟨o,g⟩⟩|h
  ·exact .inl ⟨(k _ _ n g).2,.inl (k _ _ n g).1⟩
  ·exact .inl ⟨(k _ _ n g).2,.inr ⟨o,(k _ _ n g).1⟩⟩
  ·exact .inr h
 |.nd hd ds,v,h=>by
  unfold Rp at h⊢;obtain⟨a,o,xs,e,n,g,q,r⟩:=h;exact⟨a,o,xs,e,(k _ _ n g).2,(k _ _ n g).1,q,RpL.go k r⟩
theorem RpL.go(k:∀b o,¬S b->H b=PU o->H' b=PU o/\¬S' b):∀{ds:List D} {vs:List V},RpL K H S ds vs->RpL K H' S' ds vs
 |[],_,h=>by unfold RpL at h⊢;exact h
 |d::ds,_,h=>by
  unfold RpL at h⊢;obtain⟨y,ys,e,r,t⟩:=h;exact⟨y,ys,e,Rp.go k r,RpL.go k t⟩
end
theorem Rp.same(s:Same H H'){d:D}{v:V}(h:Rp K H S d v):Rp K H' S d v:=h.go λb o n e=>⟨s b o e,n⟩
theorem RpL.same(s:Same H H'){d:List D}{v:List V}(h:RpL K H S d v):RpL K H' S d v:=h.go λb o n e=>⟨s b o e,n⟩
theorem Rp.weak(k:∀b,S' b->S b){d:D}{v:V}(h:Rp K H S d v):Rp K H S' d v:=h.go λb o n e=>⟨e,λz=>n (k b z)⟩
theorem RpL.weak(k:∀b,S' b->S b){d:List D}{v:List V}(h:RpL K H S d v):RpL K H S' d v:=h.go λb o n e=>⟨e,λz=>n (k b z)⟩
theorem RpL.len:∀{ds:List D} {vs:List V},RpL K H S ds vs->vs.length=ds.length
 |[],_,h=>by unfold RpL at h;rw[h];rfl
 |d::ds,_,h=>by
  unfold RpL at h;obtain⟨y,ys,rfl,_,t⟩:=h;rw[NF,NF,RpL.len t]
theorem RpL.nil:RpL K H S [] []:=by unfold RpL;rfl
theorem RpL.cons{d:D}{v:V}{ds:List D}{vs:List V}(h1:Rp K H S d v)(h2:RpL K H S ds vs):RpL K H S (d::ds) (v::vs):=by unfold RpL;exact⟨v,vs,rfl,h1,h2⟩
theorem RpL.nil_inv(h:RpL K H S [] vs):vs=[]:=by unfold RpL at h;exact h
theorem RpL.cons_inv(h:RpL K H S (d::ds) vs):∃y ys,vs=y::ys/\Rp K H S d y/\RpL K H S ds ys:=by unfold RpL at h;exact h
theorem RpL.getD:∀{ds:List D} {vs:List V} {i:Nat} {d:D},RpL K H S ds vs->ds[i]?=PU d->∃v,vs[i]?=PU v/\Rp K H S d v
 |[],_,_,_,_,e=>by simp at e
 |d::ds,_,0,d',h,e=>by obtain⟨y,ys,rfl,r,t⟩:=h.cons_inv;simp at e;subst e;exact⟨y,rfl,r⟩
 |d::ds,_,i+1,d',h,e=>by obtain⟨y,ys,rfl,r,t⟩:=h.cons_inv;simpa using RpL.getD t (by simpa using e)
theorem RpL.append:∀{ds es:List D} {vs us:List V},RpL K H S ds vs->RpL K H S es us->RpL K H S (ds++es) (vs++us)
 |[],_,_,_,h,g=>by rw[h.nil_inv];exact g
 |d::ds,_,_,_,h,g=>by obtain⟨y,ys,rfl,r,t⟩:=h.cons_inv;exact .cons r (RpL.append t g)
theorem RpL.take:∀{ds:List D} {vs:List V} (n:Nat),RpL K H S ds vs->RpL K H S (ds.take n) (vs.take n)
 |_,_,0,_=>by simpa using RpL.nil
 |[],_,_+1,h=>by rw[h.nil_inv];simpa using RpL.nil
 |d::ds,_,n+1,h=>by obtain⟨y,ys,rfl,r,t⟩:=h.cons_inv;exact .cons r (RpL.take n t)
theorem RpL.drop:∀{ds:List D} {vs:List V} (n:Nat),RpL K H S ds vs->RpL K H S (ds.drop n) (vs.drop n)
 |_,_,0,h=>h
 |[],_,_+1,h=>by rw[h.nil_inv];simpa using RpL.nil
 |d::ds,_,n+1,h=>by obtain⟨y,ys,rfl,r,t⟩:=h.cons_inv;exact RpL.drop n t
theorem RpL.reverse{ds:List D}{vs:List V}(h:RpL K H S ds vs):RpL K H S ds.reverse vs.reverse:=by
 induction ds generalizing vs with
 |nil=>rw[h.nil_inv];exact .nil
 |cons d ds ih=>obtain⟨y,ys,rfl,r,t⟩:=h.cons_inv;rw[Ou,Ou];exact(ih t).append (.cons r .nil)
theorem RpL.rep(h:RpL K H S ds vs):∀n:Nat,RpL K H S (M3 n ds).flatten (M3 n vs).flatten
 |0=>by simpa using RpL.nil
 |n+1=>by simpa[NI] using h.append (h.rep n)
theorem RpL.ints:∀ns:List Int,RpL K H S (ns.map D.int) (ns.map V.int)
 |[]=>.nil
 |n::ns=>.cons (by unfold Rp;rfl) (RpL.ints ns)
theorem RpL.erase:∀{ds:List D} {vs:List V} (n:Nat),RpL K H S ds vs->RpL K H S (ds.eraseIdx n) (vs.eraseIdx n)
 |[],_,_,h=>by rw[h.nil_inv];simpa using RpL.nil
 |d::ds,_,0,h=>by obtain⟨y,ys,rfl,r,t⟩:=h.cons_inv;exact t
 |d::ds,_,n+1,h=>by obtain⟨y,ys,rfl,r,t⟩:=h.cons_inv;exact .cons r (RpL.erase n t)
end
mutual
noncomputable def qC:D->Bool
 |.nd h ds=>!h.mu&&zL ds
 |.scr _=>PY
 |_=>PX
noncomputable def zL:List D->Bool
 |[]=>PX
 |d::ds=>qC d&&zL ds
end
noncomputable def MuOk(H:Hp)(S:Pr):Prop:=∀a,S a->∃o,H a=PU o/\∀xs,o≠.tup xs
section
variable {K:MW} {H:Hp} {S S':Pr}
mutual
theorem Rp.im(m:MuOk H S'):∀{d:D} {v:V},qC d=PX->Rp K H S d v->Rp K H S' d v
 |.non,_,_,h=>h
 |.bl _,_,_,h=>h
 |.int _,_,_,h=>h
 |.str _,_,_,h=>h
 |.scr ns,v,i,h=>by simp[qC] at i
 |.nd hd ds,v,i,h=>by
  unfold Rp at h⊢;obtain⟨a,o,xs,e,n,g,q,r⟩:=h;rw[qC,MX] at i;refine⟨a,o,xs,e,λz=>?_,g,q,RpL.im m i.2 r⟩;obtain⟨o',e',ne⟩:=m a z;rw[g] at e';cases e'
  cases hd with
  |tup=>exact ne _ q
  |_=>exact absurd i.1 (by simp[Hd.mu])
theorem RpL.im(m:MuOk H S'):∀{ds:List D} {vs:List V},zL ds=PX->RpL K H S ds vs->RpL K H S' ds vs
 |[],_,_,h=>by unfold RpL at h⊢;exact h
 |d::ds,_,i,h=>by
  rw[zL,MX] at i;obtain⟨y,ys,rfl,r,t⟩:=h.cons_inv;exact .cons (Rp.im m i.1 r) (RpL.im m i.2 t)
end
end
inductive Ow where
 |fz|own (es:List Ow) (r:Ow)
mutual
noncomputable def Tr(K:MW)(H:Hp)(S:Pr):D->Ow->V->Pr->Prop
 |.nd h ds,.own es r,v,F=>∃a o xs F',v=.ref a/\H a=PU o/\fD K o h xs/\(h.mu=PX->¬F' a)/\(h.mu=PY->¬S a)/\(∀b,F b↔(h.mu=PX/\b=a)\/F' b)/\TrL K H S ds es r xs F'
 |d,_,v,F=>(∀b,¬F b)/\Rp K H S d v
noncomputable def TrL(K:MW)(H:Hp)(S:Pr):List D->List Ow->Ow->List V->Pr->Prop
 |[],_,_,xs,F=>xs=[]/\∀b,¬F b
 |d::ds,es,r,xs,F=>∃y ys F1 F2,xs=y::ys/\(∀b,F b↔F1 b\/F2 b)/\(∀b,F1 b->¬F2 b)/\Tr K H S d (es.headD r) y F1/\TrL K H S ds es.tail r ys F2
end
section
variable {K:MW} {H H':Hp} {S S':Pr}
mutual
theorem Tr.go:∀{d:D} {k:Ow} {v:V} {F:Pr},(∀b o,(¬S b\/F b)->H b=PU o->H' b=PU o)->(∀b o,H b=PU o->¬S b->¬S' b)->Tr K H S d k v F->Tr K H' S' d k v F
 |.non,_,_,_,k1,k2,h=>by unfold Tr at h⊢;exact⟨h.1,h.2⟩
 |.bl _,_,_,_,k1,k2,h=>by unfold Tr at h⊢;exact⟨h.1,h.2⟩
 |.int _,_,_,_,k1,k2,h=>by unfold Tr at h⊢;exact⟨h.1,h.2⟩
 |.str _,_,_,_,k1,k2,h=>by unfold Tr at h⊢;exact⟨h.1,h.2⟩
 |.scr ns,_,_,_,k1,k2,h=>by unfold Tr at h⊢;exact⟨h.1,h.2.go λb o n e=>⟨k1 b o (.inl n) e,k2 b o e n⟩⟩
 |.nd hd ds,.fz,_,_,k1,k2,h=>by unfold Tr at h⊢;exact⟨h.1,h.2.go λb o n e=>⟨k1 b o (.inl n) e,k2 b o e n⟩⟩
 |.nd hd ds,.own es r,v,F,k1,k2,h=>by
  unfold Tr at h⊢;obtain⟨a,o,xs,F',e,g,q,n1,n2,hF,t⟩:=h
  have hg:H' a=PU o:=by
   cases hm:hd.mu with
   |true=>exact k1 a o (.inr ((hF a).mpr (.inl ⟨hm,rfl⟩))) g
   |false=>exact k1 a o (.inl (n2 hm)) g
  refine⟨a,o,xs,F',e,hg,q,n1,λhm=>k2 a o g (n2 hm),hF,TrL.go (λb o h=>k1 b o (h.imp id λz=>(hF b).mpr (.inr z))) k2 t⟩
theorem TrL.go:∀{ds:List D} {es:List Ow} {r:Ow} {vs:List V} {F:Pr},(∀b o,(¬S b\/F b)->H b=PU o->H' b=PU o)->(∀b o,H b=PU o->¬S b->¬S' b)->TrL K H S ds es r vs F->TrL K H' S' ds es r vs F
 |[],_,_,_,_,_,_,h=>by unfold TrL at h⊢;exact h
 |d::ds,es,r,vs,F,k1,k2,h=>by
  unfold TrL at h⊢;obtain⟨y,ys,F1,F2,e,hF,dj,h1,h2⟩:=h;exact⟨y,ys,F1,F2,e,hF,dj,Tr.go (λb o h=>k1 b o (h.imp id λz=>(hF b).mpr (.inl z))) k2 h1,TrL.go (λb o h=>k1 b o (h.imp id λz=>(hF b).mpr (.inr z))) k2 h2⟩
end
mutual
theorem Tr.rp:∀{d:D} {k:Ow} {v:V} {F:Pr},(∀b,S' b->S b/\¬F b)->Tr K H S d k v F->Rp K H S' d v
 |.non,_,_,_,k2,h=>by unfold Tr at h;exact h.2
 |.bl _,_,_,_,k2,h=>by unfold Tr at h;exact h.2
 |.int _,_,_,_,k2,h=>by unfold Tr at h;exact h.2
 |.str _,_,_,_,k2,h=>by unfold Tr at h;exact h.2
 |.scr ns,_,_,_,k2,h=>by unfold Tr at h;exact h.2.weak λb z=>(k2 b z).1
 |.nd hd ds,.fz,_,_,k2,h=>by unfold Tr at h;exact h.2.weak λb z=>(k2 b z).1
 |.nd hd ds,.own es r,v,F,k2,h=>by
  unfold Tr at h;unfold Rp;obtain⟨a,o,xs,F',e,g,q,n1,n2,hF,t⟩:=h;refine⟨a,o,xs,e,λz=>?_,g,q,TrL.rp (λb z=>⟨(k2 b z).1,λz2=>(k2 b z).2 ((hF b).mpr (.inr z2))⟩) t⟩
  cases hm:hd.mu with
  |true=>exact(k2 a z).2 ((hF a).mpr (.inl ⟨hm,rfl⟩))
  |false=>exact n2 hm (k2 a z).1
theorem TrL.rp:∀{ds:List D} {es:List Ow} {r:Ow} {vs:List V} {F:Pr},(∀b,S' b->S b/\¬F b)->TrL K H S ds es r vs F->RpL K H S' ds vs
 |[],_,_,_,_,_,h=>by unfold TrL at h;unfold RpL;exact h.1
 |d::ds,es,r,vs,F,k2,h=>by
  unfold TrL at h;obtain⟨y,ys,F1,F2,rfl,hF,dj,h1,h2⟩:=h;exact .cons (Tr.rp (λb z=>⟨(k2 b z).1,λz2=>(k2 b z).2 ((hF b).mpr (.inl z2))⟩) h1) (TrL.rp (λb z=>⟨(k2 b z).1,λz2=>(k2 b z).2 ((hF b).mpr (.inr z2))⟩) h2)
end
theorem Tr.rd(h:Tr K H S d k v F):Rp K H (λ_=>False) d v:=h.rp λb z=>z.elim
theorem Tr.fz(h:Rp K H S d v):Tr K H S d .fz v (λ_=>False):=by
 cases d<;>(unfold Tr;exact⟨λb z=>z,h⟩)
theorem Tr.fz_inv{F:Pr}(h:Tr K H S d .fz v F):(∀b,¬F b)/\Rp K H S d v:=by
 cases d<;>(unfold Tr at h;exact h)
mutual
theorem Tr.dom:∀{d:D} {k:Ow} {v:V} {F:Pr},Tr K H S d k v F->∀b,F b->∃o,H b=PU o/\∀xs,o≠.tup xs
 |.non,_,_,_,h=>by unfold Tr at h;exact λb z=>absurd z (h.1 b)
 |.bl _,_,_,_,h=>by unfold Tr at h;exact λb z=>absurd z (h.1 b)
 |.int _,_,_,_,h=>by unfold Tr at h;exact λb z=>absurd z (h.1 b)
 |.str _,_,_,_,h=>by unfold Tr at h;exact λb z=>absurd z (h.1 b)
 |.scr ns,_,_,_,h=>by unfold Tr at h;exact λb z=>absurd z (h.1 b)
 |.nd hd ds,.fz,_,_,h=>by unfold Tr at h;exact λb z=>absurd z (h.1 b)
 |.nd hd ds,.own es r,v,F,h=>by
  unfold Tr at h;obtain⟨a,o,xs,F',e,g,q,n1,n2,hF,t⟩:=h;intro b z;rcases(hF b).mp z with⟨hm,rfl⟩|z
  ·refine⟨o,g,λys he=>?_⟩;subst he
   cases hd with
   |tup=>exact absurd hm (by simp[Hd.mu])
   |lst=>cases q
   |dic t ks=>rcases q with⟨_,_,e,_⟩|⟨_,_,_,_,e,_⟩<;>cases e
   |obj c ns=>obtain⟨_,_,_,_,e,_⟩:=q;cases e
  ·exact TrL.dom t b z
theorem TrL.dom:∀{ds:List D} {es:List Ow} {r:Ow} {vs:List V} {F:Pr},TrL K H S ds es r vs F->∀b,F b->∃o,H b=PU o/\∀xs,o≠.tup xs
 |[],_,_,_,_,h=>by unfold TrL at h;exact λb z=>absurd z (h.2 b)
 |d::ds,es,r,vs,F,h=>by
  unfold TrL at h;obtain⟨y,ys,F1,F2,e,hF,dj,h1,h2⟩:=h;intro b z;rcases(hF b).mp z with z|z
  ·exact Tr.dom h1 b z
  ·exact TrL.dom h2 b z
end
end
end J
namespace J
open PySem PySem.Spec L2
noncomputable abbrev Gh:=P1->Option (Option Nat)
noncomputable def Sx(g:Gh)(F:Pr):Pr:=λb=>g b≠PV\/F b
noncomputable abbrev Sg(g:Gh):Pr:=λb=>g b≠PV
inductive Kd where
 |sh|fr (k:Ow)|bo (i:Nat) (k:Ow)
noncomputable def VR1(K:MW)(H:Hp)(g:Gh)(Ft:Pr):Kd->D->V->Pr->Prop
 |.sh,d,v,F=>(∀b,¬F b)/\Rp K H (Sx g Ft) d v
 |.fr k,d,v,F=>Tr K H (Sx g Ft) d k v F
 |.bo i k,d,v,F=>(∀b,¬F b)/\∃F0,(∀b,F0 b->g b=PU (PU i))/\Tr K H (Sx g Ft) d k v F0
noncomputable def VRL(K:MW)(H:Hp)(g:Gh)(Ft:Pr):List (Kd×D)->List V->Pr->Prop
 |[],vs,F=>vs=[]/\∀b,¬F b
 |(kd,d)::r,vs,F=>∃y ys F1 F2,vs=y::ys/\(∀b,F b↔F1 b\/F2 b)/\(∀b,F1 b->¬F2 b)/\VR1 K H g Ft kd d y F1/\VRL K H g Ft r ys F2
noncomputable def VR(K:MW)(g:Gh)(H0 H:Hp)(kd:Kd)(d:D)(v:V):Prop:=∃F:Pr,(∀b,F b->H0 b=PV)/\VR1 K H g F kd d v F
noncomputable def VRs(K:MW)(g:Gh)(H0 H:Hp)(kds:List (Kd×D))(vs:List V):Prop:=∃F:Pr,(∀b,F b->H0 b=PV)/\VRL K H g F kds vs F
section
variable {K:MW} {H H' H0 H1:Hp} {g:Gh} {Ft Ft' F:Pr}
theorem VR1.go(s:Same H H')(k2:∀b o,H b=PU o->Ft' b->Ft b)(h:VR1 K H g Ft kd d v F):VR1 K H' g Ft' kd d v F:=by
 have k3:∀b o,H b=PU o->¬Sx g Ft b->¬Sx g Ft' b:=λb o e n z=>n (z.imp id (k2 b o e))
 cases kd with
 |sh=>exact⟨h.1,h.2.go λb o n e=>⟨s b o e,k3 b o e n⟩⟩
 |fr k=>exact Tr.go (λb o _ e=>s b o e) k3 h
 |bo i k=>obtain⟨h1,F0,h2,h3⟩:=h;exact⟨h1,F0,h2,Tr.go (λb o _ e=>s b o e) k3 h3⟩
theorem VR1.dom(h:VR1 K H g Ft kd d v F):∀b,F b->∃o,H b=PU o/\∀xs,o≠.tup xs:=by
 cases kd with
 |sh=>exact λb z=>absurd z (h.1 b)
 |fr k=>exact Tr.dom h
 |bo i k=>exact λb z=>absurd z (h.1 b)
theorem VRL.dom:∀{kds:List (Kd×D)} {vs:List V} {F:Pr},VRL K H g Ft kds vs F->∀b,F b->∃o,H b=PU o/\∀xs,o≠.tup xs
 |[],_,_,h=>λb z=>absurd z (h.2 b)
 |(kd,d)::r,_,_,h=>by
  obtain⟨y,ys,F1,F2,e,hF,dj,h1,h2⟩:=h;intro b z;rcases(hF b).mp z with z|z
  ·exact h1.dom b z
  ·exact VRL.dom h2 b z
theorem VR.same(s:Same H H')(h:VR K g H0 H kd d v):VR K g H0 H' kd d v:=
 let ⟨F,h1,h2⟩:=h;⟨F,h1,h2.go s λ_ _ _ z=>z⟩
theorem VR.older(s:Same H0 H1)(h:VR K g H1 H kd d v):VR K g H0 H kd d v:=
 let ⟨F,h1,h2⟩:=h;⟨F,λb z=>s.free (h1 b z),h2⟩
theorem VR1.rd(h:VR1 K H g Ft kd d v F):Rp K H (λ_=>False) d v:=by
 cases kd with
 |sh=>exact h.2.weak λb z=>z.elim
 |fr k=>exact Tr.rd h
 |bo i k=>obtain⟨_,F0,_,h3⟩:=h;exact h3.rd
theorem VR.rd(h:VR K g H0 H kd d v):Rp K H (λ_=>False) d v:=let ⟨F,h1,h2⟩:=h;h2.rd
theorem VRL.rd:∀{kds:List (Kd×D)} {vs:List V} {F:Pr},VRL K H g Ft kds vs F->RpL K H (λ_=>False) (kds.map (·.2)) vs
 |[],_,_,h=>by rw[h.1];exact .nil
 |(kd,d)::r,_,_,h=>by
  obtain⟨y,ys,F1,F2,rfl,hF,dj,h1,h2⟩:=h;exact .cons h1.rd (VRL.rd h2)
noncomputable def oy:Kd->D->Bool
 |.bo _ _,d=>qC d
 |_,_=>PX
theorem MuOk.same(m:MuOk H S)(s:Same H H'):MuOk H' S:=λa z=>let ⟨o,e,n⟩:=m a z;⟨o,s a o e,n⟩
theorem VR1.sh{S:Pr}(ok:oy kd d=PX)(m:MuOk H S)(hS:∀b,S b->(g b≠PV\/Ft b)/\¬F b)(h:VR1 K H g Ft kd d v F):Rp K H S d v:=by
 cases kd with
 |sh=>exact h.2.weak λb z=>(hS b z).1
 |fr k=>exact Tr.rp (λb z=>⟨(hS b z).1,(hS b z).2⟩) h
 |bo i k=>obtain⟨_,F0,h2,h3⟩:=h;exact h3.rd.im m ok
theorem VR.sh(ok:oy kd d=PX)(m:MuOk H0 (Sg g))(s:Same H0 H)(h:VR K g H0 H kd d v):Rp K H (Sg g) d v:=by
 obtain⟨F,h1,h2⟩:=h;refine h2.sh ok (m.same s) λb z=>⟨.inl z,λz2=>?_⟩;obtain⟨o,e,_⟩:=m b z;rw[h1 b z2] at e;cases e
theorem VRL.sh{S:Pr}(m:MuOk H S):∀{kds:List (Kd×D)} {vs:List V} {F:Pr},(kds.all λp=>oy p.1 p.2)=PX->(∀b,S b->(g b≠PV\/Ft b)/\¬F b)->VRL K H g Ft kds vs F->RpL K H S (kds.map (·.2)) vs
 |[],_,_,_,_,h=>by rw[h.1];exact .nil
 |(kd,d)::r,_,F,ok,hS,h=>by
  obtain⟨y,ys,F1,F2,rfl,hF,dj,h1,h2⟩:=h;rw[N9,MX] at ok;exact .cons (h1.sh ok.1 m λb z=>⟨(hS b z).1,λz2=>(hS b z).2 ((hF b).mpr (.inl z2))⟩) (VRL.sh m ok.2 (λb z=>⟨(hS b z).1,λz2=>(hS b z).2 ((hF b).mpr (.inr z2))⟩) h2)
theorem VRs.sh{kds:List (Kd×D)}(ok:(kds.all λp=>oy p.1 p.2)=PX)(m:MuOk H0 (Sg g))(s:Same H0 H)(h:VRs K g H0 H kds vs):RpL K H (Sg g) (kds.map (·.2)) vs:=by
 obtain⟨F,h1,h2⟩:=h;refine h2.sh (m.same s) ok λb z=>⟨.inl z,λz2=>?_⟩;obtain⟨o,e,_⟩:=m b z;rw[h1 b z2] at e;cases e
theorem VRs.rd{kds:List (Kd×D)}(h:VRs K g H0 H kds vs):RpL K H (λ_=>False) (kds.map (·.2)) vs:=let ⟨F,h1,h2⟩:=h;h2.rd
theorem VRs.nil:VRs K g H0 H [] []:=⟨λ_=>False,λb z=>z.elim,rfl,λb z=>z⟩
open Classical in
noncomputable def Gh.plus(g:Gh)(F:Pr):Gh:=λb=>if F b then PU PV else g b
theorem ar(b:P1):Sg (g.plus F) b↔Sg g b\/F b:=by
 unfold Gh.plus Sg;by_cases h:F b
 ·simp[h]
 ·simp[h]
theorem bM{i:Nat}(h:g.plus F b=PU (PU i)):g b=PU (PU i):=by
 unfold Gh.plus at h;split at h
 ·cases h
 ·exact h
theorem cx{i:Nat}(h:g b=PU (PU i))(n:¬F b):g.plus F b=PU (PU i):=by
 unfold Gh.plus;rw[if_neg n];exact h
theorem VR1.unplus{F1:Pr}(h:VR1 K H (g.plus F1) Ft kd d v F):VR1 K H g (λb=>F1 b\/Ft b) kd d v F:=by
 have k3:∀b o,H b=PU o->¬Sx (g.plus F1) Ft b->¬Sx g (λb=>F1 b\/Ft b) b:=λb o e n z=>n (z.elim (λz=>.inl ((ar b).mpr (.inl z))) λz=>z.elim (λz=>.inl ((ar b).mpr (.inr z))) .inr)
 cases kd with
 |sh=>exact⟨h.1,h.2.go λb o n e=>⟨e,k3 b o e n⟩⟩
 |fr k=>exact Tr.go (λb o _ e=>e) k3 h
 |bo i k=>obtain⟨h1,F0,h2,h3⟩:=h;exact⟨h1,F0,λb z=>bM (h2 b z),Tr.go (λb o _ e=>e) k3 h3⟩
theorem VRL.unplus{F1:Pr}:∀{kds:List (Kd×D)} {vs:List V} {F:Pr},VRL K H (g.plus F1) Ft kds vs F->VRL K H g (λb=>F1 b\/Ft b) kds vs F
 |[],_,_,h=>h
 |(kd,d)::r,_,_,h=>by
  obtain⟨y,ys,F1,F2,e,hF,dj,h1,h2⟩:=h;exact⟨y,ys,F1,F2,e,hF,dj,h1.unplus,VRL.unplus h2⟩
theorem VRs.cons{kd:Kd}{d:D}{v:V}{kds:List (Kd×D)}{vs:List V}{F1:Pr}(s:Same H0 H)(s1:Same H H')(a1:∀b,F1 b->H0 b=PV)(a2:VR1 K H g F1 kd d v F1)(h2:VRs K (g.plus F1) H H' kds vs):VRs K g H0 H' ((kd,d)::kds) (v::vs):=by
 obtain⟨F2,b1,b2⟩:=h2;have dd:=a2.dom;refine⟨λb=>F1 b\/F2 b,λb z=>z.elim (a1 b) λz=>s.free (b1 b z),v,vs,F1,F2,rfl,λb=>Iff.rfl,λb z1 z2=>?_,a2.go s1 λb o e z=>z.elim id λz=>?_,b2.unplus⟩
 ·obtain⟨o,e,_⟩:=dd b z1;rw[b1 b z2] at e;cases e
 ·rw[b1 b z] at e;cases e
theorem VRs.one(h:VRs K g H0 H [(kd,d)] vs):∃v,vs=[v]/\VR K g H0 H kd d v:=by
 obtain⟨F,h1,y,ys,F1,F2,rfl,hF,dj,h3,h4,h5⟩:=h;subst h4;have e:∀b,F b->F1 b:=λb z=>((hF b).mp z).elim id λz=>absurd z (h5 b);exact⟨y,rfl,F1,λb z=>h1 b ((hF b).mpr (.inl z)),h3.go (λ_ _ h=>h) λb _ _ z=>(hF b).mpr (.inl z)⟩
end
structure Sl where
 lk:Bool
 k:Ow
 d:D
noncomputable abbrev Ro:=List (Option Sl)
noncomputable def qD:Ow->Bool
 |.fz=>PX
 |_=>PY
noncomputable def uS(i:Nat)(s:Sl):Kd×D:=(if qD s.k then .sh else .bo i s.k,s.d)
structure SE(K:MW)(g:Gh)(ρ:Ro)(σ:St)(H:Hp):Prop where
 slot:∀(i:Nat) (s:Sl),ρ[i]?=PU (PU s)->∃v F,σ[i]?=PU (PU v)/\(∀b,F b->g b=PU (PU i))/\Tr K H (Sg g) s.d s.k v F
 mu:MuOk H (Sg g)
 len:ρ.length=σ.length
section
variable {K:MW} {H H' H0 H1:Hp} {g g':Gh} {ρ:Ro} {σ:St}
theorem SE.same(h:SE K g ρ σ H)(s:Same H H'):SE K g ρ σ H':=
 ⟨λi sl e=>let ⟨v,F,e1,e2,e3⟩:=h.slot i sl e;⟨v,F,e1,e2,e3.go (λb o _ e=>s b o e) λb o _ n=>n⟩,h.mu.same s,h.len⟩
theorem jH(h:qD k=PX):k=.fz:=by cases k with|fz=>rfl|own es r=>cases h
theorem SE.get(h:SE K g ρ σ H){i:Nat}{s:Sl}(e:ρ[i]?=PU (PU s)):∃v,σ[i]?=PU (PU v)/\VR K g H H (uS i s).1 (uS i s).2 v:=by
 obtain⟨v,F,e1,e2,e3⟩:=h.slot i s e;refine⟨v,e1,λ_=>False,λb z=>z.elim,?_⟩;have t:Tr K H (Sx g λ_=>False) s.d s.k v F:=e3.go (λ_ _ _ h=>h) λb o _ n z=>n (z.elim id λz=>z.elim);unfold uS
 cases hk:qD s.k with
 |true=>
  rw[jH hk] at t;exact⟨λb z=>z,t.fz_inv.2⟩
 |false=>exact⟨λb z=>z,F,e2,t⟩
theorem SE.plus{F:Pr}(h:SE K g ρ σ H)(s:Same H H')(hF:∀b,F b->H b=PV)(dd:∀b,F b->∃o,H' b=PU o/\∀xs,o≠.tup xs):SE K (g.plus F) ρ σ H':=by
 refine⟨λi sl e=>?_,λb z=>?_,h.len⟩
 ·obtain⟨v,F0,e1,e2,e3⟩:=h.slot i sl e;refine⟨v,F0,e1,λb z=>cx (e2 b z) λz2=>?_,e3.go (λb o _ e=>s b o e) λb o e n z=>?_⟩
  ·obtain⟨o,q,_⟩:=e3.dom b z;rw[hF b z2] at q;cases q
  ·rcases(ar b).mp z with z|z
   ·exact n z
   ·rw[hF b z] at e;cases e
 ·rcases(ar b).mp z with z|z
  ·exact h.mu.same s b z
  ·exact dd b z
end
section
variable (X:Cx)
noncomputable def wE(e:P0):TE:=λσ H Q=>∀pins s,Inv X pins σ H s->P4 (P5 X.prog X.w) X.A (eval e X.env) (EP X pins σ Q) X.xe s
noncomputable def wT(e:P0):TT:=λσ H Q=>∀pins s,Inv X pins σ H s->P4 (P5 X.prog X.w) X.A (isTrue e X.env (eval e X.env)) (TP X pins σ Q) X.xe s
noncomputable def wW(e:P0):TT:=λσ H Q=>∀whole pins s,Inv X pins σ H s->P4 (P5 X.prog X.w) X.A (isTrue e X.env whole) (TP X pins σ Q) X.xe s
noncomputable def wA(es:List P0):TA:=λσ H Q=>∀pos pins s,Inv X pins σ H s->P4 (P5 X.prog X.w) X.A (spliced (backTo pos (Qb es X.env))) (AP X pins σ Q) X.xe s
noncomputable def wG(tg:P0):TG:=λv σ H Q=>∀pins s u,Inv X pins σ H s->RelV v u->P4 (P5 X.prog X.w) X.A (assign tg X.env u) (λ_ s'=>∃σ' H',Inv X pins σ' H' s'/\Q σ' H') X.xe s
noncomputable def wI(tg iter:P0):TI:=λσ H R=>∀pins s,Inv X pins σ H s->P4 (P5 X.prog X.w) X.A (eval iter X.env) (λv s1=>P4 (P5 X.prog X.w) X.A (pyIter v) (J1 X pins σ tg R) X.xe s1) X.xe s
end
section
variable {X:Cx}
theorem aF:PE X e (wE X e):=λpins s σ H Q I h=>h pins s I
theorem fq:PT X e (wT X e):=λpins s σ H Q I h=>h pins s I
theorem zM:PW X e (wW X e):=λwh pins s σ H Q I h=>h wh pins s I
theorem ee:PA X es (wA X es):=λpos pins s σ H Q I h=>h pos pins s I
theorem w6:PI X tg iter (wI X tg iter):=λpins s σ H R I h=>h pins s I
theorem w8:PG X tg (wG X tg):=λpins s σ H v u Q I r h=>h pins s u I r
theorem aL{t:TE}(p:PE X e t){σ:St}{H:Hp}{Q:VK}(h:t σ H Q):wE X e σ H Q:=λpins s I=>p pins s σ H Q I h
theorem sw{t:TT}(p:PT X e t){σ:St}{H:Hp}{Q:Bool->Hp->Prop}(h:t σ H Q):wT X e σ H Q:=λpins s I=>p pins s σ H Q I h
theorem lY{t:TT}(p:PW X e t){σ:St}{H:Hp}{Q:Bool->Hp->Prop}(h:t σ H Q):wW X e σ H Q:=λwh pins s I=>p wh pins s σ H Q I h
theorem kB{t:TA}(p:PA X es t){σ:St}{H:Hp}{Q:List V->Hp->Prop}(h:t σ H Q):wA X es σ H Q:=λpos pins s I=>p pos pins s σ H Q I h
theorem jq{t:TI}(p:PI X tg iter t){σ:St}{H:Hp}{R:It->Hp->Prop}(h:t σ H R):wI X tg iter σ H R:=λpins s I=>p pins s σ H R I h
theorem sA{t:TG}(p:PG X tg t){v:V}{σ:St}{H:Hp}{Q:St->Hp->Prop}(h:t v σ H Q):wG X tg v σ H Q:=λpins s u I r=>p pins s σ H v u Q I r h
end
noncomputable def SndE(X:Cx)(f:Ro->Option (Kd×D))(e:P0):Prop:=∀ρ kd d,f ρ=PU (kd,d)->∀g σ H Q,SE X.K g ρ σ H->(∀v H',Same H H'->VR X.K g H H' kd d v->Q v H')->wE X e σ H Q
noncomputable def SndT(X:Cx)(f:Ro->Option Bool)(e:P0):Prop:=∀ρ b,f ρ=PU b->∀g σ H Q,SE X.K g ρ σ H->(∀H',Same H H'->Q b H')->wT X e σ H Q
noncomputable def fF(X:Cx)(f:Ro->Option (List (Kd×D)))(es:List P0):Prop:=∀ρ kds,f ρ=PU kds->∀g σ H Q,SE X.K g ρ σ H->(∀vs H',Same H H'->VRs X.K g H H' kds vs->Q vs H')->wA X es σ H Q
end J
namespace G
open PySem PySem.Spec L2 PyProof.Rows
noncomputable def jr(n:Nat)(lo st:Option Int):List Nat:=sliceRange (sliceBounds lo PV st n).1 (sliceBounds lo PV st n).2.1 (sliceBounds lo PV st n).2.2
noncomputable def cJ{α:Type}(xs:List α)(lo st:Option Int):List α:=(jr xs.length lo st).filterMap λi=>xs[i]?
theorem lZ{xs:List V}{us:List PZ}(r:Vals xs us):∀is:List Nat,Vals (is.filterMap λi=>xs[i]?) (is.filterMap λi=>us[i]?)
 |[]=>.nil
 |i::is=>by
  have ih:=lZ r is;by_cases h:i<xs.length
  ·have h':i<us.length:=by rw[<- r.length];exact h
   obtain⟨u,e1,e2⟩:=r.get (Na h);rw[Nr,Nr,Na h,e1];exact .cons e2 ih
  ·rw[Nr,Nr,NL (by lia),NL (by rw[<- r.length];lia)];exact ih
section
variable {X:Cx}
noncomputable def Km(te:TE)(tl:TO)(tst:TE):TE:=λσ H Q=>te σ H λx H1=>tl σ H1 λl H2=>tst σ H2 λy H3=>∃a xs k,x=.ref a/\y=.int k/\k≠0/\SqL X.K H3 a xs/\∀p,H3 p=PV->Q (.ref p) (upd H3 p (.lst (cJ xs l (PU k))))
theorem DH{e st:P0}{lo:Option P0}{te tst:TE}{tl:TO}{p2 pos:Pos}(he:PE X e te)(hl:PO X lo tl)(hst:PE X st tst):PE X (.Subscript e (.Slice lo PV (PU st) p2) pos) (Km (X:=X) te tl tst):=by
 intro pins s σ H Q I h;refine Subscript_ (bx (he pins s σ H _ I h) λv s1 ⟨x,H1,I1,r1,q1⟩=>?_);refine wpAny_Slice (bx (hl pins s1 σ H1 _ I1 q1) λvl s2 ⟨l,H2,I2,pl,q2⟩=>?_);rw[evalPart_none];refine P7 ?_;refine bx (hst pins s2 σ H2 _ I2 q2) λvst s3 ⟨y,H3,I3,r3,q3⟩=>?_;obtain⟨a,xs,k,rfl,rfl,hk,hx,q⟩:=q3;obtain⟨t,rfl⟩:=r3;cases r1;have I4:Inv X pins σ H3 { s3 with heap:=s3.heap.push { cls:=.type "slice",data:=.fields #[vl,.none,.int k t] } }:=I3.kept (t':=s3.toks) λb ob q=>Nb _ q;obtain⟨its,r,ht,hz⟩:=I4.list hx;show P4 (P5 X.prog X.w) X.A (subscriptTail e (.Slice lo PV (PU st) p2) (.ref a) (.ref s3.heap.objs.size)) (EP X pins σ Q) X.xe { s3 with heap:=s3.heap.push { cls:=.type "slice",data:=.fields #[vl,.none,.int k t] } };refine tail_any (ops:=[.ref a,.ref s3.heap.objs.size]) ht.isList.typeIs slot_list_getitem.lookup ?_ (by with_unfolding_all rfl);refine wpAny_getItem_list_slice ht.isList (Heap.IsSliceOf.new ..) pl .none (.int _ _) (by simpa using hk) ?_ (by rw[Nc,<- r.length];exact hz)
 have e1:slicePick its.toArray l PV (PU k)=(cJ its l (PU k)).toArray:=by
  unfold slicePick cJ jr;simp
 rw[e1];have hsz:=slicePick_size_le its.toArray l PV (PU k);rw[e1,Nc,Nc] at hsz
 have rv:Vals (cJ xs l (PU k)) (cJ its l (PU k)):=by
  unfold cJ;rw[r.length];exact lZ r _
 refine⟨.ref _,_,I4.laid (t':=s3.toks) (o:=.lst (cJ xs l (PU k))) (λb ob q=>Nb _ q) (M8 _) ?_,rfl,q _ (I4.hok.fresh (M8 _))⟩;exact⟨by rw[rv.length];exact Nq hsz (by rw[<- r.length];exact hz),_,0,rv,Nt _ rfl⟩
end
end G
namespace G
open PySem PySem.Spec PyProof.Rows L2
section
variable {X:Cx} {tg:P0}
end
noncomputable abbrev Kk:=L2.aS
instance:LawfulBEq Kk where
 eq_of_beq:=λ{a b} h=>by
  cases a<;>cases b
  ·have h:_==_:=h;exact congrArg Sum.inl (eq_of_beq h)
  ·cases h
  ·cases h
  ·exact congrArg Sum.inr (eq_of_beq (show _==_ from h))
 rfl:=λ{a}=>by
  cases a
  ·exact beq_self_eq_true (α:=Int) _
  ·exact beq_self_eq_true (α:=Str) _
section
variable {prog:P6} {w:P8} {A:Qc} {R:Result->P2->Prop} {J:P1} {fp wr:List P1} {GG:Array GenState->Array GenState->Prop} {n:Nat} {P:Nat->PZ->Prop} {St:Nat->P2->Prop}
end
section
variable {prog:P6} {w:P8} {A:Qc} {E:PZ->P2->Prop} {s:P2}
end
section
variable {X:Cx}
end
end G
set_option exponentiation.threshold 5000
namespace J
open PySem PySem.Spec L2
mutual
noncomputable def py:D->PyData
 |.non=>.none
 |.bl b=>.bool b
 |.int i=>.int i
 |.str x=>.str x
 |.scr ns=>.list (ns.map .int)
 |.nd .lst ds=>.list (oW ds)
 |.nd .tup ds=>.tuple (oW ds)
 |.nd (.dic _ _) _=>.dict []
 |.nd (.obj _ _) _=>.none
noncomputable def oW:List D->List PyData
 |[]=>[]
 |d::ds=>py d::oW ds
end
mutual
noncomputable def cj:Nat->D->Bool
 |_,.non=>PX
 |_,.bl _=>PX
 |_,.int _=>PX
 |_,.str x=>PyData.strOk x
 |n,.scr _=>decide (1<=n)
 |n,.nd .lst ds=>decide (1<=n)&&nj (n-1) ds
 |n,.nd .tup ds=>decide (1<=n)&&nj (n-1) ds
 |_,.nd (.dic _ _) _=>PY
 |_,.nd (.obj _ _) _=>PY
noncomputable def nj:Nat->List D->Bool
 |_,[]=>PX
 |n,d::ds=>cj n d&&nj n ds
end
section
variable {X:Cx} {pins:List (P1×Obj)} {σ:L2.St} {H:Hp} {s:P2} {S:Pr}
theorem gm:∀{ns:List Int} {us:List PZ},Vals (ns.map V.int) us->∃as,ReadsAll h us (ns.map .int) as
 |[],_,.nil=>⟨_,.nil⟩
 |n::ns,_,.cons r t=>by
  obtain⟨t',e⟩:=(show ∃t,_=Value.int n t from r);subst e;obtain⟨as,q⟩:=gm t;exact⟨_,.cons (.int n t') q⟩
theorem jI:∀ns:List Int,PyData.canLayAll0 (ns.map .int)=PX/\PyData.depthAll (ns.map .int)=0
 |[]=>by simp[PyData.canLayAll0,PyData.depthAll]
 |n::ns=>by
  have:=jI ns;simp[PyData.canLayAll0,PyData.depthAll,PyData.canLay0,PyData.depth,this]
mutual
theorem fG(I:Inv X pins σ H s):∀{d:D} {n:Nat} {v:V} {u:PZ},cj n d=PX->Rp X.K H S d v->RelV v u->(∃as,Reads s.heap u (py d) as)/\(py d).canLay0=PX/\(py d).depth<=n
 |.non,n,v,u,_,r,e=>by unfold Rp at r;subst r;cases e;simp only[py];exact⟨⟨_,.none⟩,by simp[PyData.canLay0],by simp[PyData.depth]⟩
 |.bl b,n,v,u,_,r,e=>by unfold Rp at r;subst r;cases e;simp only[py];exact⟨⟨_,.bool b⟩,by simp[PyData.canLay0],by simp[PyData.depth]⟩
 |.int i,n,v,u,_,r,e=>by unfold Rp at r;subst r;obtain⟨t,rfl⟩:=e;simp only[py];exact⟨⟨_,.int i t⟩,by simp[PyData.canLay0],by simp[PyData.depth]⟩
 |.str x,n,v,u,h,r,e=>by unfold Rp at r;subst r;obtain⟨t,rfl⟩:=e;simp only[py];exact⟨⟨_,.str x t⟩,by simpa[PyData.canLay0,cj] using h,by simp[PyData.depth]⟩
 |.scr ns,n,v,u,h,r,e=>by
  unfold Rp at r;obtain⟨a,rfl,r⟩:=r;cases e;have q:SqL X.K H a (ns.map V.int):=r.elim (λr=>.inl r.2) .inr;obtain⟨its,vs,⟨o,m,g1,g2,g3,g4⟩,z⟩:=I.list q;obtain⟨as,ra⟩:=gm (h:=s.heap) vs;simp only[py];have hn:1<=n:=by simpa[cj] using h
  exact⟨⟨_,.list g1 g2 g4 (by simpa using ra)⟩,by simpa[PyData.canLay0] using(jI ns).1,by simp[PyData.depth,(jI ns).2,hn]⟩
 |.nd .lst ds,n,v,u,h,r,e=>by
  unfold Rp at r;obtain⟨a,o,xs,rfl,na,g,q,rl⟩:=r;cases e;have q:o=.lst xs:=q;subst q;obtain⟨its,vs,⟨o,m,g1,g2,g3,g4⟩,z⟩:=I.list (SqL.of g);simp only[cj,MX,decide_eq_true_eq] at h;obtain⟨⟨as,ra⟩,l1,l2⟩:=i0 I h.2 rl vs;simp only[py];exact⟨⟨_,.list g1 g2 g4 (by simpa using ra)⟩,by simpa[PyData.canLay0] using l1,by simp only[PyData.depth];lia⟩
 |.nd .tup ds,n,v,u,h,r,e=>by
  unfold Rp at r;obtain⟨a,o,xs,rfl,na,g,q,rl⟩:=r;cases e;have q:o=.tup xs:=q;subst q;obtain⟨its,vs,⟨o,g1,g2,m,g4⟩,z⟩:=I.tuple (SqT.of g);simp only[cj,MX,decide_eq_true_eq] at h;obtain⟨⟨as,ra⟩,l1,l2⟩:=i0 I h.2 rl vs;simp only[py];exact⟨⟨_,.tuple g1 g2 g4 (by simpa using ra)⟩,by simpa[PyData.canLay0] using l1,by simp only[PyData.depth];lia⟩
 |.nd (.dic _ _) _,n,v,u,h,r,e=>by simp[cj] at h
 |.nd (.obj _ _) _,n,v,u,h,r,e=>by simp[cj] at h
theorem i0(I:Inv X pins σ H s):∀{ds:List D} {n:Nat} {xs:List V} {us:List PZ},nj n ds=PX->RpL X.K H S ds xs->Vals xs us->(∃as,ReadsAll s.heap us (oW ds) as)/\PyData.canLayAll0 (oW ds)=PX/\PyData.depthAll (oW ds)<=n
 |[],n,xs,us,_,r,e=>by rw[r.nil_inv] at e;cases e;simp only[oW];exact⟨⟨_,.nil⟩,by simp[PyData.canLayAll0],by simp[PyData.depthAll]⟩
 |d::ds,n,xs,us,h,r,e=>by
  obtain⟨y,ys,rfl,r1,r2⟩:=r.cons_inv;simp only[nj,MX] at h
  cases e with
  |cons e1 e2=>
   obtain⟨⟨as,ra⟩,l1,l2⟩:=fG I h.1 r1 e1;obtain⟨⟨bs,rb⟩,m1,m2⟩:=i0 I h.2 r2 e2;simp only[oW];exact⟨⟨_,.cons ra rb⟩,by simp[PyData.canLayAll0,l1,m1],by simp only[PyData.depthAll];lia⟩
end
end
noncomputable def jJ(x y:D):Bool:=PyData.eqv (py x) (py y)
noncomputable def lim:Nat:=2^4000
noncomputable abbrev bQ:Ow:=.own [] .fz
noncomputable def l0:Ow->Bool
 |.fz=>PX
 |.own es r=>es.all qD&&qD r
noncomputable def jK:Kd->List D->Bool
 |.bo _ k,ds=>l0 k||zL ds
 |_,_=>PX
noncomputable abbrev KD:=Kd×D
noncomputable def oX:Qd->Int->Int->Option Int
 |.Add,i,j=>PU (i+j)
 |.Sub,i,j=>PU (i-j)
 |.Mult,i,j=>if i.natAbs<lim/\j.natAbs<lim then PU (i*j) else PV
 |.FloorDiv,i,j=>if 0<j/\j.natAbs<lim then PU (i / j) else PV
 |.Mod,i,j=>if 0<j then PU (i%j) else PV
 |.LShift,i,j=>if 0<=j/\j<=1000000/\i.natAbs<lim then PU (i*2^j.toNat) else PV
 |.Pow,i,j=>if 0<=j/\j<=1000000/\i.natAbs<2^64 then PU (i^j.toNat) else PV
 |.RShift,i,j=>if 0<=j then PU (i / 2^j.toNat) else PV
 |.BitAnd,i,j=>PU (Builtin.bitAnd i j)
 |.BitOr,i,j=>PU (Builtin.bitOr i j)
 |.BitXor,i,j=>PU (Builtin.bitXor i j)
 |_,_,_=>PV
noncomputable def G0(op:Qd)(k:Kd)(xs:List D)(y:KD):Option KD:=match op with
 |.Add=>(match y.2 with
  |.nd hd ys=>(match hd with
   |.lst=>if jK k xs=PX/\jK y.1 ys=PX/\xs.length+ys.length<=100000 then PU (.fr bQ,.lst (xs++ys)) else PV
   |_=>PV)
  |_=>PV)
 |.Mult=>(match y.2 with
  |.int n=>if jK k xs=PX/\0<=n/\n<=100000/\xs.length*n.toNat<=100000 then PU (.fr bQ,.lst (M3 n.toNat xs).flatten) else PV
  |_=>PV)
 |_=>PV
noncomputable def G3(op:Qd)(k:Kd)(xs:List D)(y:KD):Option KD:=PV
noncomputable def G4(op:Qd)(i:Str)(y:D):Option KD:=PV
noncomputable def dZ(op:Qd)(x y:KD):Option KD:=match x.2 with
 |.int i=>(match y.2 with|.int j=>(match oX op i j with|some z=>PU (.sh,.int z)|none=>PV)|_=>PV)
 |.nd hd xs=>(match hd with|.lst=>G0 op x.1 xs y|.tup=>G3 op x.1 xs y|_=>PV)
 |.str i=>G4 op i y.2
 |_=>PV
theorem fX{i j z:Int}(h:oX op i j=PU z):dZ op (k,.int i) (k',.int j)=PU (.sh,.int z):=by
 show(match oX op i j with|some z=>PU (Kd.sh,D.int z)|none=>PV)=_
 rw[h]
theorem w9{p:Prop}[Decidable p]{α:Type}{a b:α}(h:(if p then PU a else PV)=PU b):p/\b=a:=by
 by_cases hp:p
 ·rw[if_pos hp] at h;cases h;exact⟨hp,rfl⟩
 ·rw[if_neg hp] at h;cases h
theorem bd{n:Nat}(h:n<=100000):n<=sizeLine:=Nq h (by decide)
section
variable {K:MW} {H H' H0:Hp} {S:Pr} {g:Gh}
theorem Rp.int{i:Int}(h:Rp K H S (.int i) v):v=.int i:=by unfold Rp at h;exact h
theorem Rp.bl{i:Bool}(h:Rp K H S (.bl i) v):v=.bl i:=by unfold Rp at h;exact h
theorem Rp.str{i:Str}(h:Rp K H S (.str i) v):v=.str i:=by unfold Rp at h;exact h
theorem Rp.non(h:Rp K H S .non v):v=.non:=by unfold Rp at h;exact h
theorem Rp.nd(h:Rp K H S (.nd hd ds) v):∃a o xs,v=.ref a/\¬S a/\H a=PU o/\fD K o hd xs/\RpL K H S ds xs:=by unfold Rp at h;exact h
theorem Rp.scr{ns:List Int}(h:Rp K H S (.scr ns) v):∃a,v=.ref a/\SqL K H a (ns.map V.int):=by
 unfold Rp at h;obtain⟨a,e,h⟩:=h;exact⟨a,e,h.elim (λh=>.inl h.2) .inr⟩
theorem nk{i:Int}:VR K g H0 H .sh (.int i) (.int i):=⟨λ_=>False,λ_ z=>z.elim,λ_ z=>z,by unfold Rp;rfl⟩
theorem Kn{i:Bool}:VR K g H0 H .sh (.bl i) (.bl i):=⟨λ_=>False,λ_ z=>z.elim,λ_ z=>z,by unfold Rp;rfl⟩
theorem Ko{i:Str}:VR K g H0 H .sh (.str i) (.str i):=⟨λ_=>False,λ_ z=>z.elim,λ_ z=>z,by unfold Rp;rfl⟩
theorem DI:VR K g H0 H .sh .non .non:=⟨λ_=>False,λ_ z=>z.elim,λ_ z=>z,by unfold Rp;rfl⟩
theorem G5(h:Rp K H (Sg g) d v):VR K g H0 H .sh d v:=⟨λ_=>False,λ_ z=>z.elim,λ_ z=>z,h.weak λb z=>z.elim id λz=>z.elim⟩
theorem ao(hp:H p=PV):Same H (upd H p o):=λb u q=>by rw[ah (av q hp)];exact q
theorem TrL.ofFz:∀{ds:List D} {xs:List V},RpL K H S ds xs->TrL K H S ds [] .fz xs λ_=>False
 |[],_,h=>by unfold TrL;exact⟨h.nil_inv,λ_ z=>z⟩
 |d::ds,_,h=>by
  obtain⟨y,ys,rfl,r,t⟩:=h.cons_inv;unfold TrL;exact⟨y,ys,_,_,rfl,λb=>⟨.inl,λz=>z.elim id id⟩,λ_ z=>z.elim,Tr.fz r,TrL.ofFz t⟩
theorem uT(hp:H p=PV)(r:RpL K H (Sg g) ds xs):VR K g H (upd H p (.lst xs)) (.fr bQ) (.lst ds) (.ref p):=by
 refine⟨λb=>b=p,λb z=>z▸hp,?_⟩;show Tr K _ _ _ _ _ _;unfold Tr
 refine⟨p,_,xs,λ_=>False,rfl,am,rfl,λ_ z=>z,(λh=>nomatch h),λb=>⟨λz=>.inl ⟨rfl,z⟩,λz=>z.elim (λz=>z.2) λz=>z.elim⟩,.ofFz (r.go λb o n e=>⟨ao hp b o e,λz=>z.elim n λz=>?_⟩)⟩
 subst z;rw[hp] at e;cases e
theorem DJ(m:MuOk H (Sg g))(hp:H p=PV)(r:RpL K H (Sg g) ds xs):VR K g H (upd H p (.tup xs)) .sh (.tup ds) (.ref p):=by
 refine G5 ?_;unfold Rp;refine⟨p,_,xs,rfl,λz=>?_,am,rfl,r.same (ao hp)⟩;obtain⟨o,e,_⟩:=m p z;rw[hp] at e;cases e
theorem sB{es:List Ow}(h:l0 (.own es r)=PX):(∀e∈es,e=.fz)/\r=.fz:=by
 simp only[l0,MX,Ny] at h;exact⟨λe he=>jH (h.1 e he),jH h.2⟩
theorem TrL.flat:∀{ds:List D} {es:List Ow} {xs:List V} {F:Pr},(∀e∈es,e=.fz)->TrL K H S ds es .fz xs F->(∀b,¬F b)/\RpL K H S ds xs
 |[],_,_,_,_,h=>by unfold TrL at h;exact⟨h.2,by rw[h.1];exact .nil⟩
 |d::ds,es,_,_,he,h=>by
  unfold TrL at h;obtain⟨y,ys,F1,F2,rfl,hF,dj,h1,h2⟩:=h
  have e:es.headD .fz=.fz:=by
   cases es with
   |nil=>rfl
   |cons a r=>exact he a (.head _)
  rw[e] at h1;obtain⟨n1,r1⟩:=h1.fz_inv
  obtain⟨n2,r2⟩:=TrL.flat (λe q=>he e (by cases es with|nil=>cases q|cons a r=>exact .tail _ q)) h2
  exact⟨λb z=>((hF b).mp z).elim (n1 b) (n2 b),.cons r1 r2⟩
theorem VR.items(ok:jK kd ds=PX)(m:MuOk H0 (Sg g))(s:Same H0 H)(h:VR K g H0 H kd (.nd hd ds) v):∃a o xs,v=.ref a/\H a=PU o/\fD K o hd xs/\RpL K H (Sg g) ds xs:=by
 have ns:∀{kd':Kd},oy kd' (.nd hd ds)=PX->VR K g H0 H kd' (.nd hd ds) v->∃a o xs,v=.ref a/\H a=PU o/\fD K o hd xs/\RpL K H (Sg g) ds xs:=λok h=>by
  obtain⟨a,o,xs,e,_,q1,q2,q3⟩:=(h.sh ok m s).nd;exact⟨a,o,xs,e,q1,q2,q3⟩
 cases kd with
 |sh=>exact ns rfl h
 |fr k=>exact ns rfl h
 |bo i k=>
  simp only[jK,Oa] at ok;rcases ok with ok|ok
  ·obtain⟨F,h1,h2,F0,h3,h4⟩:=h
   cases k with
   |fz=>
    obtain⟨_,r⟩:=h4.fz_inv;obtain⟨a,o,xs,e,_,q1,q2,q3⟩:=r.nd;exact⟨a,o,xs,e,q1,q2,q3.weak λb z=>.inl z⟩
   |own es r=>
    obtain⟨he,rfl⟩:=sB ok;unfold Tr at h4;obtain⟨a,o,xs,F',e,q1,q2,n1,n2,hF,t⟩:=h4;exact⟨a,o,xs,e,q1,q2,(t.flat he).2.weak λb z=>.inl z⟩
  ·obtain⟨a,o,xs,e,_,q1,q2,q3⟩:=h.rd.nd;exact⟨a,o,xs,e,q1,q2,q3.im (m.same s) ok⟩
end
noncomputable def Kp(K:MW)(op:Qd):R2:=λx y H Q=>∃g H0 kx ky kd d,MuOk H0 (Sg g)/\Same H0 H/\VR K g H0 H kx.1 kx.2 x/\VR K g H0 H ky.1 ky.2 y/\dZ op kx ky=PU (kd,d)/\∀v H',Same H H'->VR K g H H' kd d v->Q v H'
theorem G6{i j:Int}(h:i.natAbs<lim/\j.natAbs<lim):IntMulOk i j:=
 IntMulOk.of_bits (Nq (PyProof.Rows.intBits_le (k:=4000) h.1) (by decide)) (Nq (PyProof.Rows.intBits_le (k:=4000) h.2) (by decide))
theorem zN{j:Int}(h:j.natAbs<lim):j.natAbs.log2<9000:=by
 by_cases z:j.natAbs=0
 ·rw[z];decide
 ·exact M6 ((Nat.log2_lt z).mpr h) (by decide)
theorem zO:iU X (binaryOp .Mult) (rI (λi j=>i.natAbs<lim/\j.natAbs<lim) λi j=>.int (i*j)):=FX λ_ _ _ _ _ _ _ hc q=>PyProof.Rows.mul_int q (G6 hc)
theorem xa:iU X (binaryOp .FloorDiv) (rI (λi j=>0<j/\j.natAbs<lim) λi j=>.int (i / j)):=FX λi j _ _ _ _ _ hc q=>by
 have h1:(0:Int)<j:=hc.1;exact PyProof.Rows.floordiv_int (by lia) (by rw[OT i (by lia)];exact q) (.inl (PyProof.noPylong_of_log2 (zN hc.2)))
theorem zP:iU X (binaryOp .LShift) (rI (λi j=>0<=j/\j<=1000000/\i.natAbs<lim) λi j=>.int (i*2^j.toNat)):=FX λi j _ _ _ _ _ hc q=>by
 have hb:=PyProof.Rows.intBits_le (k:=4000) hc.2.2;exact PyProof.Rows.lshift_int hc.1 (by have:=hc.2.1;lia) q
theorem xb{X:Cx}(op:Qd):iU X (binaryOp op) (Kp X.K op):=by
 intro pins s σ H x y v u Q I rx ry h;obtain⟨g,H0,⟨kx,dx⟩,⟨ky,dy⟩,kd,d,m,sm,tx,ty,hb,q⟩:=h;dsimp only at tx ty
 cases dx with
 |int i=>cases dy with
  |int j=>
   obtain⟨rfl,rfl⟩:x=.int i/\y=.int j:=⟨tx.rd.int,ty.rd.int⟩
   have hb:(match oX op i j with|some z=>PU (Kd.sh,D.int z)|none=>PV)=PU (kd,d):=hb
   cases hz:oX op i j with
   |none=>rw[hz] at hb;cases hb
   |some z=>
    rw[hz] at hb;cases hb;have q:Q (.int z) H:=q _ H (Same.refl H) nk
    cases op with
    |Add=>cases hz;exact Dh pins s σ H _ _ v u Q I rx ry ⟨_,_,rfl,rfl,q⟩
    |Sub=>cases hz;exact Di pins s σ H _ _ v u Q I rx ry ⟨_,_,rfl,rfl,q⟩
    |Mult=>obtain⟨hm,rfl⟩:=w9 (show(if _ then PU (i*j) else PV)=PU z from hz);exact zO pins s σ H _ _ v u Q I rx ry ⟨_,_,rfl,rfl,hm,q⟩
    |FloorDiv=>obtain⟨hm,rfl⟩:=w9 (show(if _ then PU (i / j) else PV)=PU z from hz);exact xa pins s σ H _ _ v u Q I rx ry ⟨_,_,rfl,rfl,hm,q⟩
    |Mod=>obtain⟨hm,rfl⟩:=w9 (show(if _ then PU (i%j) else PV)=PU z from hz);exact Dj pins s σ H _ _ v u Q I rx ry ⟨_,_,rfl,rfl,hm,q⟩
    |LShift=>obtain⟨hm,rfl⟩:=w9 (show(if _ then PU (i*2^j.toNat) else PV)=PU z from hz);exact zP pins s σ H _ _ v u Q I rx ry ⟨_,_,rfl,rfl,hm,q⟩
    |Pow=>obtain⟨hm,rfl⟩:=w9 (show(if _ then PU (i^j.toNat) else PV)=PU z from hz);exact Dk pins s σ H _ _ v u Q I rx ry ⟨_,_,rfl,rfl,hm,q⟩
    |RShift=>obtain⟨hm,rfl⟩:=w9 (show(if _ then PU (i / 2^j.toNat) else PV)=PU z from hz);exact Dl pins s σ H _ _ v u Q I rx ry ⟨_,_,rfl,rfl,hm,q⟩
    |BitAnd=>cases hz;exact Dm pins s σ H _ _ v u Q I rx ry ⟨_,_,rfl,rfl,q⟩
    |BitOr=>cases hz;exact GH pins s σ H _ _ v u Q I rx ry ⟨_,_,rfl,rfl,q⟩
    |BitXor=>cases hz;exact Do pins s σ H _ _ v u Q I rx ry ⟨_,_,rfl,rfl,q⟩
    |_=>cases hz
  |_=>cases hb
 |nd hd xs=>cases hd with
  |lst=>cases op with
   |Add=>cases dy with
    |nd hd' ys=>cases hd' with
     |lst=>
      obtain⟨hz,e⟩:=w9 (show(if _ then PU (Kd.fr bQ,D.lst (xs++ys)) else PV)=PU (kd,d) from hb)
      cases e;obtain⟨a,o,us,rfl,ga,qa,ra⟩:=tx.items hz.1 m sm;obtain⟨b,o',vs,rfl,gb,qb,rb⟩:=ty.items hz.2.1 m sm;cases(show o=_ from qa);cases(show o'=_ from qb);refine Dw pins s σ H _ _ v u Q I rx ry ⟨a,b,us,vs,rfl,rfl,ga,gb,by rw[ra.len,rb.len];exact bd hz.2.2,λp hp=>q _ _ (ao hp) (uT hp (ra.append rb))⟩
     |_=>cases hb
    |_=>cases hb
   |Mult=>cases dy with
    |int n=>
     obtain⟨hz,e⟩:=w9 (show(if _ then PU (Kd.fr bQ,D.lst (M3 n.toNat xs).flatten) else PV)=PU (kd,d) from hb)
     cases e;obtain⟨a,o,us,rfl,ga,qa,ra⟩:=tx.items hz.1 m sm;cases(show o=_ from qa);obtain rfl:=ty.rd.int;refine Dx pins s σ H _ _ v u Q I rx ry ⟨a,_,us,rfl,rfl,ga,by lia,by lia,by rw[ra.len];exact bd hz.2.2.2,λp hp=>q _ _ (ao hp) (uT hp (ra.rep _))⟩
    |_=>cases hb
   |_=>cases hb
  |tup=>cases hb
  |_=>cases hb
 |str i=>cases hb
 |_=>cases hb
end J
namespace J
open PySem PySem.Spec L2
noncomputable def fH:D->Option aS
 |.int i=>PU (.inl i)
 |.str x=>PU (.inr x)
 |_=>PV
noncomputable def fI:List D->Option (List aS)
 |[]=>PU []
 |d::ds=>match fH d,fI ds with
  |some k,PU ks=>PU (k::ks)
  |_,_=>PV
noncomputable def zQ:D->Option (aS ⊕ List aS)
 |.nd .tup ds=>(fI ds).map .inr
 |d=>(fH d).map .inl
noncomputable def kC:List D->Option (List (aS ⊕ List aS))
 |[]=>PU []
 |d::ds=>match zQ d,kC ds with
  |some k,PU ks=>PU (k::ks)
  |_,_=>PV
noncomputable def BL:Nat->List (aS ⊕ List aS)->Bool
 |_,[]=>PX
 |m,.inl _::r=>m%2==0&&BL (m / 2) r
 |m,.inr _::r=>m%2==1&&BL (m / 2) r
noncomputable def lA:D->Option DK
 |.nd .tup ds=>(kC ds).map .inr
 |d=>(fH d).map .inl
noncomputable def bN(ks:List DK)(k:DK):Option Nat:=ks.findIdx? λx=>decide (x=k)
section
variable {K:MW} {H:Hp} {S:Pr}
theorem nl(h:fH d=PU k)(r:Rp K H S d v):v=kV k:=by
 cases d<;>simp only[fH] at h<;>first|(cases h;done)|(cases h;first|exact r.int|exact r.str)
theorem oY:∀{ds:List D} {ks:List aS} {vs:List V},fI ds=PU ks->RpL K H S ds vs->vs=ks.map kV
 |[],ks,vs,h,r=>by cases h;exact r.nil_inv
 |d::ds,ks,vs,h,r=>by
  obtain⟨y,ys,rfl,r1,r2⟩:=r.cons_inv;unfold fI at h;split at h
  ·rename_i k ks' e1 e2;cases h;rw[nl e1 r1,oY e2 r2];rfl
  ·cases h
theorem nq:∀{ds:List D} {ks:List (aS ⊕ List aS)} {vs:List V} {m:Nat},kC ds=PU ks->RpL K H S ds vs->BL m ks=PX->TkIts H m ks vs
 |[],ks,vs,m,h,r,hm=>by cases h;exact r.nil_inv
 |d::ds,ks,vs,m,h,r,hm=>by
  obtain⟨y,ys,rfl,r1,r2⟩:=r.cons_inv;unfold kC at h;split at h
  ·rename_i k ks' e1 e2;cases h
   cases k with
   |inl k=>
    simp only[BL,MX,beq_iff_eq] at hm;refine⟨ys,?_,hm.1,nq e2 r2 hm.2⟩
    have:fH d=PU k:=by
     unfold zQ at e1;split at e1
     ·cases e:fI _<;>rw[e] at e1<;>cases e1
     ·cases e:fH d with
      |none=>rw[e] at e1;cases e1
      |some z=>rw[e] at e1;cases e1;rfl
    rw[nl this r1]
   |inr k=>
    simp only[BL,MX,beq_iff_eq] at hm;unfold zQ at e1;split at e1
    ·rename_i zs
     cases e:fI zs with
     |none=>rw[e] at e1;cases e1
     |some z=>
      rw[e] at e1;cases e1;obtain⟨a,o,xs,rfl,_,g,q,rl⟩:=r1.nd;cases(show o=_ from q);rw[oY e rl] at g;exact⟨a,ys,rfl,hm.1,g,nq e2 r2 hm.2⟩
    ·cases e:fH d<;>rw[e] at e1<;>cases e1
  ·cases h
theorem kE(h:lA d=PU k)(r:Rp K H S d v):(∃x,k=.inl x/\v=kV x)\/∃xs b,k=.inr xs/\v=.ref b/\∀m,BL m xs=PX->TkAt H m xs b:=by
 have sc:∀{d:D},(fH d).map Sum.inl=PU k->Rp K H S d v->(∃x,k=.inl x/\v=kV x):=λ{d} h r=>by
  cases e:fH d with
  |none=>rw[e] at h;cases h
  |some x=>rw[e] at h;cases h;exact⟨x,rfl,nl e r⟩
 unfold lA at h;split at h
 ·rename_i ds
  cases e:kC ds with
  |none=>rw[e] at h;cases h
  |some ks=>
   rw[e] at h;cases h;obtain⟨a,o,xs,rfl,_,g,q,rl⟩:=r.nd;cases(show o=_ from q);exact .inr ⟨ks,a,rfl,rfl,λm hm=>⟨xs,g,nq e rl hm⟩⟩
 ·exact .inl (sc h r)
end
theorem i3{κ:Type}[DecidableEq κ]:∀(kvs:List (κ×V)) (k:κ),ia kvs k=(kvs.findIdx? λkv=>decide (kv.1=k)).bind λi=>(kvs.map (·.2))[i]?
 |[],k=>rfl
 |(a,b)::r,k=>by
  have ih:=i3 r k;unfold ia at ih⊢;rw[N2,NE];by_cases h:a=k
  ·simp[h]
  ·simp only[h,decide_false];rw[ih]
   cases e:r.findIdx? λkv=>decide (kv.1=k) with
   |none=>simp
   |some i=>simp
noncomputable def uU(t:Nat):DK->Bool
 |.inl _=>t==0
 |.inr xs=>(match t with|0=>PY|m+1=>BL m xs)
theorem sC{K:MW}{H:Hp}{S:Pr}{a:P1}{o:HO}{t:Nat}{ks:List DK}{xs:List V}{d:D}{k:DK}{v:V}(g:H a=PU o)(q:fD K o (.dic t ks) xs)(h:lA d=PU k)(r:Rp K H S d v)(hk:uU t k=PX) :
  DGet H a v ((bN ks k).bind λi=>xs[i]?):=by
 rcases q with⟨rfl,kvs,rfl,e1,e2⟩|⟨m,rfl,kvs,ep,rfl,e1,e2⟩
 ·rcases kE h r with⟨x,rfl,rfl⟩|⟨ys,b,rfl,rfl,gb⟩
  ·have:=DGet.k (k:=x) g;rw[i3] at this
   have e3:bN ks (.inl x)=kvs.findIdx? λkv=>decide (kv.1=x):=by
    unfold bN;rw[e1,Of];congr 1;funext p;simp[Sum.inl.injEq]
   rw[e3,e2];exact this
  ·cases hk
 ·rcases kE h r with⟨x,rfl,rfl⟩|⟨ys,b,rfl,rfl,gb⟩
  ·cases hk
  ·have:=DGet.t (k:=ys) g (gb m hk);rw[i3] at this
   have e3:bN ks (.inr ys)=kvs.findIdx? λkv=>decide (kv.1=ys):=by
    unfold bN;rw[e1,Of];congr 1;funext p;simp[Sum.inr.injEq]
   rw[e3,e2];exact this
theorem zR{ks:List DK}{i:Nat}(h:bN ks k=PU i):i<ks.length:=by
 unfold bN at h;exact(List.findIdx?_eq_some_iff_findIdx_eq.mp h).1
theorem zS{t:Nat}{ks:List DK}{xs:List V}(q:fD K o (.dic t ks) xs):ks.length=xs.length:=by
 rcases q with⟨rfl,kvs,rfl,e1,e2⟩|⟨m,rfl,kvs,ep,rfl,e1,e2⟩<;>rw[e1,e2,MY,MY]
theorem oZ{ks:List DK}{xs:List V}(hl:ks.length=xs.length):((bN ks k).bind λi=>xs[i]?).isSome=(bN ks k).isSome:=by
 cases e:bN ks k with
 |none=>rfl
 |some i=>
  have:=zR e;rw[NO,Na (by lia)];rfl
noncomputable def BM:D->Bool
 |.non=>PX
 |_=>PY
noncomputable def MV:D->Bool
 |.nd (.dic 0 []) _=>PX
 |_=>PY
noncomputable def cu(op:Ql)(x y:D):Option Bool:=
 match op with
 |.Lt=>(match x,y with|.int i,.int j=>PU (decide (i<j))|_,_=>PV)
 |.LtE=>PV
 |.Gt=>(match x,y with|.int i,.int j=>PU (decide (j<i))|_,_=>PV)
 |.GtE=>(match x,y with|.int i,.int j=>PU (decide (j<=i))|_,_=>PV)
 |.Eq=>if cj 90 x=PX/\cj 90 y=PX then PU (jJ x y) else PV
 |.NotEq=>if cj 90 x=PX/\cj 90 y=PX then PU (!jJ x y) else PV
 |.In=>PV
 |.NotIn=>(match y with
  |.nd (.dic t ks) _=>(match lA x with|some k=>if uU t k=PX then PU (!(bN ks k).isSome) else PV|none=>PV)
  |_=>PV)
 |.Is=>(match y with
  |.non=>PU (BM x)
  |_=>PV)
 |.IsNot=>PV
noncomputable abbrev Nv:Pr:=λ_=>False
noncomputable def DL(K:MW)(op:Ql):R2:=λx y H Q=>∃dx dy b,Rp K H Nv dx x/\Rp K H Nv dy y/\cu op dx dy=PU b/\Q (.bl b) H
theorem qE{X:Cx}(hu:X.A.units+100<cLine)(op:Ql):iU X (compareOp op) (DL X.K op):=by
 intro pins s σ H x y v u Q I rx ry h;obtain⟨dx,dy,b,tx,ty,hb,q⟩:=h;have hu1:X.A.units+1<cLine:=by lia
 have fin:∀{b':Bool},b'=b->EP X pins σ Q (.bool b') s:=λe=>⟨.bl b,H,I,by rw[e];rfl,q⟩
 have isN:dy=.non->plainIs v u=PX/\(v==u)=BM dx:=λe=>by
  subst e;have ey:=ty.non;subst ey;cases ry
  cases dx with
  |non=>have e:=tx.non;subst e;cases rx;exact⟨rfl,rfl⟩
  |bl c=>have e:=tx.bl;subst e;cases rx;exact⟨rfl,by cases c<;>rfl⟩
  |int i=>have e:=tx.int;subst e;obtain⟨t,rfl⟩:=rx;exact⟨rfl,rfl⟩
  |str i=>have e:=tx.str;subst e;obtain⟨t,rfl⟩:=rx;exact⟨rfl,rfl⟩
  |scr ns=>obtain⟨a,rfl,_⟩:=tx.scr;cases rx;exact⟨rfl,rfl⟩
  |nd hd ds=>obtain⟨a,o,xs,rfl,_⟩:=tx.nd;cases rx;exact⟨rfl,rfl⟩
 cases op with
 |Lt=>
  simp only[cu] at hb;split at hb
  ·cases hb;obtain rfl:=tx.int;obtain rfl:=ty.int;exact GI pins s σ H _ _ v u Q I rx ry ⟨_,_,rfl,rfl,q⟩
  ·cases hb
 |LtE=>cases hb
 |Gt=>
  simp only[cu] at hb;split at hb
  ·cases hb;obtain rfl:=tx.int;obtain rfl:=ty.int;exact GJ pins s σ H _ _ v u Q I rx ry ⟨_,_,rfl,rfl,q⟩
  ·cases hb
 |GtE=>
  simp only[cu] at hb;split at hb
  ·cases hb;obtain rfl:=tx.int;obtain rfl:=ty.int;exact GK pins s σ H _ _ v u Q I rx ry ⟨_,_,rfl,rfl,q⟩
  ·cases hb
 |Eq=>
  simp only[cu] at hb;split at hb
  ·rename_i hp;cases hb;obtain⟨⟨as,ra⟩,a1,a2⟩:=fG I hp.1 tx rx;obtain⟨⟨bs,rb⟩,b1,b2⟩:=fG I hp.2 ty ry;exact SeqAt.compareEq_reads ra rb a1 b1 (by lia) (fin rfl)
  ·cases hb
 |NotEq=>
  simp only[cu] at hb;split at hb
  ·rename_i hp;cases hb;obtain⟨⟨as,ra⟩,a1,a2⟩:=fG I hp.1 tx rx;obtain⟨⟨bs,rb⟩,b1,b2⟩:=fG I hp.2 ty ry;exact SeqAt.compareNe_reads ra rb a1 b1 (by lia) (fin rfl)
  ·cases hb
 |In=>cases hb
 |NotIn=>
  simp only[cu] at hb;split at hb
  ·rename_i t ks vs;split at hb
   ·rename_i k ek;split at hb
    ·rename_i hf;cases hb;obtain⟨a,o,xs,rfl,_,g,qd,rl⟩:=ty.nd;cases ry;refine zE (by lia) I (sC g qd ek tx hf) rx λs3 I3=>⟨.bl _,H,I3,rfl,?_⟩;rw[oZ (zS qd)];exact q
    ·cases hb
   ·cases hb
  ·cases hb
 |Is=>
  simp only[cu] at hb;split at hb
  ·cases hb;obtain⟨p,e⟩:=isN rfl;exact wpAny_is_plain p (fin e)
  ·cases hb
 |IsNot=>cases hb
noncomputable def xc:D->Option Bool
 |.non=>PU PY
 |.bl b=>PU b
 |.int i=>PU (i != 0)
 |.scr ns=>PU (!ns.isEmpty)
 |.nd .lst xs=>PU (!xs.isEmpty)
 |.nd .tup xs=>PU (!xs.isEmpty)
 |_=>PV
theorem RpL.empty{ds:List D}{vs:List V}(h:RpL K H S ds vs):vs.isEmpty=ds.isEmpty:=by
 have:=h.len
 cases vs<;>cases ds<;>simp_all
theorem DM{b:Bool}(t:Rp K H S d v)(h:xc d=PU b):Ds K v H b:=by
 cases d with
 |non=>obtain rfl:=t.non;cases h;rfl
 |bl k=>obtain rfl:=t.bl;cases h;rfl
 |int i=>obtain rfl:=t.int;cases h;rfl
 |str x=>cases h
 |scr ns=>
  obtain⟨a,rfl,g⟩:=t.scr;cases h
  exact .inl ⟨_,g,by cases ns<;>rfl⟩
 |nd hd xs=>
  obtain⟨a,o,us,rfl,_,g,q,r⟩:=t.nd
  cases hd with
  |lst=>cases h;cases(show o=_ from q);exact .inl ⟨us,.of g,by rw[r.empty]⟩
  |tup=>cases h;cases(show o=_ from q);exact .inr (.inl ⟨us,.of g,by rw[r.empty]⟩)
  |dic t ks=>cases h
  |obj c ns=>cases h
end J
namespace J
open PySem PySem.Spec L2
noncomputable def Ow.ch:Ow->Nat->Ow
 |.fz,_=>.fz
 |.own es r,i=>es.getD i r
noncomputable def xf:Kd->Nat->Kd
 |.sh,_=>.sh
 |.fr k,i=>(match k.ch i with|.fz=>.sh|c=>.fr c)
 |.bo j k,i=>(match k.ch i with|.fz=>.sh|c=>.bo j c)
section
variable {K:MW} {H H' H0:Hp} {S:Pr} {g:Gh}
theorem TrL.len:∀{ds:List D} {es:List Ow} {r:Ow} {xs:List V} {F:Pr},TrL K H S ds es r xs F->xs.length=ds.length
 |[],_,_,_,_,h=>by unfold TrL at h;rw[h.1];rfl
 |d::ds,es,r,xs,F,h=>by
  unfold TrL at h;obtain⟨y,ys,F1,F2,rfl,_,_,_,h2⟩:=h;rw[NF,NF,TrL.len h2]
theorem TrL.get:∀{ds:List D} {es:List Ow} {r:Ow} {xs:List V} {F:Pr} {i:Nat} {d:D},TrL K H S ds es r xs F->ds[i]?=PU d->∃x Fi,xs[i]?=PU x/\(∀b,Fi b->F b)/\Tr K H S d (es.getD i r) x Fi
 |[],_,_,_,_,_,_,h,e=>by simp at e
 |d::ds,es,r,xs,F,0,d',h,e=>by
  unfold TrL at h;obtain⟨y,ys,F1,F2,rfl,hF,_,h1,h2⟩:=h;simp at e;subst e
  exact⟨y,F1,rfl,λb z=>(hF b).mpr (.inl z),by cases es<;>simpa using h1⟩
 |d::ds,es,r,xs,F,i+1,d',h,e=>by
  unfold TrL at h;obtain⟨y,ys,F1,F2,rfl,hF,_,h1,h2⟩:=h;obtain⟨x,Fi,e1,e2,e3⟩:=TrL.get h2 (by simpa using e)
  exact⟨x,Fi,by simpa using e1,λb z=>(hF b).mpr (.inr (e2 b z)),by cases es<;>simpa using e3⟩
theorem VR.ch{ds:List D}(h:VR K g H0 H kd (.nd hd ds) v):∃a o xs,v=.ref a/\H a=PU o/\fD K o hd xs/\xs.length=ds.length/\∀(i:Nat) d,ds[i]?=PU d->∃x,xs[i]?=PU x/\VR K g H0 H (xf kd i) d x:=by
 obtain⟨F,h1,h2⟩:=h
 have shc:∀{S':Pr},(∀b,g b≠PV->S' b)->Rp K H S' (.nd hd ds) v->∃a o xs,v=.ref a/\H a=PU o/\fD K o hd xs/\xs.length=ds.length/\∀(i:Nat) d,ds[i]?=PU d->∃x,xs[i]?=PU x/\VR K g H0 H .sh d x:=λhs r=>by
  obtain⟨a,o,xs,e,n,q1,q2,q3⟩:=r.nd;refine⟨a,o,xs,e,q1,q2,q3.len,λi d e=>?_⟩;obtain⟨x,e1,e2⟩:=q3.getD e;exact⟨x,e1,G5 (e2.weak λb z=>hs b z)⟩
 cases kd with
 |sh=>exact shc (λb z=>.inl z) h2.2
 |fr k=>
  have h2:Tr K H (Sx g F) _ k v F:=h2
  cases k with
  |fz=>
   obtain⟨a,o,xs,e,q1,q2,q3,q4⟩:=shc (λb z=>.inl z) h2.fz_inv.2;exact⟨a,o,xs,e,q1,q2,q3,q4⟩
  |own es r=>
   unfold Tr at h2;obtain⟨a,o,xs,F',e,q1,q2,n1,n2,hF,t⟩:=h2;refine⟨a,o,xs,e,q1,q2,t.len,λi d e=>?_⟩;obtain⟨x,Fi,e1,e2,e3⟩:=t.get e;refine⟨x,e1,?_⟩;have hs:∀b o,H b=PU o->¬Sx g F b->¬Sx g Fi b:=λb o _ n z=>n (z.imp id λz=>(hF b).mpr (.inr (e2 b z)))
   show VR K g H0 H (match es.getD i r with|.fz=>.sh|c=>.fr c) d x
   cases hc:es.getD i r with
   |fz=>
    rw[hc] at e3;exact G5 (e3.fz_inv.2.weak λb z=>.inl z)
   |own es' r'=>
    rw[hc] at e3;exact⟨Fi,λb z=>h1 b ((hF b).mpr (.inr (e2 b z))),e3.go (λ_ _ _ h=>h) hs⟩
 |bo j k=>
  obtain⟨hn,F0,h3,h4⟩:=h2
  cases k with
  |fz=>
   obtain⟨a,o,xs,e,q1,q2,q3,q4⟩:=shc (λb z=>.inl z) h4.fz_inv.2;exact⟨a,o,xs,e,q1,q2,q3,q4⟩
  |own es r=>
   unfold Tr at h4;obtain⟨a,o,xs,F',e,q1,q2,n1,n2,hF,t⟩:=h4;refine⟨a,o,xs,e,q1,q2,t.len,λi d e=>?_⟩;obtain⟨x,Fi,e1,e2,e3⟩:=t.get e;refine⟨x,e1,?_⟩
   show VR K g H0 H (match es.getD i r with|.fz=>.sh|c=>.bo j c) d x
   cases hc:es.getD i r with
   |fz=>
    rw[hc] at e3;exact G5 (e3.fz_inv.2.weak λb z=>.inl z)
   |own es' r'=>
    rw[hc] at e3;exact⟨F,h1,hn,Fi,λb z=>h3 b ((hF b).mpr (.inr (e2 b z))),e3⟩
end
structure Cz where
 sc:Qe
 N:List Str
 fn:Str->Bool
noncomputable abbrev Fn:=List D->Option KD
structure eZ where
 fn:Str->Option Fn
 fm:Str->Option (MW->Sp)
 cst:Str->Option D
 cf:Str->Option (List Str)
noncomputable def bz(x:Str):List Str->Option Nat
 |[]=>PV
 |y::r=>if x=y then PU 0 else(bz x r).map (·+1)
theorem bf{x:Str}:∀{N:List Str} {i:Nat},bz x N=PU i->N[i]?=PU x
 |[],_,h=>by cases h
 |y::r,i,h=>by
  unfold bz at h;split at h
  ·rename_i e;cases h;simp[e]
  ·cases q:bz x r with
   |none=>rw[q] at h;cases h
   |some j=>
    rw[q] at h;cases h;simpa using bf q
noncomputable def DN(sc:Qe)(x:Str):Bool:=sc.names.lookup x==PU .local||sc.names.lookup x==PU .cell||sc.names.lookup x==PU .free
noncomputable def nr(c:Cz)(x:Str):Bool:=c.sc.names.lookup x==PU .local||(c.fn x&&c.sc.names.lookup x==PU .cell)
noncomputable def ij(scope:Qe)(x:Str):Bool:=scope.names.lookup x==PU .cell
noncomputable def eK(sc:Qe)(x:Str):Bool:=sc.names.lookup x==PU .globalImplicit
theorem nu{x:Str}(h:DN sc x=PX):Gv sc x:=by
 simp only[DN,Oa,beq_iff_eq] at h;rcases h with(h|h)|h
 ·exact .inl h
 ·exact .inr (.inl h)
 ·exact .inr (.inr h)
noncomputable def nv(x:Str):Bool:=!(x==("__debug__":Str))&&!(x==("__classdict__":Str))
noncomputable def v6(K:MW)(φ:Fn):Sp:=λvs H Q _=>∃ds g kd d,RpL K H (Sg g) ds vs/\MuOk H (Sg g)/\φ ds=PU (kd,d)/\∀v H',Same H H'->VR K g H H' kd d v->Q v H'
noncomputable def aR:List Str:=["len","isinstance","int","bool","list","all","range","enumerate","str","sum","min","max","abs","tuple","zip","dict","sorted","reversed","any","set","repr"]
noncomputable def nw(X:Cx)(x:Str)(sp:Sp):Prop:=
 (∃k f fd ps,FnOk X.prog X.w X.K X.mg X.base oP k f fd ps sp/\Room k X.A/\X.mg x=PU (.ref f)/\NC X.K (.ref f)=PX/\Binds X.K fd ps []/\(x==("__debug__":Str))=PY)\/
 False
noncomputable def L7(sp:Sp)(t:TA):TE:=λσ H Q=>t σ H λvs H1=>sp vs H1 Q E0
theorem BN{X:Cx}{x:Str}{t:TA}(tm:∀(σ:L2.St) (H:Hp) (Q R:List V->Hp->Prop),t σ H Q->(∀vs H1,Q vs H1->R vs H1)->t σ H R)(h:nw X x sp)(hg:Gl X x)(ha:PA X (e::es) t)(he:Qb (e::es) X.env=(PY,eval e X.env)::Qb es X.env)(hpl:(backTo pos (Qb es X.env)).any (·.1)=PY) :
  PE X (.Call (.Name x p) (e::es) [] pos) (L7 sp t):=by
 intro pins s σ H Q I q;rcases h with⟨k,f,fd,ps,F,hr,hm,hk,hb,hdb⟩|h
 ·exact mW (E:=E0) F hr hg hm hk hb .nil wN ha hdb he hpl pins s σ H Q I (tm _ _ _ _ q λvs H1 z=>by rw[On];exact z)
 ·exact h.elim
theorem DO{x:Str}(h:nw X x sp)(hg:Gl X x):PE X (.Call (.Name x p) [] [] pos) (L7 sp Dt):=by
 intro pins s σ H Q I q;rcases h with⟨k,f,fd,ps,F,hr,hm,hk,hb,hdb⟩|h
 ·exact wF (E:=E0) F hr hg hm hk hb .nil wN hdb pins s σ H Q I q
 ·exact h.elim
structure G7(X:Cx)(Γ:eZ):Prop where
 fn:∀x φ,Γ.fn x=PU φ->nw X x (v6 X.K φ)
 cf:∀c fs C,Γ.cf c=PU fs->OB X.K Qh c=PU (PU (.ref C))->Cls X.K C/\∀a∈fs,mS X.K C a
 fm:∀x sp,Γ.fm x=PU sp->∃k f fd ps,FnOk X.prog X.w X.K X.mg X.base oP k f fd ps (sp X.K)/\Room k X.A/\X.mg x=PU (.ref f)/\NC X.K (.ref f)=PX/\Binds X.K fd ps []/\(x==("__debug__":Str))=PY
 bl:∀x∈aR,X.mg x=PV
 units:X.A.units+100<cLine
 gd:X.A.guards=PU []
 cst:∀x d,Γ.cst x=PU d->∃u v,X.mg x=PU u/\RelV v u/\(∀H S,Rp X.K H S d v)/\(x==("__debug__":Str))=PY
structure al(X:Cx)(Γ:eZ)(c:Cz):Prop where
 sc:X.env.scope=c.sc
 N:X.N=c.N
 fn:∀x,c.fn x=PX->X.fn x=PX
 calm:X.calm=PX
 nd:c.N.Nodup
 tab:G7 X Γ
section
variable {X:Cx} {Γ:eZ} {c:Cz}
theorem bp(O:al X Γ c){x:Str}(h:eK c.sc x=PX):Gl X x:=by
 show X.env.scope.names.lookup x=_;rw[O.sc];simpa[eK] using h
theorem i4(O:al X Γ c){x:Str}(h:nr c x=PX):CY X.env.scope x/\(X.fn x=PX\/X.env.scope.names.lookup x=PU .local):=by
 simp only[nr,Oa,MX,beq_iff_eq] at h;rw[O.sc];rcases h with h|h
 ·exact⟨.inl h,.inr h⟩
 ·exact⟨.inr h.2,.inl (O.fn x h.1)⟩
noncomputable def qF(i:Nat)(o:Option (Option Sl)):Option KD:=match o with|some (PU s)=>PU (uS i s)|_=>PV
noncomputable def ef(c:Cz)(x:Str):Option Nat:=match bz x c.N with|some i=>if DN c.sc x&&nv x then PU i else PV|none=>PV
theorem BO(O:al X Γ c){x:Str}{i:Nat}(hc:ef c x=PU i)(pos:Pos):SndE X (λρ=>qF i ρ[i]?) (.Name x pos):=by
 intro ρ kd d h g σ H Q se q;unfold ef at hc;split at hc
 ·rename_i j hj;split at hc
  ·rename_i hv;cases hc;simp only[MX,nv,Ov] at hv;dsimp only[qF] at h;split at h
   ·rename_i sl e;cases h;obtain⟨v,e1,e2⟩:=se.get e;exact aL (mM (i:=i) (by rw[O.N];exact bf hj) (by rw[O.sc];exact nu hv.1) hv.2.1 hv.2.2) ⟨v,e1,q v H (Same.refl H) e2⟩
   ·cases h
  ·cases hc
 ·cases hc
theorem G9(i:Int)(j:Nat)(pos:Pos):SndE X (λ_=>PU (.sh,.int i)) (.Constant (.int i) j pos):=by
 intro ρ kd d h g σ H Q se q;cases h;exact aL CZ (q _ H (Same.refl H) nk)
theorem Kq(i:Bool)(j:Nat)(pos:Pos):SndE X (λ_=>PU (.sh,.bl i)) (.Constant (.bool i) j pos):=by
 intro ρ kd d h g σ H Q se q;cases h;exact aL Gw (q _ H (Same.refl H) Kn)
theorem Ha(j:Nat)(pos:Pos):SndE X (λ_=>PU (.sh,.non)) (.Constant .none j pos):=by
 intro ρ kd d h g σ H Q se q;cases h;exact aL wj (q _ H (Same.refl H) DI)
theorem Hb(x:Str)(j:Nat)(pos:Pos):SndE X (λ_=>PU (.sh,.str x)) (.Constant (.str x) j pos):=by
 intro ρ kd d h g σ H Q se q;cases h;exact aL qj (q _ H (Same.refl H) Ko)
theorem Hc(O:al X Γ c){x:Str}{d:D}(hg:eK c.sc x=PX)(e:Γ.cst x=PU d)(pos:Pos):SndE X (λ_=>PU (.sh,d)) (.Name x pos):=by
 intro ρ kd d' h g σ H Q se q;cases h;obtain⟨u,v,h1,h2,h3,h4⟩:=O.tab.cst x d e;exact aL (mO (bp O hg) h1 h2 h4) (q v H (Same.refl H) (G5 (h3 H _)))
theorem two{fa fb:Ro->Option KD}(ha:SndE X fa a)(hb:SndE X fb b){ρ:Ro}{ka kb:Kd}{da db:D}(ea:fa ρ=PU (ka,da))(eb:fb ρ=PU (kb,db)){g:Gh}{σ:L2.St}{H:Hp}{R:V->V->Hp->Prop}(se:SE X.K g ρ σ H)(q:∀x y H',Same H H'->VR X.K g H H' ka da x->VR X.K g H H' kb db y->R x y H'):wE X a σ H λx H1=>wE X b σ H1 λy H2=>R x y H2:=
 ha ρ ka da ea g σ H _ se λx H1 s1 v1=>hb ρ kb db eb g σ H1 _ (se.same s1) λy H2 s2 v2=>q x y H2 (s1.trans s2) (v1.same s2) (v2.older s1)
noncomputable def xg(op:Qd)(a b:Option KD):Option KD:=match a,b with
 |some x,PU y=>dZ op x y
 |_,_=>PV
theorem He{fa fb:Ro->Option KD}(ha:SndE X fa a)(hb:SndE X fb b):SndE X (λρ=>xg op (fa ρ) (fb ρ)) (.BinOp a op b pos):=by
 intro ρ kd d h g σ H Q se q;dsimp only[xg] at h;split at h
 ·rename_i x y ea eb;exact aL (BE (xb op) aF aF) (two ha hb ea eb se λvx vy H' s r1 r2=>⟨g,H,x,y,kd,d,se.mu,s,r1,r2,h,λv H2 s2 r=>q v H2 (s.trans s2) (r.older s)⟩)
 ·cases h
noncomputable def kF(op:Ql)(a b:Option KD):Option Bool:=match a,b with
 |some (_,x),PU (_,y)=>cu op x y
 |_,_=>PV
noncomputable def bV(o:Option Bool):Option KD:=o.map λb=>(.sh,.bl b)
theorem Hf{fa fb:Ro->Option KD}{a b:P0}{op:Ql}(O:al X Γ c)(hm:Qg op b=PY)(ha:SndE X fa a)(hb:SndE X fb b):SndE X (λρ=>bV (kF op (fa ρ) (fb ρ))) (.Compare a [op] [b] pos):=by
 intro ρ kd d h g σ H Q se q
 cases hc:kF op (fa ρ) (fb ρ) with
 |none=>simp only[hc,bV] at h;cases h
 |some r=>
  simp only[hc,bV] at h;cases h;unfold kF at hc;split at hc
  ·rename_i ka x kb y ea eb;exact aL (zu (qE O.tab.units op) aF aF hm) (two ha hb ea eb se λvx vy H' s vx' vy'=>⟨x,y,r,vx'.rd,vy'.rd,hc,q _ H' s Kn⟩)
  ·cases hc
theorem Hg{fa fb:Ro->Option KD}{a b:P0}{op:Ql}(O:al X Γ c)(hm:Qg op b=PY)(ha:SndE X fa a)(hb:SndE X fb b):SndT X (λρ=>kF op (fa ρ) (fb ρ)) (.Compare a [op] [b] pos):=by
 intro ρ r hc g σ H Q se q;dsimp only[kF] at hc;split at hc
 ·rename_i ka x kb y ea eb;exact sw (mR (qE O.tab.units op) aF aF hm) (two ha hb ea eb se λvx vy H' s vx' vy'=>⟨x,y,r,vx'.rd,vy'.rd,hc,r,rfl,q H' s⟩)
 ·cases hc
noncomputable def xh(a:Option KD):Option KD:=match a with|some (_,.int i)=>PU (.sh,.int (-i))|_=>PV
theorem Hh{fa:Ro->Option KD}(ha:SndE X fa a):SndE X (λρ=>xh (fa ρ)) (.UnaryOp .USub a pos):=by
 intro ρ kd d h g σ H Q se q;dsimp only[xh] at h;split at h
 ·rename_i ka i ea;cases h;exact aL (GF Dq aF) (ha ρ _ _ ea g σ H _ se λv H' s r=>⟨i,r.rd.int,q _ H' s nk⟩)
 ·cases h
noncomputable def ny(a:Option KD):Option Bool:=match a with|some (_,d)=>xc d|none=>PV
theorem Hj{fa:Ro->Option Bool}(ha:SndT X fa a):SndT X (λρ=>(fa ρ).map (!·)) (.UnaryOp .Not a pos):=by
 intro ρ r h g σ H Q se q
 cases e:fa ρ with
 |none=>simp only[e] at h;cases h
 |some b=>
  simp only[e] at h;cases h;exact sw (wq fq) (ha ρ b e g σ H _ se λH' s=>q H' s)
theorem xi{fa:Ro->Option KD}{a:P0}(ha:SndE X fa a)(hp:∀whole,isTrue a X.env whole=(do let v <- whole;standAt a.pos;holding [v] (truthy v))):SndT X (λρ=>ny (fa ρ)) a:=by
 intro ρ r h g σ H Q se q;dsimp only[ny] at h;split at h
 ·rename_i k d e;exact sw (wz aF hp) (ha ρ _ _ e g σ H _ se λv H' s vr=>⟨r,DM vr.rd h,q H' s⟩)
 ·cases h
noncomputable def Hk(t:Option Bool)(a b:Option KD):Option KD:=match t with|some PX=>a|some PY=>b|none=>PV
theorem Kr{ft:Ro->Option Bool}{fa fb:Ro->Option KD}(ht:SndT X ft t)(ha:SndE X fa a)(hb:SndE X fb b):SndE X (λρ=>Hk (ft ρ) (fa ρ) (fb ρ)) (.IfExp t a b pos):=by
 intro ρ k d h g σ H Q se q;dsimp only[Hk] at h;split at h
 ·rename_i e;exact aL (oE fq aF aF) (ht ρ _ e g σ H _ se λH1 s1=>wP (ha ρ k d h g σ H1 Q (se.same s1) λv H2 s2 r=>q v H2 (s1.trans s2) (r.older s1)))
 ·rename_i e;exact aL (oE fq aF aF) (ht ρ _ e g σ H _ se λH1 s1=>m9 (hb ρ k d h g σ H1 Q (se.same s1) λv H2 s2 r=>q v H2 (s1.trans s2) (r.older s1)))
 ·cases h
noncomputable def ag:P0->Bool
 |.Starred ..=>PY
 |_=>PX
theorem ai(h:ag e=PX):Qb (e::es) env=(PY,eval e env)::Qb es env:=by
 cases e<;>first|rfl|cases h
theorem cy{es:List P0}(h:es.all ag=PX):(backTo pos (Qb es env)).any (·.1)=PY:=by
  have key:∀es:List P0,es.all ag=PX->∀p∈Qb es env,p.1=PY:=by
    intro es
    induction es with
    |nil=>intro _ p hp;cases hp
    |cons e es ih=>
      intro h p hp;simp only[N9,MX] at h;rw[ai h.1] at hp;rcases M7.mp hp with rfl|hp
      · rfl
      · exact ih h.2 p hp
  have k2:=key es h
  cases e:Qb es env with
  |nil=>rfl
  |cons p r=>
    rw[e] at k2
    have h0:∀q∈backTo pos (p::r),q.1=PY:=by
      intro q hq;unfold backTo at hq
      first
        |exact k2 q hq
        | (simp only[NK,M7] at hq
           first
             |(obtain⟨z,hz,rfl⟩:=hq;exact k2 z (by simpa using hz))
             | (rcases hq with rfl|hq
                · exact k2 p (by simp)
                · first
                    |exact k2 q (by simp[hq])
                    |(obtain⟨z,hz,rfl⟩:=hq;exact k2 z (by simp[hz]))))
    rw[Pt];intro q hq;rw[h0 q hq];decide
noncomputable def gp(a:Option KD)(r:Option (List KD)):Option (List KD):=match a,r with|some x,PU xs=>PU (x::xs)|_,_=>PV
theorem zT:fF X (λ_=>PU []) []:=by
 intro ρ kds h g σ H Q se q;cases h;exact kB bJ (q [] H (Same.refl H) .nil)
theorem zU{fa:Ro->Option KD}{fr:Ro->Option (List KD)}(hn:ag e=PX)(ha:SndE X fa e)(hr:fF X fr es):fF X (λρ=>gp (fa ρ) (fr ρ)) (e::es):=by
 intro ρ kds h g σ H Q se q;dsimp only[gp] at h;split at h
 ·rename_i x xs e1 e2;cases h;obtain⟨k,d⟩:=x;refine kB (aK aF ee (ai hn)) (ha ρ k d e1 g σ H _ se λv H1 s1 r1=>?_);obtain⟨F1,a1,a2⟩:=r1;exact hr ρ xs e2 (g.plus F1) σ H1 _ (se.plus s1 a1 a2.dom) λvs H2 s2 r2=>q (v::vs) H2 (s1.trans s2) (.cons s1 s2 a1 a2 r2)
 ·cases h
theorem VRs.two(h:VRs K g H0 H [(k,d),(k',d')] vs):∃v v',vs=[v,v']/\VR K g H0 H k d v/\VR K g H0 H k' d' v':=by
 obtain⟨F,h1,y,ys,F1,F2,rfl,hF,dj,h3,z,zs,F3,F4,rfl,hF2,dj2,h5,rfl,h7⟩:=h;have e:∀b,F b↔F1 b\/F3 b:=λb=>(hF b).trans ⟨λz=>z.imp id λz=>((hF2 b).mp z).elim id λz=>absurd z (h7 b),λz=>z.imp id λz=>(hF2 b).mpr (.inl z)⟩;refine⟨y,z,rfl,⟨F1,λb z=>h1 b ((e b).mpr (.inl z)),h3.go (λ_ _ h=>h) λb _ _ z=>(e b).mpr (.inl z)⟩,⟨F3,λb z=>h1 b ((e b).mpr (.inr z)),h5.go (λ_ _ h=>h) λb _ _ z=>(e b).mpr (.inr z)⟩⟩
end
end J
namespace J
open PySem PySem.Spec L2
mutual
noncomputable def Ow.le:Ow->Ow->Bool
 |.fz,_=>PX
 |.own es r,.own es' r'=>Ow.les es es'&&Ow.le r r'
 |.own _ _,.fz=>PY
noncomputable def Ow.les:List Ow->List Ow->Bool
 |[],[]=>PX
 |a::as,b::bs=>Ow.le a b&&Ow.les as bs
 |_,_=>PY
end
theorem Ow.les_hd:∀{es es':List Ow} {r r':Ow},Ow.les es es'=PX->Ow.le r r'=PX->(es.headD r).le (es'.headD r')=PX/\Ow.les es.tail es'.tail=PX
 |[],[],_,_,_,h=>⟨h,rfl⟩
 |a::as,b::bs,_,_,h,_=>by rw[Ow.les,MX] at h;exact h
 |[],_::_,_,_,h,_=>by simp[Ow.les] at h
 |_::_,[],_,_,h,_=>by simp[Ow.les] at h
section
variable {K:MW} {H:Hp} {S:Pr}
mutual
theorem Tr.ofIm:∀{d:D} {k:Ow} {v:V},qC d=PX->Rp K H S d v->Tr K H S d k v (λ_=>False)
 |.non,_,_,_,h=>by unfold Tr;exact⟨λ_ z=>z,h⟩
 |.bl _,_,_,_,h=>by unfold Tr;exact⟨λ_ z=>z,h⟩
 |.int _,_,_,_,h=>by unfold Tr;exact⟨λ_ z=>z,h⟩
 |.str _,_,_,_,h=>by unfold Tr;exact⟨λ_ z=>z,h⟩
 |.scr _,_,_,i,_=>by simp[qC] at i
 |.nd hd ds,.fz,_,_,h=>by unfold Tr;exact⟨λ_ z=>z,h⟩
 |.nd hd ds,.own es r,v,i,h=>by
  rw[qC,MX] at i;have i1:hd.mu=PY:=by simpa using i.1
  unfold Rp at h;unfold Tr;obtain⟨a,o,xs,e,n,g,q,t⟩:=h;exact⟨a,o,xs,λ_=>False,e,g,q,λ_ z=>z,λ_=>n,λb=>⟨λz=>z.elim,λz=>z.elim (λz=>by rw[i1] at z;cases z.1) id⟩,TrL.ofIm i.2 t⟩
theorem TrL.ofIm:∀{ds:List D} {es:List Ow} {r:Ow} {vs:List V},zL ds=PX->RpL K H S ds vs->TrL K H S ds es r vs (λ_=>False)
 |[],_,_,_,_,h=>by unfold TrL;exact⟨h.nil_inv,λ_ z=>z⟩
 |d::ds,es,r,vs,i,h=>by
  rw[zL,MX] at i;obtain⟨y,ys,rfl,h1,h2⟩:=h.cons_inv;unfold TrL;exact⟨y,ys,_,_,rfl,λb=>⟨λz=>z.elim,λz=>z.elim id id⟩,λ_ z=>z.elim,Tr.ofIm i.1 h1,TrL.ofIm i.2 h2⟩
end
theorem Tr.leaf{S':Pr}(hd:∀h ds,d≠.nd h ds)(h:Tr K H S d c v F)(hS:∀b,S' b->H b=PV\/S b):Tr K H S' d k v (λ_=>False):=by
 cases d with
 |nd hh ds=>exact absurd rfl (hd hh ds)
 |_=>
  unfold Tr at h⊢;exact⟨λ_ z=>z,h.2.go λb o n e=>⟨e,λz=>(hS b z).elim (λq=>by rw[e] at q;cases q) n⟩⟩
mutual
theorem Tr.part:∀{d:D} {k c:Ow} {v:V} {F:Pr},k.le c=PX->Tr K H S d c v F->∃F2:Pr,(∀b,F2 b->F b)/\∀S':Pr,(∀b,S' b->H b=PV\/(S b/\(F b->F2 b)))->Tr K H S' d k v F2
 |.non,_,_,_,_,_,t=>⟨_,λ_ z=>z.elim,λS' hS=>t.leaf (λ_ _ e=>nomatch e) λb z=>(hS b z).imp id And.left⟩
 |.bl _,_,_,_,_,_,t=>⟨_,λ_ z=>z.elim,λS' hS=>t.leaf (λ_ _ e=>nomatch e) λb z=>(hS b z).imp id And.left⟩
 |.int _,_,_,_,_,_,t=>⟨_,λ_ z=>z.elim,λS' hS=>t.leaf (λ_ _ e=>nomatch e) λb z=>(hS b z).imp id And.left⟩
 |.str _,_,_,_,_,_,t=>⟨_,λ_ z=>z.elim,λS' hS=>t.leaf (λ_ _ e=>nomatch e) λb z=>(hS b z).imp id And.left⟩
 |.scr _,_,_,_,_,_,t=>⟨_,λ_ z=>z.elim,λS' hS=>t.leaf (λ_ _ e=>nomatch e) λb z=>(hS b z).imp id And.left⟩
 |.nd hd ds,.fz,c,v,F,_,t=>by
  refine⟨λ_=>False,λ_ z=>z.elim,λS' hS=>.fz ?_⟩;have r:Rp K H (λb=>S' b/\H b≠PV) (.nd hd ds) v:=t.rp λb z=>(hS b z.1).elim (λq=>absurd q z.2) λq=>⟨q.1,q.2⟩;exact r.go λb o n e=>⟨e,λz=>n ⟨z,by rw[e];exact λh=>by cases h⟩⟩
 |.nd hd ds,.own es r,.fz,_,_,l,_=>by simp[Ow.le] at l
 |.nd hd ds,.own es r,.own es' r',v,F,l,t=>by
  rw[Ow.le,MX] at l;unfold Tr at t;obtain⟨a,o,xs,F',e,g,q,n1,n2,hF,tl⟩:=t;obtain⟨G,g1,g2⟩:=TrL.part l.1 l.2 tl;refine⟨λb=>(hd.mu=PX/\b=a)\/G b,λb z=>(hF b).mpr (z.imp id (g1 b)),λS' hS=>?_⟩;unfold Tr;refine⟨a,o,xs,G,e,g,q,λhm z=>n1 hm (g1 a z),λhm z=>(hS a z).elim (λq=>by rw[g] at q;cases q) λq=>n2 hm q.1,λb=>Iff.rfl,g2 S' λb z=>(hS b z).imp id λq=>⟨q.1,λf=>?_⟩⟩;exact(q.2 ((hF b).mpr (.inr f))).elim (λw=>absurd f (by rw[w.2];exact n1 w.1)) id
theorem TrL.part:∀{ds:List D} {es es':List Ow} {r r':Ow} {vs:List V} {F:Pr},Ow.les es es'=PX->r.le r'=PX->TrL K H S ds es' r' vs F->∃F2:Pr,(∀b,F2 b->F b)/\∀S':Pr,(∀b,S' b->H b=PV\/(S b/\(F b->F2 b)))->TrL K H S' ds es r vs F2
 |[],_,_,_,_,_,_,_,_,t=>⟨λ_=>False,λ_ z=>z.elim,λS' _=>by unfold TrL at t⊢;exact⟨t.1,λ_ z=>z⟩⟩
 |d::ds,es,es',r,r',vs,F,l1,l2,t=>by
  unfold TrL at t;obtain⟨y,ys,F1,F2,e,hF,dj,t1,t2⟩:=t;have lh:=Ow.les_hd (r:=r) (r':=r') l1 l2;obtain⟨G1,a1,a2⟩:=Tr.part lh.1 t1;obtain⟨G2,b1,b2⟩:=TrL.part lh.2 l2 t2;refine⟨λb=>G1 b\/G2 b,λb z=>(hF b).mpr (z.imp (a1 b) (b1 b)),λS' hS=>?_⟩;unfold TrL;refine⟨y,ys,G1,G2,e,λb=>Iff.rfl,λb z1 z2=>dj b (a1 b z1) (b1 b z2),a2 S' λb z=>(hS b z).imp id λq=>⟨q.1,λf=>?_⟩,b2 S' λb z=>(hS b z).imp id λq=>⟨q.1,λf=>?_⟩⟩
  ·exact(q.2 ((hF b).mpr (.inl f))).elim id λw=>absurd (b1 b w) (dj b f)
  ·exact(q.2 ((hF b).mpr (.inr f))).elim (λw=>absurd f (dj b (a1 b w))) id
end
end
noncomputable def dc(k:Ow)(p:KD):Bool:=match k with
 |.fz=>oy p.1 p.2
 |k=>(match p.1 with|.fr c=>k.le c|_=>PY)||qC p.2
noncomputable def qG:List Ow->Ow->List KD->Bool
 |_,_,[]=>PX
 |es,r,p::ps=>dc (es.headD r) p&&qG es.tail r ps
section
variable {K:MW} {H H' H0:Hp} {g:Gh} {Ft F:Pr}
theorem VR1.fit{p:KD}(h:dc k p=PX)(m:MuOk H (Sx g Ft))(hd:∀b,F b->g b=PV)(hs:∀b,F b->Ft b)(r:VR1 K H g Ft p.1 p.2 v F):∃F2:Pr,(∀b,F2 b->F b)/\∀S':Pr,(∀b,S' b->H b=PV\/g b≠PV\/F2 b\/(Ft b/\¬F b))->Tr K H S' p.2 k v F2:=by
 obtain⟨kd,d⟩:=p
 cases k with
 |fz=>
  refine⟨λ_=>False,λb z=>z.elim,λS' hS=>.fz ?_⟩
  have r1:Rp K H (λb=>S' b/\H b≠PV) d v:=by
   cases kd with
   |sh=>
    refine r.2.weak λb z=>?_;rcases hS b z.1 with q|q|q|q
    ·exact absurd q z.2
    ·exact .inl q
    ·exact q.elim
    ·exact .inr q.1
   |fr c=>
    refine Tr.rp (λb z=>?_) r;rcases hS b z.1 with q|q|q|q
    ·exact absurd q z.2
    ·exact⟨.inl q,λz2=>q (hd b z2)⟩
    ·exact q.elim
    ·exact⟨.inr q.1,q.2⟩
   |bo i c=>
    refine r.rd.im (λb z=>?_) h;rcases hS b z.1 with q|q|q|q
    ·exact absurd q z.2
    ·exact m b (.inl q)
    ·exact q.elim
    ·exact m b (.inr q.1)
  exact r1.go λb o n e=>⟨e,λz=>n ⟨z,by rw[e];exact λh=>by cases h⟩⟩
 |own es r'=>
  rcases Oa _ _▸(show(_||_)=PX from h) with h|h
  ·cases kd with
   |sh=>cases h
   |bo i c=>cases h
   |fr c=>
    obtain⟨F2,a1,a2⟩:=Tr.part h r;refine⟨F2,a1,λS' hS=>a2 S' λb z=>?_⟩;rcases hS b z with q|q|q|q
    ·exact .inl q
    ·exact .inr ⟨.inl q,λf=>absurd (hd b f) q⟩
    ·exact .inr ⟨.inr (hs b (a1 b q)),λ_=>q⟩
    ·exact .inr ⟨.inr q.1,λf=>absurd f q.2⟩
  ·refine⟨λ_=>False,λb z=>z.elim,λS' hS=>.ofIm h ?_⟩
   have r1:Rp K H (λb=>S' b/\H b≠PV) d v:=by
    refine r.rd.im (λb z=>?_) h;rcases hS b z.1 with q|q|q|q
    ·exact absurd q z.2
    ·exact m b (.inl q)
    ·exact q.elim
    ·exact m b (.inr q.1)
   exact r1.go λb o n e=>⟨e,λz=>n ⟨z,by rw[e];exact λh=>by cases h⟩⟩
theorem VRL.fit:∀{kds:List KD} {es:List Ow} {r:Ow} {vs:List V} {F:Pr},qG es r kds=PX->MuOk H (Sx g Ft)->(∀b,F b->g b=PV)->(∀b,F b->Ft b)->VRL K H g Ft kds vs F->
  ∃F2:Pr,(∀b,F2 b->F b)/\∀S':Pr,(∀b,S' b->H b=PV\/g b≠PV\/F2 b\/(Ft b/\¬F b))->TrL K H S' (kds.map (·.2)) es r vs F2
 |[],es,r,vs,F,_,_,_,_,h=>⟨λ_=>False,λb z=>z.elim,λS' hS=>by unfold Oz TrL;exact⟨h.1,λb z=>z⟩⟩
 |p::ps,es,r,vs,F,hf,m,hd,hs,h=>by
  obtain⟨y,ys,F1,F2,rfl,hF,dj,h1,h2⟩:=h;unfold qG at hf;rw[MX] at hf;obtain⟨G1,a1,a2⟩:=VR1.fit hf.1 m (λb z=>hd b ((hF b).mpr (.inl z))) (λb z=>hs b ((hF b).mpr (.inl z))) h1;obtain⟨G2,b1,b2⟩:=VRL.fit hf.2 m (λb z=>hd b ((hF b).mpr (.inr z))) (λb z=>hs b ((hF b).mpr (.inr z))) h2;refine⟨λb=>G1 b\/G2 b,λb z=>(hF b).mpr (z.imp (a1 b) (b1 b)),λS' hS=>?_⟩;show TrL K H S' (p.2::ps.map (·.2)) es r (y::ys) _;unfold TrL;refine⟨y,ys,G1,G2,rfl,λb=>Iff.rfl,λb z1 z2=>dj b (a1 b z1) (b1 b z2),a2 S' λb z=>?_,b2 S' λb z=>?_⟩
  ·rcases hS b z with q|q|(q|q)|q
   ·exact .inl q
   ·exact .inr (.inl q)
   ·exact .inr (.inr (.inl q))
   ·exact .inr (.inr (.inr ⟨hs b ((hF b).mpr (.inr (b1 b q))),λz=>dj b z (b1 b q)⟩))
   ·exact .inr (.inr (.inr ⟨q.1,λz=>q.2 ((hF b).mpr (.inl z))⟩))
  ·rcases hS b z with q|q|(q|q)|q
   ·exact .inl q
   ·exact .inr (.inl q)
   ·exact .inr (.inr (.inr ⟨hs b ((hF b).mpr (.inl (a1 b q))),λz=>dj b (a1 b q) z⟩))
   ·exact .inr (.inr (.inl q))
   ·exact .inr (.inr (.inr ⟨q.1,λz=>q.2 ((hF b).mpr (.inr z))⟩))
theorem VRs.node{kds:List KD}{hd:Hd}(hf:qG es r kds=PX)(m:MuOk H0 (Sg g))(s:Same H0 H)(h:VRs K g H0 H kds vs)(hp:H p=PV)(ho:fD K o hd vs)(hm:hd.mu=PX) :
  VR K g H0 (upd H p o) (.fr (.own es r)) (.nd hd (kds.map (·.2))) (.ref p):=by
 obtain⟨F,h1,h2⟩:=h
 have hgF:∀b,F b->g b=PV:=λb z=>by
  cases e:g b with
  |none=>rfl
  |some i=>
   obtain⟨o,q,_⟩:=m b (by rw[Sg,e];exact λh=>by cases h);rw[h1 b z] at q;cases q
 have mm:MuOk H (Sx g F):=λb z=>z.elim (λz=>m.same s b z) (λz=>h2.dom b z);obtain⟨F2,a1,a2⟩:=h2.fit hf mm hgF λb z=>z
 have np:¬F2 p:=λz=>by
  obtain⟨o,q,_⟩:=h2.dom p (a1 p z);rw[hp] at q;cases q
 refine⟨λb=>b=p\/F2 b,λb z=>z.elim (λz=>z▸s.free hp) λz=>h1 b (a1 b z),?_⟩;show Tr _ _ _ _ _ _ _;unfold Tr;refine⟨p,o,vs,F2,rfl,am,ho,λ_=>np,λh=>by (rw[hm] at h;cases h),λb=>⟨λz=>z.imp (λz=>⟨hm,z⟩) id,λz=>z.imp (λz=>z.2) id⟩,?_⟩;refine(a2 (λb=>g b≠PV\/F2 b) λb z=>.inr (z.imp id λz=>.inl z)).go (λb o' _ e=>ao hp b o' e) λb o' e n z=>?_;rcases z with z|z|z
 ·exact n (.inl z)
 ·subst z;rw[hp] at e;cases e
 ·exact n (.inr z)
theorem VRs.tupO{kds:List KD}(hf:qG es r kds=PX)(m:MuOk H0 (Sg g))(s:Same H0 H)(h:VRs K g H0 H kds vs)(hp:H p=PV) :
  VR K g H0 (upd H p (.tup vs)) (.fr (.own es r)) (.tup (kds.map (·.2))) (.ref p):=by
 obtain⟨F,h1,h2⟩:=h
 have hgF:∀b,F b->g b=PV:=λb z=>by
  cases e:g b with
  |none=>rfl
  |some i=>
   obtain⟨o,q,_⟩:=m b (by rw[Sg,e];exact λh=>by cases h);rw[h1 b z] at q;cases q
 have mm:MuOk H (Sx g F):=λb z=>z.elim (λz=>m.same s b z) (λz=>h2.dom b z);obtain⟨F2,a1,a2⟩:=h2.fit hf mm hgF λb z=>z
 have np:¬F2 p:=λz=>by
  obtain⟨o,q,_⟩:=h2.dom p (a1 p z);rw[hp] at q;cases q
 refine⟨F2,λb z=>h1 b (a1 b z),?_⟩;show Tr _ _ _ _ _ _ _;unfold Tr
 refine⟨p,_,vs,F2,rfl,am,rfl,(λh=>nomatch h),λ_ z=>?_,λb=>⟨λz=>.inr z,λz=>z.elim (λz=>nomatch z.1) id⟩,?_⟩
 ·rcases z with z|z
  ·obtain⟨o,q,_⟩:=m.same s p z;rw[hp] at q;cases q
  ·exact np z
 ·exact(a2 (λb=>g b≠PV\/F2 b) λb z=>.inr (z.imp id λz=>.inl z)).go (λb o' _ e=>ao hp b o' e) λb o' e n z=>n z
end
noncomputable def ik(k:Ow)(a:Option (List KD)):Option KD:=match a with
 |some kds=>(match k with|.own es r=>if qG es r kds=PX/\kds.length<=100000 then PU (.fr (.own es r),.lst (kds.map (·.2))) else PV|.fz=>PV)
 |none=>PV
noncomputable def il(k:Ow)(a:Option (List KD)):Option KD:=match a with
 |some kds=>(match k with
  |.own es r=>if qG es r kds=PX/\kds.length<=100000 then PU (.fr (.own es r),.tup (kds.map (·.2))) else PV
  |.fz=>if(kds.all λp=>oy p.1 p.2)=PX/\kds.length<=100000 then PU (.sh,.tup (kds.map (·.2))) else PV)
 |none=>PV
section
variable {X:Cx} {Γ:eZ} {c:Cz}
theorem VRs.len{kds:List KD}{vs:List V}(h:VRs K g H0 H kds vs):vs.length=kds.length:=by
 have:=h.rd.len;rw[MY] at this;exact this
theorem Hl{f:Ro->Option (List KD)}(hf:fF X f es):SndE X (λρ=>ik k (f ρ)) (.List es pos):=by
 intro ρ kd d h g σ H Q se q;dsimp only[ik] at h;split at h
 ·rename_i kds e;split at h
  ·split at h
   ·rename_i hz;cases h;refine aL (mV ee) (hf ρ kds e g σ H _ se λvs H1 s1 r1=>⟨by rw[r1.len];exact bd hz.2,λp hp=>?_⟩);exact q _ _ (s1.trans (ao hp)) (r1.node hz.1 se.mu s1 hp rfl rfl)
   ·cases h
  ·cases h
 ·cases h
theorem Hm{f:Ro->Option (List KD)}{n:Nat}(hf:fF X f es):SndE X (λρ=>il k (f ρ)) (.Tuple es n pos):=by
 intro ρ kd d h g σ H Q se q;dsimp only[il] at h;split at h
 ·rename_i kds e;split at h
  ·split at h
   ·rename_i hz;cases h;refine aL (km ee) (hf ρ kds e g σ H _ se λvs H1 s1 r1=>⟨by rw[r1.len];exact bd hz.2,λp hp=>?_⟩);exact q _ _ (s1.trans (ao hp)) (r1.tupO hz.1 se.mu s1 hp)
   ·cases h
  ·split at h
   ·rename_i hz;cases h;refine aL (km ee) (hf ρ kds e g σ H _ se λvs H1 s1 r1=>⟨by rw[r1.len];exact bd hz.2,λp hp=>?_⟩);exact q _ _ (s1.trans (ao hp)) ((DJ (se.mu.same s1) hp (r1.sh hz.1 se.mu s1)).older s1)
   ·cases h
 ·cases h
noncomputable def dq:P0->Bool
 |.Slice ..=>PY
 |_=>PX
theorem dG(h:dq b=PX):sd b:=by
 intro o i
 cases b<;>first|rfl|cases h
noncomputable def Ju(k:Kd)(xs:List D)(i:Int):Option KD:=match kn xs.length i with|some j=>(xs[j]?).map λd=>(xf k j,d)|none=>PV
noncomputable def Ks(k:Kd)(x:D)(i:Int):Option KD:=match x with
 |.nd hd xs=>(match hd with|.lst=>Ju k xs i|.tup=>Ju k xs i|_=>PV)
 |.scr ns=>(L2.r9 ns i).map λd=>(.sh,.int d)
 |_=>PV
noncomputable def DP(x:D):Option (Nat×List DK×List D):=match x with
 |.nd hd xs=>(match hd with|.dic t ks=>PU (t,ks,xs)|_=>PV)
 |_=>PV
noncomputable def Hn(k:Kd)(p:Nat×List DK×List D)(y:D):Option KD:=PV
noncomputable def DQ(x y:KD):Option KD:=match DP x.2 with
 |some p=>Hn x.1 p y.2
 |none=>(match y.2 with|.int i=>Ks x.1 x.2 i|_=>PV)
noncomputable def uV(a b:Option KD):Option KD:=match a with
 |some x=>(match b with|some y=>DQ x y|none=>PV)
 |none=>PV
noncomputable def Mt(f:Str)(a:Option KD):Option KD:=match a with
 |some (ka,.nd (.obj _ ns) xs)=>(match bz f ns with|some j=>(xs[j]?).map λd=>(xf ka j,d)|none=>PV)
 |_=>PV
theorem zV{α β:Type}(f:α->β)(xs:List α)(i:Int):L2.r9 (xs.map f) i=(L2.r9 xs i).map f:=by
 unfold L2.r9;rw[MY]
 cases kn xs.length i with
 |none=>rfl
 |some j=>simp
theorem BQ{α β:Type}{o:Option α}{g:α->β}{b:β}(h:o.map g=PU b):∃a,o=PU a/\b=g a:=by
 cases o with
 |none=>cases h
 |some a=>cases h;exact⟨a,rfl,rfl⟩
theorem xj{xs:List D}{i:Int}{r:KD}(h:Ju k xs i=PU r):∃j,kn xs.length i=PU j/\xs[j]?=PU r.2/\r.1=xf k j:=by
 unfold Ju at h
 cases e:kn xs.length i with
 |none=>rw[e] at h;cases h
 |some j=>
  rw[e] at h;obtain⟨d,e1,e2⟩:=BQ h;exact⟨j,rfl,by rw[e1,e2],by rw[e2]⟩
theorem zW{p:Nat×List DK×List D}(h:DP x=PU p):x=.nd (.dic p.1 p.2.1) p.2.2:=by
 cases x with
 |nd hd xs=>cases hd with
  |dic t ks=>cases h;rfl
  |_=>cases h
 |_=>cases h
theorem sD{x y r:KD}(h:DQ x y=PU r):(∃i,y.2=.int i/\Ks x.1 x.2 i=PU r)\/∃p,x.2=.nd (.dic p.1 p.2.1) p.2.2/\Hn x.1 p y.2=PU r:=by
 unfold DQ at h
 cases e:DP x.2 with
 |some p=>rw[e] at h;exact .inr ⟨p,zW e,h⟩
 |none=>
  rw[e] at h;obtain⟨ky,dy⟩:=y
  cases dy with
  |int i=>exact .inl ⟨i,rfl,h⟩
  |_=>cases h
theorem sE{i:Int}{Q:VK}(h:Ks k dx i=PU (kd,d))(rx:VR K g H0 H2 k dx vx)(q:∀v,VR K g H0 H2 kd d v->Q v H2):L4 K vx (.int i) H2 Q:=by
 cases dx with
 |nd hd xs=>cases hd with
  |lst=>
   obtain⟨j,hj,e,rfl⟩:=xj h;obtain⟨p,o,us,rfl,g1,q1,l1,c1⟩:=rx.ch;cases(show o=_ from q1);obtain⟨v,e1,e2⟩:=c1 j _ e;exact .inl ⟨p,us,i,v,rfl,rfl,.of g1,by unfold L2.r9;rw[l1,hj];exact e1,q v e2⟩
  |tup=>
   obtain⟨j,hj,e,rfl⟩:=xj h;obtain⟨p,o,us,rfl,g1,q1,l1,c1⟩:=rx.ch;cases(show o=_ from q1);obtain⟨v,e1,e2⟩:=c1 j _ e;exact .inr (.inl ⟨p,us,i,v,rfl,rfl,.of g1,by unfold L2.r9;rw[l1,hj];exact e1,q v e2⟩)
  |_=>cases h
 |scr ns=>
  obtain⟨d',e,e'⟩:=BQ (show(L2.r9 ns i).map _=PU (kd,d) from h);cases e';obtain⟨p,rfl,g1⟩:=rx.rd.scr;exact .inl ⟨p,_,i,.int d',rfl,rfl,g1,by rw[zV,e];rfl,q _ nk⟩
 |_=>cases h
theorem Ku(O:al X Γ c){fa fb:Ro->Option KD}{a b:P0}{pos:Pos}(ha:SndE X fa a)(hb:SndE X fb b)(hp:dq b=PX):SndE X (λρ=>uV (fa ρ) (fb ρ)) (.Subscript a b pos):=by
 intro ρ kd d h g σ H Q se q;dsimp only[uV] at h
 cases ea:fa ρ with
 |none=>rw[ea] at h;cases h
 |some x=>cases eb:fb ρ with
  |none=>rw[ea,eb] at h;cases h
  |some y=>
   rw[ea,eb] at h;obtain⟨kx,dx⟩:=x;obtain⟨ky,dy⟩:=y;rcases sD h with⟨i,e,hh⟩|⟨p,e,hh⟩
   ·cases(show dy=_ from e);refine aL (oN mZ aF aF (dG hp)) (two ha hb ea eb se λvx vy H' s rx ry=>?_);obtain rfl:=ry.rd.int;exact sE hh rx λv r=>q v H' s r
   ·cases hh
noncomputable def qH(xs:List D)(lo hi:Option Int):List D:=(xs.drop (HT.lu xs.length 0 lo)).take (HT.lu xs.length xs.length hi-HT.lu xs.length 0 lo)
theorem RpL.cut(h:RpL K H S ds vs)(lo hi:Option Int):RpL K H S (qH ds lo hi) (uK vs lo hi):=by
 unfold qH uK;rw[h.len];exact(h.drop _).take _
noncomputable def wO(X:Cx)(e:Option P0):TO:=λσ H Q=>∃t,PO X e t/\t σ H Q
theorem xk:PO X e (wO X e):=λpins s σ H Q I h=>let ⟨t,p,q⟩:=h;p pins s σ H Q I q
noncomputable def uW(X:Cx)(f:Ro->Option (Option Int))(e:Option P0):Prop:=∀ρ o,f ρ=PU o->∀g σ H Q,SE X.K g ρ σ H->(∀H',Same H H'->Q o H')->wO X e σ H Q
noncomputable def zX(a:Option KD):Option (Option Int):=match a with|some (_,.int i)=>PU (PU i)|_=>PV
theorem DR:uW X (λ_=>PU PV) PV:=λρ o h g σ H Q se q=>by cases h;exact⟨_,zA,q H (Same.refl H)⟩
theorem DS{f:Ro->Option KD}(hf:SndE X f e):uW X (λρ=>zX (f ρ)) (PU e):=λρ o h g σ H Q se q=>by
 dsimp only[zX] at h;split at h
 ·rename_i k i ea;cases h;exact⟨_,zB aF,hf ρ _ _ ea g σ H _ se λv H' s r=>⟨i,r.rd.int,q H' s⟩⟩
 ·cases h
noncomputable def Ga(a:Option KD)(lo hi:Option (Option Int)):Option KD:=match a,lo,hi with
 |some (ka,.nd .lst xs),PU l,PU u=>if jK ka xs=PX then PU (.fr bQ,.lst (qH xs l u)) else PV
 |some (_,.scr ns),PU l,PU u=>PU (.fr bQ,.lst (qH (ns.map .int) l u))
 |_,_,_=>PV
theorem Kv{fa:Ro->Option KD}{fl fh:Ro->Option (Option Int)}(ha:SndE X fa a)(hl:uW X fl lo)(hh:uW X fh hi):SndE X (λρ=>Ga (fa ρ) (fl ρ) (fh ρ)) (.Subscript a (.Slice lo hi PV p2) pos):=by
 intro ρ kd d h g σ H Q se q;dsimp only[Ga] at h;split at h
 ·rename_i ka xs l u ea el eu;split at h
  ·rename_i hk;cases h;refine aL (oK sg aF xk xk) (ha ρ _ _ ea g σ H _ se λx H1 s1 rx=>hl ρ _ el g σ H1 _ (se.same s1) λH2 s2=>hh ρ _ eu g σ H2 _ ((se.same s1).same s2) λH3 s3=>?_);obtain⟨p,o,us,rfl,g1,q1,r⟩:=((rx.same s2).same s3).items hk se.mu ((s1.trans s2).trans s3);cases(show o=_ from q1);exact⟨p,us,rfl,.of g1,λp' hp'=>q _ _ (((s1.trans s2).trans s3).trans (ao hp')) ((uT hp' (r.cut l u)).older ((s1.trans s2).trans s3))⟩
  ·cases h
 ·rename_i ka ns l u ea el eu;cases h;refine aL (oK sg aF xk xk) (ha ρ _ _ ea g σ H _ se λx H1 s1 rx=>hl ρ _ el g σ H1 _ (se.same s1) λH2 s2=>hh ρ _ eu g σ H2 _ ((se.same s1).same s2) λH3 s3=>?_);obtain⟨p,rfl,g1⟩:=((rx.same s2).same s3).rd.scr;exact⟨p,_,rfl,g1,λp' hp'=>q _ _ (((s1.trans s2).trans s3).trans (ao hp')) ((uT hp' ((RpL.ints ns).cut l u)).older ((s1.trans s2).trans s3))⟩
 ·cases h
theorem RpL.pick{ds:List D}{us:List V}(r:RpL K H S ds us):∀is:List Nat,RpL K H S (is.filterMap λi=>ds[i]?) (is.filterMap λi=>us[i]?)
 |[]=>.nil
 |i::is=>by
  have ih:=RpL.pick r is;by_cases h:i<ds.length
  ·obtain⟨u,e1,e2⟩:=r.getD (Na h);rw[Nr,Nr,Na h,e1];exact .cons e2 ih
  ·rw[Nr,Nr,NL (by lia),NL (by rw[r.len];lia)];exact ih
noncomputable def Ho(x:KD)(l:Option Int)(d:D):Option KD:=match x.2 with
 |.nd hd xs=>(match hd with
  |.lst=>(match d with|.int k=>if jK x.1 xs=PX/\1<=k then PU (.fr bQ,.lst (G.cJ xs l (PU k))) else PV|_=>PV)
  |_=>PV)
 |_=>PV
noncomputable def uX(a:Option KD)(lo:Option (Option Int))(b:Option KD):Option KD:=match a with
 |some x=>(match lo with|some l=>(match b with|some y=>Ho x l y.2|none=>PV)|none=>PV)
 |none=>PV
theorem Hq{fa fs:Ro->Option KD}{fl:Ro->Option (Option Int)}{a st:P0}{lo:Option P0}{p2 pos:Pos}(ha:SndE X fa a)(hl:uW X fl lo)(hs:SndE X fs st):SndE X (λρ=>uX (fa ρ) (fl ρ) (fs ρ)) (.Subscript a (.Slice lo PV (PU st) p2) pos):=by
 intro ρ kd d h g σ H Q se q;dsimp only at h
 cases ea:fa ρ with
 |none=>rw[ea] at h;cases h
 |some x=>cases el:fl ρ with
  |none=>rw[ea,el] at h;cases h
  |some l=>cases es:fs ρ with
   |none=>rw[ea,el,es] at h;cases h
   |some y=>
    rw[ea,el,es] at h;have h:Ho x l y.2=PU (kd,d):=h;obtain⟨kx,dx⟩:=x;obtain⟨ky,dy⟩:=y
    cases dx with
    |nd hd xs=>cases hd with
     |lst=>cases dy with
      |int k=>
       obtain⟨hk,e⟩:=w9 (show(if jK kx xs=PX/\1<=k then PU (Kd.fr bQ,D.lst (G.cJ xs l (PU k))) else PV)=PU (kd,d) from h)
       cases e;refine aL (G.DH aF xk aF) (ha ρ _ _ ea g σ H _ se λv H1 s1 rx=>hl ρ _ el g σ H1 _ (se.same s1) λH2 s2=>hs ρ _ _ es g σ H2 _ ((se.same s1).same s2) λw H3 s3 ry=>?_);have s13:=(s1.trans s2).trans s3;obtain⟨p,o,us,rfl,g1,q1,rr⟩:=((rx.same s2).same s3).items hk.1 se.mu s13;cases(show o=_ from q1);obtain rfl:=ry.rd.int
       have rp:RpL X.K H3 (Sg g) (G.cJ xs l (PU k)) (G.cJ us l (PU k)):=by
        unfold G.cJ;rw[rr.len];exact rr.pick _
       exact⟨p,us,k,rfl,rfl,by lia,.of g1,λp' hp'=>q _ _ (s13.trans (ao hp')) ((uT hp' rp).older s13)⟩
      |_=>cases h
     |_=>cases h
    |_=>cases h
noncomputable def qI(a b:Option KD):Option KD:=match a,b with
 |some (ka,.nd .lst xs),PU (_,.int i)=>if i=-1/\jK ka xs=PX then PU (.fr bQ,.lst xs.reverse) else PV
 |_,_=>PV
theorem Hr{fa fs:Ro->Option KD}{a st:P0}{p2 pos:Pos}(ha:SndE X fa a)(hs:SndE X fs st):SndE X (λρ=>qI (fa ρ) (fs ρ)) (.Subscript a (.Slice PV PV (PU st) p2) pos):=by
 intro ρ kd d h g σ H Q se q;dsimp only[qI] at h;split at h
 ·rename_i ka xs kb i ea eb;split at h
  ·rename_i hi;obtain⟨rfl,hk⟩:=hi;cases h;refine aL (DC aF aF) (two ha hs ea eb se λx y H' s rx ry=>?_);obtain⟨p,o,us,rfl,g1,q1,r⟩:=rx.items hk se.mu s;cases(show o=_ from q1);obtain rfl:=ry.rd.int;exact⟨p,us,rfl,rfl,.of g1,λp' hp'=>q _ _ (s.trans (ao hp')) ((uT hp' r.reverse).older s)⟩
  ·cases h
 ·cases h
end
end J
namespace J
open PySem PySem.Spec L2
section
variable {X:Cx} {pins:List (P1×Obj)} {σ:L2.St} {H:Hp} {s:P2} {S:Pr}
end
end J
namespace G
open PySem PySem.Spec PyProof.Rows L2
section
variable {X:Cx}
end
end G
namespace G
open PySem PySem.Spec PyProof.Rows L2
noncomputable def Ri(xs:Array Nat):Prop:=xs.toList.Pairwise (· < ·)
structure Gd(led:Bool)(t:SetTable):Prop where
 ri:Ri t.place
 nod:t.dummies=#[]
 led:t.led=led
noncomputable def ns(es:List (Int×PZ)):List Int:=es.map λe=>numOf e.2
noncomputable def addI(ms:List Int)(k:Int):List Int:=if k∈ms then ms else ms++[k]
section
variable {prog:P6} {w:P8} {A:Qc} {E:PZ->P2->Prop} {s:P2}
end
section
variable {prog:P6} {w:P8} {A:Qc} {R:Result->P2->Prop} {J:P1} {fp wr:List P1} {GG:Array GenState->Array GenState->Prop} {n:Nat} {P:Nat->PZ->Prop} {St:Nat->P2->Prop}
end
section
variable {prog:P6} {w:P8} {A:Qc} {E:PZ->P2->Prop} {s:P2}
end
end G
namespace G
open PySem PySem.Spec PyProof.Rows L2
section
variable {prog:P6} {w:P8} {A:Qc} {E:PZ->P2->Prop} {s:P2}
end
section
variable {prog:P6} {w:P8}
end
section
variable {prog:P6} {w:P8} {A:Qc} {E:PZ->P2->Prop} {s:P2}
end
end G
namespace G
open PySem PySem.Spec PyProof.Rows L2
section
variable {prog:P6} {w:P8} {A:Qc} {E:PZ->P2->Prop} {s:P2}
end
section
variable {X:Cx}
end
end G
namespace G
open PySem PySem.Spec PyProof.Rows L2
section
variable {prog:P6} {w:P8} {A:Qc} {E:PZ->P2->Prop} {s:P2} {R:Result->P2->Prop}
end
section
variable {X:Cx}
end
end G
namespace G
open PySem PySem.Spec PyProof.Rows L2
section
variable {X:Cx}
end
end G
namespace J
open PySem PySem.Spec L2
section
variable {X:Cx}
theorem o3:hU X (.builtin "isinstance") (λxs H Q=>∃x T t b,xs=[x,.ty T]/\hV X.K H x t/\NW X.K t (.type T)=PU b/\Q (.bl b) H):=by
 intro pins s σ H xs us Q I r h;obtain⟨x,T,t,b,rfl,ty,e,q⟩:=h;obtain⟨u,w',rfl,r1,r2⟩:=wB r;cases r2;exact uI I r1 ty e λtk=>⟨.bl b,H,I.tok _,rfl,q⟩
theorem l4:hU X (.type "int") (λxs H Q=>∃b:Bool,xs=[.bl b]/\Q (.int (if b then 1 else 0)) H):=by
 intro pins s σ H xs us Q I r h;obtain⟨b,rfl,q⟩:=h;obtain⟨u,rfl,rx⟩:=lL r;cases rx;exact call_int_bool ⟨.int _,H,I.tok _,⟨_,rfl⟩,q⟩
end
noncomputable def DT:D->Option Nat
 |.nd .lst ds=>PU ds.length
 |.nd .tup ds=>PU ds.length
 |.scr ns=>PU ns.length
 |_=>PV
noncomputable def sH:List D->Option (List Bool)
 |[]=>PU []
 |.bl b::r=>(sH r).map (b::·)
 |_=>PV
noncomputable def xl:List D->Option (List Int)
 |[]=>PU []
 |.int b::r=>(xl r).map (b::·)
 |_=>PV
noncomputable def xm(kds:List KD):Option KD:=match kds with|[(_,d)]=>(DT d).map λn=>(.sh,.int n)|_=>PV
noncomputable def Mu(kds:List KD):Option KD:=match kds with|[(_,.nd .lst ds)]=>(sH ds).map λbs=>(.sh,.bl (bs.all id))|_=>PV
noncomputable def DU:Kd->Kd
 |.fr (.own es (.own es' r))=>.fr (.own es (.own es' r))
 |_=>.sh
noncomputable def qJ(kds:List KD):Option KD:=match kds with
 |[(k,.nd .lst ds)]=>if jK k ds=PX then PU (DU k,.tup ds) else PV
 |_=>PV
noncomputable def Mv(kds:List KD):Option KD:=match kds with|[(_,.int i)]=>if i.natAbs.log2<1920 then PU (.sh,.str (toString i)) else PV|_=>PV
noncomputable def Kw(n:Int)(ns:List Int):Int:=ns.foldl (λa b=>if a<b then b else a) n
noncomputable def Mw(kds:List KD):Option KD:=match kds with
 |[(_,.int i),(_,.int j)]=>PU (.sh,.int (if j > i then j else i))
 |[(_,.nd .lst ds)]=>(match J.xl ds with|some (n::ns)=>PU (.sh,.int (Kw n ns))|_=>PV)
 |_=>PV
noncomputable def DV(kds:List KD):Option KD:=match kds with|[(_,.int i)]=>PU (.sh,.int (if i<0 then -i else i))|_=>PV
noncomputable def DW(kds:List KD):Option KD:=match kds with|[(_,.bl b)]=>PU (.sh,.int (if b then 1 else 0))|_=>PV
noncomputable def aE(ps:List (Int×D)):D:=.nd (.dic 0 (ps.map λp=>Sum.inl (Sum.inl p.1))) (ps.map (·.2))
noncomputable def jD(x:Str):List KD->Option KD:=
 if x="len" then xm else if x="all" then(λ_=>PV) else if x="any" then(λ_=>PV) else if x="list" then(λ_=>PV) else if x="tuple" then qJ else if x="str" then(λ_=>PV) else if x="sum" then(λ_=>PV)
 else if x="min" then(λ_=>PV) else if x="max" then(λ_=>PV) else if x="abs" then DV else if x="int" then DW else if x="dict" then(λ_=>PV) else if x="repr" then(λ_=>PV) else λ_=>PV
noncomputable def qK(x:Str)(a:Option (List KD)):Option KD:=match a with|some kds=>jD x kds|none=>PV
noncomputable def L8(X:Cx)(kds:List KD)(kd:Kd)(d:D)(Q:VK)(vs:List V)(H1:Hp):Prop:=∃g H0,MuOk H0 (Sg g)/\Same H0 H1/\VRs X.K g H0 H1 kds vs/\∀v H',Same H1 H'->VR X.K g H0 H' kd d v->Q v H'
noncomputable def StrictOk(X:Cx)(f:List KD->Option KD)(es:List P0)(node:P0):Prop:=∀kds kd d,f kds=PU (kd,d)->∀σ H Q,wA X es σ H (L8 X kds kd d Q)->wE X node σ H Q
theorem cY{H:Hp}{Q Q':List V->Hp->Prop}(h:wA X es σ H Q)(k:∀vs H,Q vs H->Q' vs H):wA X es σ H Q':=λpos pins s I=>bx (h pos pins s I) λus s' ⟨vs,H',I',r,q⟩=>⟨vs,H',I',r,k vs H' q⟩
theorem fY{H:Hp}{Q Q':VK}(h:wE X e σ H Q)(k:∀v H,Q v H->Q' v H):wE X e σ H Q':=λpins s I=>bx (h pins s I) λu s' ⟨v,H',I',r,q⟩=>⟨v,H',I',r,k v H' q⟩
theorem StrictOk.snd{fa:Ro->Option (List KD)}(h:StrictOk X f es node)(ha:fF X fa es):SndE X (λρ=>(fa ρ).bind f) node:=by
 intro ρ kd d hd g σ H Q se q;dsimp only at hd
 cases e:fa ρ with
 |none=>rw[e] at hd;cases hd
 |some kds=>
  rw[e] at hd;exact h kds kd d hd σ H Q (ha ρ kds e g σ H _ se λvs H1 s1 r1=>⟨g,H,se.mu,s1,r1,λv H' s r=>q v H' (s1.trans s) r⟩)
noncomputable def ip(X:Cx)(x:Str)(f:List KD->Option KD):Prop:=∀(e:P0) (es:List P0) (p pos:Pos),Gl X x->ag e=PX->es.all ag=PX->StrictOk X f (e::es) (.Call (.Name x p) (e::es) [] pos)
section
variable {X:Cx} {Γ:eZ} {c:Cz}
theorem Hs(O:al X Γ c):ip X "len" xm:=by
 intro e es p pos hg n1 n2 kds kd d h σ H Q hA;unfold xm at h;split at h
 ·rename_i ka da
  cases hl:DT da with
  |none=>rw[hl] at h;cases h
  |some n=>
   rw[hl] at h;cases h;refine aL (d9 (m8) hg (O.tab.bl _ (by simp[aR])) PySem.boot_len ee (by decide) (by decide) (ai n1) (cy n2)) (cY hA λvs H1 ⟨g,H0,m,s1,r1,q⟩=>?_);obtain⟨v,rfl,r⟩:=r1.one;have t:=r.rd
   cases da with
   |scr ns=>
    obtain⟨a,rfl,g1⟩:=t.scr;cases hl;exact⟨a,_,rfl,.inl g1,q _ H1 (Same.refl H1) (by rw[MY];exact nk)⟩
   |nd hd ds=>
    obtain⟨a,o,us,rfl,_,g1,q1,rr⟩:=t.nd
    cases hd with
    |lst=>cases hl;cases(show o=_ from q1);exact⟨a,us,rfl,.inl (.of g1),q _ H1 (Same.refl H1) (by rw[rr.len];exact nk)⟩
    |tup=>cases hl;cases(show o=_ from q1);exact⟨a,us,rfl,.inr (.of g1),q _ H1 (Same.refl H1) (by rw[rr.len];exact nk)⟩
    |dic tt ks=>cases hl
    |obj c ns=>cases hl
   |_=>cases hl
 ·cases h
theorem xn{H0 H1:Hp}(m:MuOk H0 (Sg g))(s1:Same H0 H1)(h:VR K g H0 H1 (.fr (.own es r)) (.nd .lst ds) v) :
  ∃a us,v=.ref a/\H1 a=PU (.lst us)/\∀l,H1 l=PV->VR K g H0 (upd H1 l (.tup us)) (.fr (.own es r)) (.tup ds) (.ref l):=by
 obtain⟨F,h1,h2⟩:=h;have h2:Tr K H1 (Sx g F) (.nd .lst ds) (.own es r) v F:=h2;unfold Tr at h2;obtain⟨a,o,xs,F',rfl,g1,q1,n1,n2,hF,t⟩:=h2;cases(show o=_ from q1);refine⟨a,xs,rfl,g1,λl hl=>⟨F',λb z=>h1 b ((hF b).mpr (.inr z)),?_⟩⟩;show Tr K _ _ (.nd .tup ds) (.own es r) _ _;unfold Tr
 refine⟨l,.tup xs,xs,F',rfl,am,rfl,(λh=>nomatch h),λ_ z=>?_,λb=>⟨.inr,λz=>z.elim (λz=>nomatch z.1) id⟩,t.go (λb o _ e=>ao hl b o e) λb o _ n z=>n (z.imp id λz=>(hF b).mpr (.inr z))⟩
 rcases z with z|z
 ·obtain⟨o,e,_⟩:=m.same s1 l z;rw[hl] at e;cases e
 ·obtain⟨o,e,_⟩:=t.dom l z;rw[hl] at e;cases e
theorem zY(O:al X Γ c):ip X "tuple" qJ:=by
 intro e es p pos hg n1 n2 kds kd d h σ H Q hA;unfold qJ at h;split at h
 ·rename_i ka ds;split at h
  ·rename_i hk;cases h;refine aL (iX lx hg (O.tab.bl _ (by simp[aR])) PyProof.Rows.boot_tuple ee (by decide) (by decide) (ai n1) (cy n2)) (cY hA λvs H1 ⟨g,H0,m,s1,r1,q⟩=>?_);obtain⟨v,rfl,r⟩:=r1.one;unfold DU at q;split at q
   ·obtain⟨a,us,rfl,g1,z⟩:=xn m s1 r;exact⟨a,us,rfl,.inl ⟨.of g1,λl hl=>q _ _ (ao hl) (z l hl)⟩⟩
   obtain⟨a,o,us,rfl,g1,q1,rr⟩:=r.items hk m s1;cases(show o=_ from q1);exact⟨a,us,rfl,.inl ⟨.of g1,λl hl=>q _ _ (ao hl) ((DJ (m.same s1) hl rr).older s1)⟩⟩
  ·cases h
 ·cases h
theorem xo{e:P0}(h:ag e=PX):((backTo cp (Qb [e] env)).all (λx=>!x.1)&&(backToKw cp (keywordEach [] env)).all (λx=>x.1.isSome)
      && decide ([e].length+([]:List Keyword).length+(if([]:List Keyword).isEmpty then 0 else 1)<30))=PX:=by
  rw[ai h];rfl
noncomputable def kG:P0->Bool
 |.Name x _=>!(x==("super":Str))
 |.Subscript ..=>PX
 |.Attribute ..=>PX
 |_=>PY
theorem sI{m:Str}(h:kG b=PX):attributeBase b m env w=w:=by
 cases b with
 |Name x p=>
  unfold attributeBase;have h:(x==("super":Str))=PY:=by simpa[kG] using h
  simp[h]
 |Subscript a b p=>rfl
 |Attribute a b p=>rfl
 |_=>cases h
inductive Kx (X:Cx) (ρ:Ro):List (Option Expr)->List Expr->List aS->List KD->Prop
 |nil:Kx X ρ [] [] [] []
 |cons {k v:P0} {kD:D} {x:aS} {kv:Kd} {d:D} {f:Ro->Option KD} {ks:List (Option P0)} {vs:List P0} {xs:List aS} {kds:List KD}:SndE X (λ_=>PU (.sh,kD)) k->fH kD=PU x->SndE X f v->f ρ=PU (kv,d)->oy kv d=PX->Kx X ρ ks vs xs kds->Kx X ρ (PU k::ks) (v::vs) (x::xs) ((kv,d)::kds)
noncomputable def js(m:Nat)(k a:Option KD):Option KD:=match k,a with
 |some (_,dk),PU (kv,d)=>(match lA dk with
  |some (.inr xs)=>if BL m xs=PX/\oy kv d=PX then PU (.fr bQ,.nd (.dic (m+1) [.inr xs]) [d]) else PV
  |_=>PV)
 |_,_=>PV
theorem DX(O:al X Γ c){fk fa:Ro->Option KD}{m:Nat}{k a:P0}{pos:Pos}(hk:SndE X fk k)(ha:SndE X fa a):SndE X (λρ=>js m (fk ρ) (fa ρ)) (.Dict [PU k] [a] pos):=by
 intro ρ kd d h g σ H Q se q;dsimp only[js] at h;split at h
 ·rename_i kk dk kv dv ek ea;split at h
  ·rename_i xs hx;obtain⟨hz,e⟩:=w9 h;cases e;refine aL (zJ (m:=m) (by have:=O.tab.units;lia) aF aF) λp hp=>?_
   have se1:SE X.K (g.plus λb=>b=p) ρ σ (upd H p (.dT m 0 [])):=se.plus (ao hp) (λb z=>z▸hp) λb z=>⟨.dT m 0 [],by rw[z];exact am,λxs e=>nomatch e⟩
   refine hk ρ _ _ ek _ σ _ _ se1 λx1 H1 s1 rx=>ha ρ _ _ ea _ σ H1 _ (se1.same s1) λy H2 s2 ry=>?_;rcases kE hx rx.rd with⟨x,e,_⟩|⟨ys,b,e,rfl,gb⟩
   ·cases e
   cases e;have rp:Rp X.K H2 (Sg (g.plus λb=>b=p)) dv y:=ry.sh hz.2 (se1.same s1).mu s2;refine⟨s2 _ _ (s1 _ _ am),xs,b,rfl,(gb m hz.1).keep λc zs ec=>s2 _ _ ec,λep=>q _ _ (λb o e=>?_) ?_⟩
   ·rw[ah (av e hp)];exact s2 _ _ (s1 _ _ (ao hp b o e))
   ·refine⟨λb=>b=p,λb z=>z▸hp,?_⟩;show Tr X.K _ _ _ _ _ _;unfold Tr
    refine⟨p,_,[y],λ_=>False,rfl,am,.inr ⟨m,rfl,[(xs,y)],ep,rfl,rfl,rfl⟩,λ_ z=>z,(λh=>nomatch h),λb=>⟨λz=>.inl ⟨rfl,z⟩,λz=>z.elim (λz=>z.2) λz=>z.elim⟩,.ofFz (.cons (rp.go λb o n e=>?_) .nil)⟩
    have nb:¬(Sg g b\/b=p):=λz=>n ((ar b).mpr z);exact⟨by rw[ah λz=>nb (.inr z)];exact e,nb⟩
  ·cases h
 ·cases h
theorem Ht(O:al X Γ c):ip X "abs" DV:=by
 intro e es p pos hg n1 n2 kds kd d h σ H Q hA;unfold DV at h;split at h
 ·rename_i ka i;cases h;refine aL (d9 wC hg (O.tab.bl _ (by simp[aR])) PyProof.Rows.boot_abs ee (by decide) (by decide) (ai n1) (cy n2)) (cY hA λvs H1 ⟨g,H0,m,s1,r1,q⟩=>?_);obtain⟨v,rfl,r⟩:=r1.one;obtain rfl:=r.rd.int;exact⟨i,rfl,q _ H1 (Same.refl H1) nk⟩
 ·cases h
theorem Hu(O:al X Γ c):ip X "int" DW:=by
 intro e es p pos hg n1 n2 kds kd d h σ H Q hA;unfold DW at h;split at h
 ·rename_i ka b;cases h;refine aL (iX l4 hg (O.tab.bl _ (by simp[aR])) PyProof.Rows.boot_int ee (by decide) (by decide) (ai n1) (cy n2)) (cY hA λvs H1 ⟨g,H0,m,s1,r1,q⟩=>?_);obtain⟨v,rfl,r⟩:=r1.one;obtain rfl:=r.rd.bl;exact⟨b,rfl,q _ H1 (Same.refl H1) nk⟩
 ·cases h
theorem eh{x:Str}:ip X x (λ_=>PV):=λe es p pos hg n1 n2 kds kd d h=>by cases h
theorem i5{x y:Str}(h1:x=y->ip X x f)(h2:ip X x g):ip X x (if x=y then f else g):=by
 by_cases h:x=y
 ·rw[if_pos h];exact h1 h
 ·rw[if_neg h];exact h2
theorem xp(O:al X Γ c)(x:Str):ip X x (jD x):=by
 unfold jD;refine i5 (λh=>?_) ?_
 ·first|exact eh|(subst h;exact Hs O)
 refine i5 (λh=>?_) ?_
 ·first|exact eh|(subst h;exact b_all O)
 refine i5 (λh=>?_) ?_
 ·first|exact eh|(subst h;exact b_any O)
 refine i5 (λh=>?_) ?_
 ·first|exact eh|(subst h;exact b_list O)
 refine i5 (λh=>?_) ?_
 ·first|exact eh|(subst h;exact zY O)
 refine i5 (λh=>?_) ?_
 ·first|exact eh|(subst h;exact b_str O)
 refine i5 (λh=>?_) ?_
 ·first|exact eh|(subst h;exact b_sum O)
 refine i5 (λh=>?_) ?_
 ·first|exact eh|(subst h;exact b_min O)
 refine i5 (λh=>?_) ?_
 ·first|exact eh|(subst h;exact b_max O)
 refine i5 (λh=>?_) ?_
 ·first|exact eh|(subst h;exact Ht O)
 refine i5 (λh=>?_) ?_
 ·first|exact eh|(subst h;exact Hu O)
 refine i5 (λh=>?_) ?_
 ·first|exact eh|(subst h;exact b_dict O)
 refine i5 (λh=>?_) ?_
 ·first|exact eh|(subst h;exact b_repr O)
 ·intro e es p pos hg n1 n2 kds kd d h;cases h
theorem Hv(O:al X Γ c){x:Str}{e:P0}{es:List P0}{p pos:Pos}{fa:Ro->Option (List KD)}(hf:fF X fa (e::es))(hg:eK c.sc x=PX)(n1:ag e=PX)(n2:es.all ag=PX):SndE X (λρ=>qK x (fa ρ)) (.Call (.Name x p) (e::es) [] pos):=by
 have:=(xp O x e es p pos (bp O hg) n1 n2).snd hf
 rw[show(λρ=>qK x (fa ρ))=λρ=>(fa ρ).bind (jD x) by funext ρ;unfold qK;cases fa ρ<;>rfl]
 exact this
end
end J
namespace J
open PySem PySem.Spec L2
inductive Src where
 |non|l (a:P1) (ds:List D)|t (a:P1) (ds:List D)|two (s u:Src)
noncomputable def Src.P(K:MW):Src->Gh->Hp->Prop
 |.non,_,_=>True
 |.l a ds,g,H=>∃xs,SqL K H a xs/\RpL K H (Sg g) ds xs
 |.t a ds,g,H=>∃xs,SqT K H a xs/\RpL K H (Sg g) ds xs
 |.two s u,g,H=>s.P K g H/\u.P K g H
noncomputable def Src.isL(b:P1):Src->Prop
 |.non=>False
 |.l a _=>a=b
 |.t _ _=>False
 |.two s u=>s.isL b\/u.isL b
noncomputable def Src.isT(b:P1):Src->Prop
 |.non=>False
 |.l _ _=>False
 |.t a _=>a=b
 |.two s u=>s.isT b\/u.isT b
noncomputable def Src.from(g:Gh)(H:Hp)(bs:List Nat):Src->Prop
 |.non=>True
 |.l a _=>g a=PV\/∃i∈bs,g a=PU (PU i)
 |.t a _=>g a=PV
 |.two s u=>s.from g H bs/\u.from g H bs
theorem Src.from.from_l{g:Gh}{bs:List Nat}{b:P1}:∀{s:Src},s.from g H bs->s.isL b->g b=PV\/∃i∈bs,g b=PU (PU i)
 |.l a _,h,e=>by cases(show a=b from e);exact h
 |.two s u,h,e=>by
  rcases(show s.isL b\/u.isL b from e) with e|e
  ·exact Src.from.from_l (show s.from g H bs/\u.from g H bs from h).1 e
  ·exact Src.from.from_l (show s.from g H bs/\u.from g H bs from h).2 e
 |.non,_,e=>e.elim
 |.t _ _,_,e=>e.elim
theorem Src.from.from_t{g:Gh}{bs:List Nat}{b:P1}:∀{s:Src},s.from g H bs->s.isT b->g b=PV
 |.t a _,h,e=>by cases(show a=b from e);exact h
 |.two s u,h,e=>by
  rcases(show s.isT b\/u.isT b from e) with e|e
  ·exact Src.from.from_t (show s.from g H bs/\u.from g H bs from h).1 e
  ·exact Src.from.from_t (show s.from g H bs/\u.from g H bs from h).2 e
 |.non,_,e=>e.elim
 |.l _ _,_,e=>e.elim
theorem Src.from.from_H{bs:List Nat}:∀{s:Src},s.from g H bs->s.from g H' bs
 |.t a _,h=>h
 |.l a _,h=>h
 |.non,_=>trivial
 |.two s u,h=>⟨Src.from.from_H (show s.from g H bs/\u.from g H bs from h).1,Src.from.from_H (show s.from g H bs/\u.from g H bs from h).2⟩
theorem Src.from.from_mono{bs bs':List Nat}(k:∀i∈bs,i∈bs'):∀{s:Src},s.from g H bs->s.from g H bs'
 |.t a _,h=>h
 |.l a _,h=>Or.imp_right (λ⟨i,h1,h2⟩=>⟨i,k i h1,h2⟩) h
 |.non,_=>trivial
 |.two s u,h=>⟨Src.from.from_mono k (show s.from g H bs/\u.from g H bs from h).1,Src.from.from_mono k (show s.from g H bs/\u.from g H bs from h).2⟩
section
variable {K:MW} {H H':Hp} {g g':Gh}
theorem xq(k:∀o,H a=PU o->H' a=PU o)(h:SqL K H a xs):SqL K H' a xs:=by
 rcases h with(h|⟨o,h⟩)|h
 ·exact .inl (.inl (k _ h))
 ·exact .inl (.inr ⟨o,k _ h⟩)
 ·exact .inr h
theorem xr(k:∀o,H a=PU o->H' a=PU o)(h:SqT K H a xs):SqT K H' a xs:=by
 rcases h with(h|⟨o,h⟩)|h
 ·exact .inl (.inl (k _ h))
 ·exact .inl (.inr ⟨o,k _ h⟩)
 ·exact .inr h
theorem Src.mono(k2:∀b o,H b=PU o->¬Sg g b->¬Sg g' b):∀{s:Src},(∀b o,(¬Sg g b\/s.isL b)->H b=PU o->H' b=PU o)->(∀a,s.isT a->g a=PV)->s.P K g H->s.P K g' H'
 |.non,_,_,_=>trivial
 |.l a ds,k,ht,h=>by
  obtain⟨xs,h1,h2⟩:=h;exact⟨xs,xq (λo e=>k a o (.inr rfl) e) h1,h2.go λb o n e=>⟨k b o (.inl n) e,k2 b o e n⟩⟩
 |.t a ds,k,ht,h=>by
  obtain⟨xs,h1,h2⟩:=h;exact⟨xs,xr (λo e=>k a o (.inl (by rw[Sg,ht a rfl];simp)) e) h1,h2.go λb o n e=>⟨k b o (.inl n) e,k2 b o e n⟩⟩
 |.two s u,k,ht,h=>⟨Src.mono k2 (λb o z=>k b o (z.imp id .inl)) (λa z=>ht a (.inl z)) (show s.P K g H/\u.P K g H from h).1,Src.mono k2 (λb o z=>k b o (z.imp id .inr)) (λa z=>ht a (.inr z)) (show s.P K g H/\u.P K g H from h).2⟩
end
noncomputable def iq(K:MW)(J:It)(s:Src)(ds:List D):Prop:=∀(i:Nat) (g:Gh) (H:Hp),s.P K g H->MuOk H (Sg g)->
 (ds.length<=i->J.stop i H)/\∀d,ds[i]?=PU d->J.go i H/\∀x H',J.yld i H x H'->Same H H'/\Rp K H' (Sg g) d x
section
variable {K:MW}
theorem DY:iq K (FW K a) (.l a ds) ds:=by
 rintro i g H ⟨us,g1,r⟩ m
 refine⟨λhi=>⟨us,g1,by rw[r.len];exact hi⟩,λd hd=>?_⟩;obtain⟨x,e1,e2⟩:=r.getD hd;refine⟨⟨us,x,g1,e1⟩,λy H' hy=>?_⟩;obtain⟨rfl,hy⟩:=hy;have:=hy us g1;rw[e1] at this;cases this;exact⟨Same.refl _,e2⟩
theorem Ky:iq K (J2 K a) (.t a ds) ds:=by
 rintro i g H ⟨us,g1,r⟩ m
 refine⟨λhi=>⟨us,g1,by rw[r.len];exact hi⟩,λd hd=>?_⟩;obtain⟨x,e1,e2⟩:=r.getD hd;refine⟨⟨us,x,g1,e1⟩,λy H' hy=>?_⟩;obtain⟨rfl,hy⟩:=hy;have:=hy us g1;rw[e1] at this;cases this;exact⟨Same.refl _,e2⟩
theorem DZ{ds:List D}:iq K (G.Jt K a) (.l a ds) (ds.mapIdx λi d=>D.tup [.int i,d]):=by
 rintro i g H ⟨us,g1,r⟩ m
 refine⟨λhi=>⟨us,g1,by rw[r.len];simpa using hi⟩,λd hd=>?_⟩;rw[OC] at hd
 cases q:ds[i]? with
 |none=>rw[q] at hd;cases hd
 |some d'=>
  rw[q] at hd;cases hd;obtain⟨x,e1,e2⟩:=r.getD q;refine⟨⟨us,x,g1,e1⟩,λy H' hy=>?_⟩;obtain⟨p,v,hp,rfl,rfl,hy⟩:=hy;have:=hy us g1;rw[e1] at this;cases this;refine⟨ao hp,?_⟩;unfold Rp;refine⟨p,_,_,rfl,λz=>?_,am,rfl,.cons (by unfold Rp;rfl) (.cons (e2.same (ao hp)) .nil)⟩;obtain⟨o,q,_⟩:=m p z;rw[hp] at q;cases q
theorem Hw{ds:List D}:iq K (G.Ki K a) (.t a ds) (ds.mapIdx λi d=>D.tup [.int i,d]):=by
 rintro i g H ⟨us,g1,r⟩ m
 refine⟨λhi=>⟨us,g1,by rw[r.len];simpa using hi⟩,λd hd=>?_⟩;rw[OC] at hd
 cases q:ds[i]? with
 |none=>rw[q] at hd;cases hd
 |some d'=>
  rw[q] at hd;cases hd;obtain⟨x,e1,e2⟩:=r.getD q;refine⟨⟨us,x,g1,e1⟩,λy H' hy=>?_⟩;obtain⟨p,v,hp,rfl,rfl,hy⟩:=hy;have:=hy us g1;rw[e1] at this;cases this;refine⟨ao hp,?_⟩;unfold Rp;refine⟨p,_,_,rfl,λz=>?_,am,rfl,.cons (by unfold Rp;rfl) (.cons (e2.same (ao hp)) .nil)⟩;obtain⟨o,q,_⟩:=m p z;rw[hp] at q;cases q
theorem D0(lo:Int)(n:Nat):iq K (GB lo n) .non ((M4 n).map λ(k:Nat)=>D.int (lo+(k:Int))):=by
 rintro i g H _ m
 refine⟨λhi=>(by have hi':n<=i:=(by simpa using hi);exact hi'),λd hd=>?_⟩;rw[M0] at hd
 cases q:(M4 n)[i]? with
 |none=>rw[q] at hd;cases hd
 |some j=>
  rw[q] at hd;cases hd
  have hlt:i<n:=by
   have:=(MZ.mp q).1;simpa using this
  have hj:j=i:=by
   rw[Np hlt] at q;cases q;rfl
  subst hj;refine⟨hlt,λx H' hy=>?_⟩;obtain⟨rfl,rfl⟩:=hy;exact⟨Same.refl _,by unfold Rp;rfl⟩
end
noncomputable def SndI(X:Cx)(f:Ro->Option (List Nat×List D))(tg iter:P0):Prop:=∀ρ bs ds,f ρ=PU (bs,ds)->∀g σ H R,SE X.K g ρ σ H->
 (∀J s H1,Same H H1->iq X.K J s ds->s.P X.K g H1->s.from g H bs->R J H1)->wI X tg iter σ H R
noncomputable def xt:Kd->List Nat
 |.bo i _=>[i]
 |_=>[]
noncomputable def ir(a:Option KD):Option (List Nat×List D):=match a with
 |some (k,.nd .lst ds)=>if jK k ds=PX then PU (xt k,ds) else PV
 |some (_,.scr ns)=>PU ([],ns.map D.int)
 |_=>PV
noncomputable def qL(a:Option KD):Option (List Nat×List D):=match a with
 |some (k,.nd .tup ds)=>if jK k ds=PX then PU ([],ds) else PV
 |a=>ir a
noncomputable def xu(a:Option KD):Option (List Nat×List D):=match a with
 |some (k,.nd .tup ds)=>if jK k ds=PX then PU ([],ds) else PV
 |a=>ir a
noncomputable def uY(a:Option KD):Option (List Nat×List D):=(xu a).map λp=>(p.1,p.2.mapIdx λi d=>D.tup [.int i,d])
noncomputable def uZ(xs ys:List D):List D:=List.zipWith (λx y=>D.tup [x,y]) xs ys
noncomputable def o5(a b:Option KD):Option (List Nat×List D):=match ir a with
 |some (bs,xs)=>(match ir b with|some (bs',ys)=>PU (bs++bs',uZ xs ys)|none=>PV)
 |none=>PV
noncomputable def eL(i j:Int):Bool:=decide (-(2^62)<=i)&&decide (i<2^62)&&decide (-(2^62)<=j)&&decide (j<2^62)&&decide (j-i<=100000)
noncomputable def en(i j:Int):List D:=(M4 (j-i).toNat).map λ(k:Nat)=>D.int (i+(k:Int))
noncomputable def iu(a b:Option KD):Option (List Nat×List D):=match a,b with
 |some (_,.int i),PU (_,.int j)=>if eL i j then PU ([],en i j) else PV
 |_,_=>PV
noncomputable def ju:P0->Bool
 |.Tuple ..=>PX
 |_=>PY
section
variable {X:Cx} {Γ:eZ} {c:Cz}
theorem VR.scrK{g:Gh}{ns:List Int}(h:VR K g H H1 k (.scr ns) v):∃a,v=.ref a/\((g a=PV/\Rd H1 a (.lst (ns.map V.int)))\/GY K a (ns.map V.int)):=by
 have key:∀{S:Pr},(∀b,g b≠PV->S b)->Rp K H1 S (.scr ns) v->∃a,v=.ref a/\((g a=PV/\Rd H1 a (.lst (ns.map V.int)))\/GY K a (ns.map V.int)):=λhs r=>by
  unfold Rp at r;obtain⟨a,e,r⟩:=r;refine⟨a,e,r.imp (λr=>⟨?_,r.2⟩) id⟩
  cases q:g a with
  |none=>rfl
  |some i=>exact absurd (hs a (by rw[q];simp)) r.1
 obtain⟨F,h1,h2⟩:=h
 cases k with
 |sh=>exact key (λb z=>.inl z) h2.2
 |fr k=>have h2:Tr _ _ _ _ _ _ _:=h2;unfold Tr at h2;exact key (λb z=>.inl z) h2.2
 |bo i k=>obtain⟨_,F0,_,h4⟩:=h2;unfold Tr at h4;exact key (λb z=>.inl z) h4.2
theorem Kz{g:Gh}{hd:Hd}(hm:hd.mu=PX)(m:MuOk H (Sg g))(s1:Same H H1)(h:VR K g H H1 k (.nd hd ds) (.ref a)):g a=PV\/∃i∈xt k,g a=PU (PU i):=by
 have nn:∀{S:Pr},(∀b,g b≠PV->S b)->¬S a->g a=PV:=λhs n=>by
  cases q:g a with
  |none=>rfl
  |some i=>exact absurd (hs a (by rw[q];simp)) n
 cases k with
 |sh=>
  left;obtain⟨F,h1,h2,h3⟩:=h;obtain⟨a',o',xs',e1,n1,_⟩:=h3.nd;cases e1;exact nn (λb z=>.inl z) n1
 |fr k=>
  left;obtain⟨a',o',xs',e1,n1,_⟩:=(h.sh rfl m s1).nd;cases e1;exact nn (λb z=>z) n1
 |bo i k=>
  obtain⟨F,h1,h2,F0,h3,h4⟩:=h
  cases k with
  |fz=>
   left;obtain⟨a',o',xs',e1,n1,_⟩:=h4.fz_inv.2.nd;cases e1;exact nn (λb z=>.inl z) n1
  |own es r=>
   right;unfold Tr at h4;obtain⟨a',o',xs',F',e1,_,_,_,_,hF,_⟩:=h4;cases e1;exact⟨i,Pn.mpr rfl,h3 a ((hF a).mpr (.inl ⟨hm,rfl⟩))⟩
theorem iw{ds:List D}(m:MuOk H (Sg g))(s1:Same H H1)(h:VR K g H H1 k d v)(e:ir (PU (k,d))=PU (bs,ds)) :
  ∃a s,v=.ref a/\(∃xs,SqL K H1 a xs)/\iq K (FW K a) s ds/\iq K (G.Jt K a) s (ds.mapIdx λi d=>D.tup [.int i,d])/\s.P K g H1/\s.from g H bs:=by
 unfold ir at e;split at e
 ·rename_i k' ds' e';cases e';split at e
  ·rename_i hk;cases e;obtain⟨a,o,us,rfl,g1,q1,rr⟩:=h.items hk m s1;cases(show o=_ from q1);refine⟨a,.l a ds,rfl,⟨us,.of g1⟩,DY,DZ,⟨us,.of g1,rr⟩,Kz rfl m s1 h⟩
  ·cases e
 ·rename_i k' ns e';cases e';cases e;obtain⟨a,rfl,q⟩:=h.scrK;rcases q with⟨q1,q2⟩|q
  ·exact⟨a,.l a _,rfl,⟨_,.inl q2⟩,DY,DZ,⟨_,.inl q2,RpL.ints ns⟩,.inl q1⟩
  ·refine⟨a,.non,rfl,⟨_,.inr q⟩,λi g' H' _ m'=>DY i g' H' ⟨_,.inr q,RpL.ints ns⟩ m',λi g' H' _ m'=>DZ i g' H' ⟨_,.inr q,RpL.ints ns⟩ m',trivial,trivial⟩
 ·cases e
theorem Hx{fa:Ro->Option KD}{tg e:P0}(ha:SndE X fa e):SndI X (λρ=>qL (fa ρ)) tg e:=by
 intro ρ bs ds h g σ H R se q;dsimp only at h
 cases ea:fa ρ with
 |none=>rw[ea] at h;cases h
 |some kd=>
  obtain⟨k,d⟩:=kd;rw[ea] at h;by_cases hx:∃x,d=.str x
  ·obtain⟨x,rfl⟩:=hx;cases h
  by_cases ht:∃ds',d=.tup ds'
  ·obtain⟨ds',rfl⟩:=ht;simp only[qL] at h;split at h
   ·rename_i hk;cases h;refine jq (De aF) (ha ρ k _ ea g σ H _ se λv H1 s1 r1=>?_);obtain⟨a,o,us,rfl,g1,q1,rr⟩:=r1.items hk se.mu s1;cases(show o=_ from q1);refine⟨a,rfl,⟨us,.of g1⟩,q _ (.t a ds) H1 s1 Ky ⟨us,.of g1,rr⟩ ?_⟩
    cases q2:g a with
    |none=>exact q2
    |some i=>
     obtain⟨o,e1,n⟩:=se.mu.same s1 a (by rw[Sg,q2];simp);rw[g1] at e1;cases e1;exact absurd rfl (n us)
   ·cases h
  ·have h':ir (PU (k,d))=PU (bs,ds):=by
    cases d with
    |nd hd ds'=>cases hd with
     |tup=>exact absurd ⟨ds',rfl⟩ ht
     |_=>exact h
    |str x=>exact absurd ⟨x,rfl⟩ hx
    |_=>exact h
   refine jq (zr aF) (ha ρ k d ea g σ H _ se λv H1 s1 r1=>?_);obtain⟨a,s,rfl,h1,h2,_,h3,h4⟩:=iw se.mu s1 r1 h';exact⟨a,rfl,h1,q _ s H1 s1 h2 h3 h4⟩
theorem Hy(O:al X Γ c){fa:Ro->Option KD}{tg e:P0}{p pos:Pos}(hg:eK c.sc "enumerate" = PX)(hn:ag e=PX)(ht:ju tg=PX)(ha:SndE X fa e):SndI X (λρ=>uY (fa ρ)) tg (.Call (.Name "enumerate" p) [e] [] pos):=by
 intro ρ bs ds h g σ H R se q;dsimp only at h
 cases ea:fa ρ with
 |none=>rw[ea] at h;cases h
 |some kd=>
  obtain⟨k,d⟩:=kd;rw[ea] at h;unfold uY at h;by_cases hx:∃ds',d=.tup ds'
  ·obtain⟨ds',rfl⟩:=hx;simp only[xu] at h;split at h
   ·rename_i hk;cases h
    cases tg with
    |Tuple es kk tp=>
     refine jq (G.wZ (bp O hg) (O.tab.bl _ (by simp[aR])) (aK aF bJ (ai hn)) (ai hn)) (ha ρ _ _ ea g σ H _ se λv H1 s1 r1=>?_);obtain⟨a,o,us,rfl,g1,q1,rr⟩:=r1.items hk se.mu s1;cases(show o=_ from q1);refine⟨a,rfl,⟨us,.of g1⟩,q _ (.t a ds') H1 s1 Hw ⟨us,.of g1,rr⟩ ?_⟩
     cases q2:g a with
     |none=>exact q2
     |some i=>
      obtain⟨o,e1,n⟩:=se.mu.same s1 a (by rw[Sg,q2];simp);rw[g1] at e1;cases e1;exact absurd rfl (n us)
    |_=>exact absurd ht (by simp[ju])
   ·cases h
  have h0:xu (PU (k,d))=ir (PU (k,d)):=by
   cases d with
   |nd hd ds'=>cases hd with
    |tup=>exact absurd ⟨ds',rfl⟩ hx
    |_=>rfl
   |_=>rfl
  rw[h0] at h
  cases h':ir (PU (k,d)) with
  |none=>rw[h'] at h;cases h
  |some r=>
   obtain⟨bs',ds'⟩:=r;rw[h'] at h;cases h
   cases tg with
   |Tuple es kk tp=>
    refine jq (G.zK (bp O hg) (O.tab.bl _ (by simp[aR])) (aK aF bJ (ai hn)) (ai hn)) (ha ρ _ _ ea g σ H _ se λv H1 s1 r1=>?_);obtain⟨a,s,rfl,h1,_,h2,h3,h4⟩:=iw se.mu s1 r1 h';exact⟨a,rfl,h1,q _ s H1 s1 h2 h3 h4⟩
   |_=>exact absurd ht (by simp[ju])
theorem D2(O:al X Γ c){fa:Ro->Option KD}{tg e:P0}{p pos:Pos}(hg:eK c.sc "range" = PX)(hn:ag e=PX)(ha:SndE X fa e):SndI X (λρ=>iu (PU (.sh,.int 0)) (fa ρ)) tg (.Call (.Name "range" p) [e] [] pos):=by
 intro ρ bs ds h g σ H R se q;dsimp only[iu] at h;split at h
 ·rename_i k1 i k2 j e1 ea;cases e1;split at h
  ·rename_i hr;simp only[eL,MX,decide_eq_true_eq] at hr;cases h;refine jq (lK (bp O hg) (O.tab.bl _ (by simp[aR])) (aK aF bJ (ai hn)) (ai hn)) (ha ρ _ _ ea g σ H _ se λv H1 s1 r1=>?_);obtain rfl:=r1.rd.int;refine⟨j,rfl,hr.1.1.2,hr.1.2,q _ .non H1 s1 ?_ trivial trivial⟩;unfold en;rw[Po];exact D0 0 _
  ·cases h
 ·cases h
theorem D3(O:al X Γ c){fa fb:Ro->Option KD}{tg e e2:P0}{p pos:Pos}(hg:eK c.sc "range" = PX)(hn:ag e=PX)(hn2:ag e2=PX)(ha:SndE X fa e)(hb:SndE X fb e2):SndI X (λρ=>iu (fa ρ) (fb ρ)) tg (.Call (.Name "range" p) [e,e2] [] pos):=by
 intro ρ bs ds h g σ H R se q;dsimp only[iu] at h;split at h
 ·rename_i k1 i k2 j ea eb;split at h
  ·rename_i hr;simp only[eL,MX,decide_eq_true_eq] at hr;cases h;refine jq (uF (bp O hg) (O.tab.bl _ (by simp[aR])) (aK aF (aK aF bJ (ai hn2)) (ai hn)) (by rw[ai hn,ai hn2];rfl) (ai hn2)) ?_;refine two ha hb ea eb se λx y H1 s1 rx ry=>?_;obtain rfl:=rx.rd.int;obtain rfl:=ry.rd.int;exact⟨i,j,rfl,⟨hr.1.1.1.1,hr.1.1.1.2,hr.1.1.2,hr.1.2⟩,q _ .non H1 s1 (D0 i _) trivial trivial⟩
  ·cases h
 ·cases h
theorem D4(h1:iq K (FW K a) s xs)(h2:iq K (FW K b) u ys):iq K (G.Kj K a b) (.two s u) (uZ xs ys):=by
 intro i g H hp m;have hp:s.P K g H/\u.P K g H:=hp;obtain⟨s1,g1⟩:=h1 i g H hp.1 m;obtain⟨s2,g2⟩:=h2 i g H hp.2 m
 have q1:∃us,SqL K H a us/\(xs.length<=i->us.length<=i):=by
  by_cases hi:xs.length<=i
  ·obtain⟨us,e1,e2⟩:=s1 hi;exact⟨us,e1,λ_=>e2⟩
  ·obtain⟨⟨us,x,e1,_⟩,_⟩:=g1 _ (Na (PH hi));exact⟨us,e1,λz=>absurd z hi⟩
 have q2:∃us,SqL K H b us/\(ys.length<=i->us.length<=i):=by
  by_cases hi:ys.length<=i
  ·obtain⟨us,e1,e2⟩:=s2 hi;exact⟨us,e1,λ_=>e2⟩
  ·obtain⟨⟨us,x,e1,_⟩,_⟩:=g2 _ (Na (PH hi));exact⟨us,e1,λz=>absurd z hi⟩
 obtain⟨us,a1,a2⟩:=q1;obtain⟨vs,b1,b2⟩:=q2;refine⟨λhi=>⟨us,vs,a1,b1,?_⟩,λd hd=>?_⟩
 ·unfold uZ at hi;rw[List.length_zipWith] at hi;by_cases hx:xs.length<=i
  ·exact .inl (a2 hx)
  ·exact .inr (b2 (by lia))
 ·unfold uZ at hd;rw[List.getElem?_zipWith] at hd
  cases ex:xs[i]? with
  |none=>rw[ex] at hd;simp at hd
  |some x=>
   cases ey:ys[i]? with
   |none=>rw[ex,ey] at hd;simp at hd
   |some y=>
    rw[ex,ey] at hd;simp only[Option.some.injEq] at hd;subst hd;obtain⟨⟨us',x',e1,e2⟩,y1⟩:=g1 x ex;obtain⟨⟨vs',y',e3,e4⟩,y2⟩:=g2 y ey;refine⟨⟨us',vs',x',y',e1,e3,e2,e4⟩,λz H' hy=>?_⟩;obtain⟨p,v,w,hp',rfl,rfl,hv,hw⟩:=hy;have r1:=(y1 v H ⟨rfl,hv⟩).2;have r2:=(y2 w H ⟨rfl,hw⟩).2;refine⟨ao hp',?_⟩;unfold Rp;refine⟨p,_,_,rfl,λz=>?_,am,rfl,.cons (r1.same (ao hp')) (.cons (r2.same (ao hp')) .nil)⟩;obtain⟨o,q,_⟩:=m p z;rw[hp'] at q;cases q
theorem Hz(O:al X Γ c){fa fb:Ro->Option KD}{tg e e2:P0}{p pos:Pos}(hg:eK c.sc "zip" = PX)(hn:ag e=PX)(hn2:ag e2=PX)(ht:ju tg=PX)(ha:SndE X fa e)(hb:SndE X fb e2):SndI X (λρ=>o5 (fa ρ) (fb ρ)) tg (.Call (.Name "zip" p) [e,e2] [] pos):=by
 intro ρ bs ds h g σ H R se q;dsimp only[o5] at h
 cases ea:fa ρ with
 |none=>rw[ea] at h;cases h
 |some kd=>
  obtain⟨k,d⟩:=kd
  cases eb:fb ρ with
  |none=>
   rw[ea,eb] at h;split at h
   ·cases h
   ·cases h
  |some kd2=>
   obtain⟨k2,d2⟩:=kd2;rw[ea,eb] at h;split at h
   ·rename_i bs1 xs h1;split at h
    ·rename_i bs2 ys h2;cases h
     cases tg with
     |Tuple es kk tp=>
      refine jq (G.DG (bp O hg) (O.tab.bl _ (by simp[aR])) (aK aF (aK aF bJ (ai hn2)) (ai hn)) (by rw[ai hn,ai hn2];rfl) (ai hn2)) ?_;refine two ha hb ea eb se λx y H1 s1 rx ry=>?_;obtain⟨a,s,rfl,l1,i1,_,p1,f1⟩:=iw se.mu s1 rx h1;obtain⟨b,u,rfl,l2,i2,_,p2,f2⟩:=iw se.mu s1 ry h2;exact⟨a,b,rfl,l1,l2,q _ (.two s u) H1 s1 (D4 i1 i2) ⟨p1,p2⟩ ⟨f1.from_mono λi z=>N3 _ z,f2.from_mono λi z=>Nj _ z⟩⟩
     |_=>exact absurd ht (by simp[ju])
    ·cases h
   ·cases h
noncomputable def HA:D->Option String
 |.non=>PU "NoneType"
 |.bl _=>PU "bool"
 |.int _=>PU "int"
 |.str _=>PU "str"
 |.scr _=>PV
 |.nd .lst _=>PU "list"
 |.nd .tup _=>PU "tuple"
 |.nd (.dic 0 _) _=>PU "dict"
 |_=>PV
noncomputable def u3(T:Str)(d:D):Option Bool:=match HA d with
 |some t=>if T="int" then PU (t=="int" || t=="bool") else if T="bool" then PU (t=="bool") else if T="list" then PU (t=="list") else if T="tuple" then PU (t=="tuple") else if T="str" then PU (t=="str") else if T="dict" then PU (t=="dict") else PV
 |none=>PV
theorem HB{t:String}(h:Rp K H S d v)(e:HA d=PU t):hV K H v (.type t):=by
 cases d with
 |non=>obtain rfl:=h.non;cases e;exact .non
 |bl b=>obtain rfl:=h.bl;cases e;exact .bl b
 |int b=>obtain rfl:=h.int;cases e;exact .int b
 |str b=>obtain rfl:=h.str;cases e;exact .str b
 |scr b=>cases e
 |nd hd ds=>
  obtain⟨a,o,xs,rfl,_,g,q,r⟩:=h.nd
  cases hd with
  |lst=>cases e;cases(show o=_ from q);exact .lst g
  |tup=>cases e;cases(show o=_ from q);exact .tup g
  |dic t ks=>
   cases t with
   |succ t=>cases e
   |zero=>
    cases e;rcases q with⟨_,kvs,rfl,_⟩|⟨_,h0,_⟩
    ·exact .dK g
    ·cases h0
  |obj c ns=>cases e
noncomputable def c4:List Str:=["int","bool","list","tuple","str","dict"]
noncomputable def jE:List String:=["NoneType","bool","int","str","list","tuple","dict"]
theorem u4{p:String->Prop}(a:p "NoneType")(b:p "bool")(c:p "int")(d:p "str")(e:p "list")(f:p "tuple")(g:p "dict"):∀t∈jE,p t:=by
 intro t ht;simp only[jE,M7,NH,or_false] at ht
 rcases ht with rfl|rfl|rfl|rfl|rfl|rfl|rfl<;>assumption
theorem zZ{t:String}(ht:HA d=PU t):t∈jE:=by
 cases d with
 |nd hd ds=>cases hd with
  |dic tt ks=>cases tt<;>cases ht<;>simp[jE]
  |_=>cases ht<;>simp[jE]
 |_=>cases ht<;>simp[jE]
theorem D5:∀t∈jE,NW K (.type t) (.type "int")=PU (t=="int" || t=="bool"):=u4 (by with_unfolding_all rfl) (by with_unfolding_all rfl) (by with_unfolding_all rfl) (by with_unfolding_all rfl) (by with_unfolding_all rfl) (by with_unfolding_all rfl) (by with_unfolding_all rfl)
theorem z3:∀t∈jE,NW K (.type t) (.type "bool")=PU (t=="bool"):=u4 (by with_unfolding_all rfl) (by with_unfolding_all rfl) (by with_unfolding_all rfl) (by with_unfolding_all rfl) (by with_unfolding_all rfl) (by with_unfolding_all rfl) (by with_unfolding_all rfl)
theorem z4:∀t∈jE,NW K (.type t) (.type "list")=PU (t=="list"):=u4 (by with_unfolding_all rfl) (by with_unfolding_all rfl) (by with_unfolding_all rfl) (by with_unfolding_all rfl) (by with_unfolding_all rfl) (by with_unfolding_all rfl) (by with_unfolding_all rfl)
theorem xv:∀t∈jE,NW K (.type t) (.type "tuple")=PU (t=="tuple"):=u4 (by with_unfolding_all rfl) (by with_unfolding_all rfl) (by with_unfolding_all rfl) (by with_unfolding_all rfl) (by with_unfolding_all rfl) (by with_unfolding_all rfl) (by with_unfolding_all rfl)
theorem D6:∀t∈jE,NW K (.type t) (.type "str")=PU (t=="str"):=u4 (by with_unfolding_all rfl) (by with_unfolding_all rfl) (by with_unfolding_all rfl) (by with_unfolding_all rfl) (by with_unfolding_all rfl) (by with_unfolding_all rfl) (by with_unfolding_all rfl)
theorem z5:∀t∈jE,NW K (.type t) (.type "dict")=PU (t=="dict"):=u4 (by with_unfolding_all rfl) (by with_unfolding_all rfl) (by with_unfolding_all rfl) (by with_unfolding_all rfl) (by with_unfolding_all rfl) (by with_unfolding_all rfl) (by with_unfolding_all rfl)
theorem z6{T:Str}{b:Bool}(h:u3 T d=PU b):∃t T',HA d=PU t/\T∈c4/\bootBuiltins T=PU (.type T')/\NW K (.type t) (.type T')=PU b:=by
 unfold u3 at h
 cases ht:HA d with
 |none=>rw[ht] at h;cases h
 |some t=>
  rw[ht] at h;have hm:=zZ ht;dsimp only at h;by_cases e0:T="int"
  ·subst e0;rw[if_pos rfl] at h;exact⟨t,"int",rfl,by simp[c4],by rfl,(D5 t hm).trans h⟩
  by_cases e1:T="bool"
  ·subst e1;rw[if_neg (by decide),if_pos rfl] at h;exact⟨t,"bool",rfl,by simp[c4],by rfl,(z3 t hm).trans h⟩
  by_cases e2:T="list"
  ·subst e2;rw[if_neg (by decide),if_neg (by decide),if_pos rfl] at h;exact⟨t,"list",rfl,by simp[c4],by rfl,(z4 t hm).trans h⟩
  by_cases e3:T="tuple"
  ·subst e3;rw[if_neg (by decide),if_neg (by decide),if_neg (by decide),if_pos rfl] at h;exact⟨t,"tuple",rfl,by simp[c4],by rfl,(xv t hm).trans h⟩
  by_cases e4:T="str"
  ·subst e4;rw[if_neg (by decide),if_neg (by decide),if_neg (by decide),if_neg (by decide),if_pos rfl] at h;exact⟨t,"str",rfl,by simp[c4],by rfl,(D6 t hm).trans h⟩
  by_cases e5:T="dict"
  ·subst e5;rw[if_neg (by decide),if_neg (by decide),if_neg (by decide),if_neg (by decide),if_neg (by decide),if_pos rfl] at h;exact⟨t,"dict",rfl,by simp[c4],by rfl,(z5 t hm).trans h⟩
  rw[if_neg e0,if_neg e1,if_neg e2,if_neg e3,if_neg e4,if_neg e5] at h;cases h
noncomputable def u7(T:Str)(a:Option KD):Option KD:=match a with|some (_,d)=>bV (u3 T d)|none=>PV
theorem HC(O:al X Γ c){fa:Ro->Option KD}{a:P0}{T:Str}{p p2 pos:Pos}(hg:eK c.sc "isinstance" = PX)(hgT:eK c.sc T=PX)(hn:ag a=PX)(ha:SndE X fa a):SndE X (λρ=>u7 T (fa ρ)) (.Call (.Name "isinstance" p) [a,.Name T p2] [] pos):=by
 intro ρ kd d h g σ H Q se q;dsimp only[u7] at h;split at h
 ·rename_i ka da ea
  cases hi:u3 T da with
  |none=>rw[hi] at h;cases h
  |some b=>
   rw[hi] at h;cases h;obtain⟨t,T',h1,h2,h3,h4⟩:=z6 (K:=X.K) hi
   have hT:T∈aR/\T≠"__name__"/\(T==("__debug__":Str))=PY:=by
    simp only[c4,M7,NH,or_false] at h2
    rcases h2 with rfl|rfl|rfl|rfl|rfl|rfl<;>exact⟨by simp[aR],by decide,by decide⟩
   refine aL (d9 o3 (bp O hg) (O.tab.bl _ (by simp[aR])) PyProof.Rows.boot_isinstance (aK aF (aK (rY (v:=.ty T') (bp O hgT) (O.tab.bl _ hT.1) h3 rfl hT.2.1 hT.2.2) bJ (ai rfl)) (ai hn)) (by decide) (by decide) (ai hn) (cy rfl)) ?_;exact ha ρ _ _ ea g σ H _ se λv H1 s1 r1=>⟨v,T',_,b,rfl,HB r1.rd h1,h4,q _ H1 s1 Kn⟩
 ·cases h
end
end J
namespace J
open PySem PySem.Spec L2
mutual
noncomputable def i6:D->Ow->Bool
 |.nd _ ds,.own es r=>kH ds es r
 |d,_=>qC d
noncomputable def kH:List D->List Ow->Ow->Bool
 |[],_,_=>PX
 |d::ds,es,r=>i6 d (es.headD r)&&kH ds es.tail r
end
section
variable {K:MW} {H H' H0:Hp} {S S':Pr} {g:Gh}
mutual
theorem Tr.clean(m:MuOk H S'):∀{d:D} {k:Ow} {v:V} {F:Pr},i6 d k=PX->Tr K H S d k v F->Tr K H S' d k v F
 |.non,_,_,_,c,h=>by unfold Tr at h⊢;exact⟨h.1,h.2.im m rfl⟩
 |.bl _,_,_,_,c,h=>by unfold Tr at h⊢;exact⟨h.1,h.2.im m rfl⟩
 |.int _,_,_,_,c,h=>by unfold Tr at h⊢;exact⟨h.1,h.2.im m rfl⟩
 |.str _,_,_,_,c,h=>by unfold Tr at h⊢;exact⟨h.1,h.2.im m rfl⟩
 |.scr ns,k,_,_,c,h=>by simp[i6,qC] at c
 |.nd hd ds,.fz,_,_,c,h=>by
  have c:qC (.nd hd ds)=PX:=by simpa[i6] using c
  unfold Tr at h⊢;exact⟨h.1,h.2.im m c⟩
 |.nd hd ds,.own es r,v,F,c,h=>by
  have c:kH ds es r=PX:=by simpa[i6] using c
  unfold Tr at h⊢;obtain⟨a,o,xs,F',e,q1,q2,n1,n2,hF,t⟩:=h;refine⟨a,o,xs,F',e,q1,q2,n1,λhm z=>?_,hF,TrL.clean m c t⟩;obtain⟨o',e',n⟩:=m a z;rw[q1] at e';cases e'
  cases hd with
  |tup=>exact n _ q2
  |_=>exact absurd hm (by simp[Hd.mu])
theorem TrL.clean(m:MuOk H S'):∀{ds:List D} {es:List Ow} {r:Ow} {vs:List V} {F:Pr},kH ds es r=PX->TrL K H S ds es r vs F->TrL K H S' ds es r vs F
 |[],_,_,_,_,_,h=>by unfold TrL at h⊢;exact h
 |d::ds,es,r,vs,F,c,h=>by
  simp only[kH,MX] at c;unfold TrL at h⊢;obtain⟨y,ys,F1,F2,e,hF,dj,h1,h2⟩:=h;exact⟨y,ys,F1,F2,e,hF,dj,Tr.clean m c.1 h1,TrL.clean m c.2 h2⟩
end
noncomputable def qM:Kd->D->Bool
 |.sh,d=>qC d
 |.fr k,d=>i6 d k
 |.bo _ _,_=>PY
theorem VR.clean(c:qM kd d=PX)(m:MuOk H0 (Sg g))(s:Same H0 H)(h:VR K g' H0 H kd d v):VR K g H0 H kd d v:=by
 obtain⟨F,h1,h2⟩:=h;have mm:MuOk H (Sx g F):=λb z=>z.elim (λz=>m.same s b z) λz=>h2.dom b z;refine⟨F,h1,?_⟩
 cases kd with
 |sh=>exact⟨h2.1,h2.2.im mm c⟩
 |fr k=>exact Tr.clean mm c h2
 |bo i k=>cases c
end
noncomputable def bX:Kd->Bool
 |.bo _ _=>PX
 |_=>PY
noncomputable def qN(φ:Fn)(kds:List KD):Option KD:=
 match φ (kds.map (·.2)) with
 |some (kd,d)=>if(kds.all λp=>oy p.1 p.2)=PX then(if bX kd=PX then PV else PU (kd,d)) else if qM kd d=PX then PU (kd,d) else PV
 |none=>PV
noncomputable def zj(φ:Option Fn)(a:Option (List KD)):Option KD:=match φ,a with|some φ,PU kds=>qN φ kds|_,_=>PV
section
variable {X:Cx} {Γ:eZ} {c:Cz}
theorem nz(K:MW){φ:Fn}{kds:List KD}{kd:Kd}{d:D}(h:qN φ kds=PU (kd,d)){g:Gh}{H0 H:Hp}{vs:List V}{Q:VK}{E:XK}(m:MuOk H0 (Sg g))(s:Same H0 H)(r:VRs K g H0 H kds vs)(q:∀v H',Same H H'->VR K g H0 H' kd d v->Q v H'):v6 K φ vs H Q E:=by
 unfold qN at h;split at h
 ·rename_i kd' d' e';split at h
  ·rename_i ok;split at h
   ·cases h
   ·cases h;exact⟨_,g,_,_,r.sh ok m s,m.same s,e',λv H2 s2 r2=>q v H2 s2 (r2.older s)⟩
  ·split at h
   ·rename_i cl;cases h;exact⟨_,λ_=>PV,_,_,r.rd.go (λb o n e=>⟨e,λz=>z rfl⟩),λa z=>absurd rfl z,e',λv H2 s2 r2=>q v H2 s2 ((r2.clean cl (m.same s) s2).older s)⟩
   ·cases h
 ·cases h
theorem KA(O:al X Γ c){x:Str}{e:P0}{es:List P0}{p pos:Pos}{fa:Ro->Option (List KD)}(hf:fF X fa (e::es))(hg:eK c.sc x=PX)(n1:ag e=PX)(n2:es.all ag=PX):SndE X (λρ=>zj (Γ.fn x) (fa ρ)) (.Call (.Name x p) (e::es) [] pos):=by
 intro ρ kd d h g σ H Q se q;dsimp only[zj] at h;split at h
 ·rename_i φ kds hφ he;refine aL (BN (t:=wA X (e::es)) (λ_ _ _ _=>cY) (O.tab.fn x φ hφ) (bp O hg) ee (ai n1) (cy n2)) (hf ρ _ he g σ H _ se λvs H1 s1 r1=>?_);exact nz X.K h se.mu s1 r1 λv H2 s2 r2=>q v H2 (s1.trans s2) r2
 ·cases h
theorem HD(O:al X Γ c){x:Str}{p pos:Pos}(hg:eK c.sc x=PX):SndE X (λ_=>zj (Γ.fn x) (PU [])) (.Call (.Name x p) [] [] pos):=by
 intro ρ kd d h g σ H Q se q;dsimp only[zj] at h;split at h
 ·rename_i φ kds hφ he;cases he;refine aL (DO (O.tab.fn x φ hφ) (bp O hg)) ?_;exact nz (E:=λ_ _ _=>False) X.K h se.mu (Same.refl H) VRs.nil λv H2 s2 r2=>q v H2 s2 r2
 ·cases h
end
inductive IT where
 |nm (i:Nat)
 |tp (ts:List IT)
mutual
noncomputable def nA:IT->D->Option (List (Nat×D))
 |.nm i,d=>PU [(i,d)]
 |.tp ts,.nd .tup ds=>qO ts ds
 |_,_=>PV
noncomputable def qO:List IT->List D->Option (List (Nat×D))
 |[],[]=>PU []
 |t::ts,d::ds=>match nA t d,qO ts ds with
  |some a,PU b=>PU (a++b)
  |_,_=>PV
 |_,_=>PV
end
noncomputable def Gb(d:D):Sl:=⟨PY,.fz,d⟩
noncomputable def setAll:List (Nat×D)->Ro->Ro
 |[],ρ=>ρ
 |(i,d)::r,ρ=>setAll r (ρ.set i (PU (Gb d)))
noncomputable def xw(f:P0->Option IT):List P0->Option (List IT)
 |[]=>PU []
 |e::es=>match f e,xw f es with
  |some a,PU b=>PU (a::b)
  |_,_=>PV
noncomputable def oz(c:Cz):Nat->P0->Option IT
 |0,_=>PV
 |n+1,e=>match e with
  |.Name x _=>if nr c x then(bz x c.N).map .nm else PV
  |.Tuple es _ _=>if es.all ag then(xw (oz c n) es).map .tp else PV
  |_=>PV
theorem SE.set{ρ:Ro}{σ:L2.St}(h:SE K g ρ σ H)(i:Nat){d:D}{v:V}(r:Rp K H (Sg g) d v):SE K g (ρ.set i (PU (Gb d))) (σ.set i (PU v)) H:=by
 refine⟨λj sl e=>?_,h.mu,by simp[h.len]⟩;by_cases hj:j=i
 ·subst hj
  have hlt:j<ρ.length:=by
   have:=(MZ.mp e).1;simpa using this
  rw[Nd hlt] at e;cases e;exact⟨v,_,Nd (by rw[<- h.len];exact hlt),λb z=>z.elim,.fz r⟩
 ·rw[Nh (Ne.symm hj)] at e⊢;exact h.slot j sl e
theorem SE.pass{ρ:Ro}{σ:L2.St}(h:SE K g ρ σ H)(i:Nat){v:V}(n:∀sl,ρ[i]?≠PU (PU sl)):SE K g ρ (σ.set i (PU v)) H:=by
 refine⟨λj sl e=>?_,h.mu,by simp[h.len]⟩;have hj:j≠i:=λz=>n sl (z▸e);rw[Nh (Ne.symm hj)];exact h.slot j sl e
noncomputable def i8:List (Nat×V)->L2.St->L2.St
 |[],σ=>σ
 |(i,v)::r,σ=>i8 r (σ.set i (PU v))
theorem o6:∀(a b:List (Nat×V)) (σ:L2.St),i8 (a++b) σ=i8 b (i8 a σ)
 |[],_,_=>rfl
 |(i,v)::a,b,σ=>o6 a b _
section
variable {X:Cx} {Γ:eZ} {c:Cz}
noncomputable def RpP(K:MW)(H:Hp)(S:Pr):List (Nat×D)->List (Nat×V)->Prop
 |[],vs=>vs=[]
 |(i,d)::r,vs=>∃v ws,vs=(i,v)::ws/\Rp K H S d v/\RpP K H S r ws
theorem RpP.app:∀{a b:List (Nat×D)} {x y:List (Nat×V)},RpP K H S a x->RpP K H S b y->RpP K H S (a++b) (x++y)
 |[],_,_,_,h,g=>by rw[(show _=[] from h)];exact g
 |(i,d)::a,b,_,y,h,g=>by
  obtain⟨v,ws,rfl,h1,h2⟩:=h;exact⟨v,ws++y,rfl,h1,RpP.app h2 g⟩
mutual
noncomputable def BR(K:MW):IT->TG
 |.nm i=>kh i
 |.tp ts=>GA K ts.length (o8 K ts)
noncomputable def o8(K:MW):List IT->wv
 |[]=>C8
 |t::ts=>ww (BR K t) (o8 K ts)
end
mutual
theorem iy:∀{t:IT} {d:D} {ps:List (Nat×D)} {v:V} {σ:L2.St} {Q:L2.St->Hp->Prop},nA t d=PU ps->Rp K H S d v->(∀vs,RpP K H S ps vs->Q (i8 vs σ) H)->BR K t v σ H Q
 |.nm i,d,ps,v,σ,Q,ht,r,q=>by
  simp only[nA] at ht;cases ht;simp only[BR];exact q [(i,v)] ⟨v,[],rfl,r,rfl⟩
 |.tp ts,d,ps,v,σ,Q,ht,r,q=>by
  cases d with
  |nd hd ds=>
   cases hd with
   |tup=>
    simp only[nA] at ht;obtain⟨a,o,xs,rfl,_,g1,q1,rl⟩:=r.nd;cases(show o=_ from q1);obtain⟨h1,h2⟩:=kI ht rl q;simp only[BR];exact⟨a,xs,rfl,.of g1,h2,h1⟩
   |_=>simp[nA] at ht
  |_=>simp[nA] at ht
theorem kI:∀{ts:List IT} {ds:List D} {ps:List (Nat×D)} {vs:List V} {σ:L2.St} {Q:L2.St->Hp->Prop},qO ts ds=PU ps->RpL K H S ds vs->(∀ws,RpP K H S ps ws->Q (i8 ws σ) H)->o8 K ts vs σ H Q/\vs.length=ts.length
 |[],[],ps,vs,σ,Q,ht,r,q=>by
  simp only[qO] at ht;cases ht;simp only[o8];rw[r.nil_inv];exact⟨⟨rfl,q [] rfl⟩,rfl⟩
 |t::ts,d::ds,ps,vs,σ,Q,ht,r,q=>by
  simp only[qO] at ht;split at ht
  ·rename_i a b ha hb;cases ht;obtain⟨y,ys,rfl,r1,r2⟩:=r.cons_inv;simp only[o8];have len:=(kI (σ:=σ) (Q:=λ_ _=>True) hb r2 λ_ _=>trivial).2;refine⟨⟨y,ys,rfl,iy ha r1 λvs1 h1=>(kI hb r2 λvs2 h2=>?_).1⟩,by simp[len]⟩;have:=q (vs1++vs2) (h1.app h2);rw[o6] at this;exact this
  ·cases ht
 |[],_::_,ps,vs,σ,Q,ht,r,q=>by simp[qO] at ht
 |_::_,[],ps,vs,σ,Q,ht,r,q=>by simp[qO] at ht
end
theorem de(h:ag e=PX):Qi (e::es) env=(PY,assign e env)::Qi es env:=by
 cases e<;>first|rfl|cases h
theorem o9(O:al X Γ c):∀(n:Nat) {e:P0} {t:IT},oz c n e=PU t->PG X e (BR X.K t)
 |0,e,t,h=>by cases h
 |n+1,e,t,h=>by
  have ih:∀{e:P0} {t:IT},oz c n e=PU t->PG X e (BR X.K t):=λh=>o9 O n h
  have lst:∀{es:List P0} {ts:List IT},es.all ag=PX->xw (oz c n) es=PU ts->C6 X es (o8 X.K ts)/\(Qi es X.env).length=ts.length/\(Qi es X.env).findIdx? (·.1)=PV:=by
   intro es
   induction es with
   |nil=>intro ts _ h;cases h;simp only[o8];exact⟨r8,rfl,rfl⟩
   |cons e es ihe=>
    intro ts hn h;rw[N9,MX] at hn;unfold xw at h;split at h
    ·rename_i a b ha hb;cases h;obtain⟨g1,g2,g3⟩:=ihe hn.2 hb;simp only[o8];refine⟨oG (ih ha) g1 (by rw[de hn.1];rfl),by rw[de hn.1,NF,g2];rfl,?_⟩;rw[de hn.1,NE];simp[g3]
    ·cases h
  unfold oz at h;split at h
  ·rename_i x p;split at h
   ·rename_i hl
    cases hi:bz x c.N with
    |none=>rw[hi] at h;cases h
    |some i=>
     rw[hi] at h;cases h;have l:=i4 O hl;simp only[BR];exact r6 (i:=i) (by rw[O.N];exact O.nd) (by rw[O.N];exact bf hi) l.1 l.2
   ·cases h
  ·rename_i es k p;split at h
   ·rename_i hn
    cases hs:xw (oz c n) es with
    |none=>rw[hs] at h;cases h
    |some ts=>
     rw[hs] at h;cases h;obtain⟨g1,g2,g3⟩:=lst hn hs;simp only[BR];exact qk O.calm g1 g2 g3
   ·cases h
  ·cases h
theorem SE.setAll{H:Hp}:∀{ps:List (Nat×D)} {vs:List (Nat×V)} {ρ:Ro} {σ:L2.St},RpP K H (Sg g) ps vs->SE K g ρ σ H->SE K g (setAll ps ρ) (i8 vs σ) H
 |[],vs,ρ,σ,h,se=>by rw[(show vs=[] from h)];exact se
 |(i,d)::ps,vs,ρ,σ,h,se=>by
  obtain⟨v,ws,rfl,h1,h2⟩:=h;exact SE.setAll (ρ:=ρ.set i (PU (Gb d))) (vs:=ws) (σ:=σ.set i (PU v)) h2 (se.set i h1)
noncomputable def dH(ps:List (Nat×D))(ρ:Ro):Bool:=ps.all λp=>match ρ[p.1]? with|some PV=>PX|_=>PY
theorem SE.passAll{H:Hp}:∀{ps:List (Nat×D)} {vs:List (Nat×V)} {ρ:Ro} {σ:L2.St},RpP K H S ps vs->dH ps ρ=PX->SE K g ρ σ H->SE K g ρ (i8 vs σ) H/\∀(j:Nat) sl,ρ[j]?=PU (PU sl)->(i8 vs σ)[j]?=σ[j]?
 |[],vs,ρ,σ,h,_,se=>by rw[(show vs=[] from h)];exact⟨se,λ_ _ _=>rfl⟩
 |(i,d)::ps,vs,ρ,σ,h,hn,se=>by
  obtain⟨v,ws,rfl,h1,h2⟩:=h;simp only[dH,N9,MX] at hn
  have ni:∀sl,ρ[i]?≠PU (PU sl):=λsl e=>by
   have:=hn.1;rw[e] at this;cases this
  obtain⟨a1,a2⟩:=SE.passAll h2 (by simpa[dH] using hn.2) (se.pass i (v:=v) ni);exact⟨a1,λj sl e=>(a2 j sl e).trans (Nh (λz=>ni sl (by rw[z];exact e)))⟩
end
end J
namespace J
open PySem PySem.Spec L2
noncomputable def Gh.re(m:Nat->Option Nat)(g:Gh):Gh:=λb=>match g b with
 |some (PU i)=>PU (m i)
 |x=>x
section
variable {K:MW} {H H':Hp} {g:Gh} {F F2:Pr} {m:Nat->Option Nat}
theorem lB(b:P1):Sg (g.re m) b↔Sg g b:=by
 unfold Gh.re Sg
 cases h:g b with
 |none=>simp[h]
 |some x=>cases x<;>simp[h]
theorem i9:(g.plus F).plus F2=g.plus (λb=>F b\/F2 b):=by
 funext b;unfold Gh.plus;by_cases h2:F2 b
 ·simp[h2]
 ·by_cases h1:F b
  ·simp[h1]
  ·simp[h1,h2]
theorem bc(h:F b):g.plus F b=PU PV:=by
 unfold Gh.plus;rw[if_pos h]
theorem SE.upd(h:SE K g ρ σ H)(hp:g p=PU PV)(ho:∀xs,o≠.tup xs):SE K g ρ σ (upd H p o):=by
 have kk:∀b o',b≠p->H b=PU o'->L2.upd H p o b=PU o':=λb o' n e=>by rw[ah n];exact e
 refine⟨λi sl e=>?_,λb z=>?_,h.len⟩
 ·obtain⟨v,F,e1,e2,e3⟩:=h.slot i sl e;refine⟨v,F,e1,e2,e3.go (λb o' hb e=>kk b o' (λz=>?_) e) λ_ _ _ n=>n⟩;subst z;rcases hb with hb|hb
  ·exact hb (by rw[Sg,hp];simp)
  ·rw[e2 b hb] at hp;cases hp
 ·by_cases hb:b=p
  ·exact⟨o,by rw[hb];exact am,ho⟩
  ·obtain⟨o',e,n⟩:=h.mu b z;exact⟨o',kk b o' hb e,n⟩
noncomputable def cL(ρ:Ro)(cap:List (Option Nat)):Ro:=cap.map λo=>o.bind λi=>(ρ[i]?).join
noncomputable def kJ(cap:List (Option Nat))(i:Nat):Option Nat:=cap.findIdx? λo=>o==PU i
noncomputable def l9(cap:List (Option Nat)):Bool:=decide (cap.filterMap id).Nodup
theorem sJ:∀{cap:List (Option Nat)} {j i:Nat},(cap.filterMap id).Nodup->cap[j]?=PU (PU i)->kJ cap i=PU j
 |[],j,i,_,e=>by simp at e
 |o::cap,0,i,hn,e=>by
  simp at e;subst e;simp[kJ,NE]
 |o::cap,j+1,i,hn,e=>by
  have e':cap[j]?=PU (PU i):=by simpa using e
  have hm:i∈cap.filterMap id:=Op.mpr ⟨PU i,NS e',rfl⟩
  have hno:(o==PU i)=PY:=by
   cases o with
   |none=>rfl
   |some k=>
    simp only[Nr,id] at hn;have:=(NB.mp hn).1;simp only[beq_eq_false_iff_ne,ne_eq,Option.some.injEq];intro z;subst z;exact this hm
  have hn':(cap.filterMap id).Nodup:=by
   cases o with
   |none=>simpa using hn
   |some k=>simp only[Nr,id] at hn;exact(NB.mp hn).2
  have ih:=sJ hn' e';unfold kJ at ih⊢;rw[NE,hno,ih];rfl
theorem SE.cap(h:SE K g ρ σ H){cap:List (Option Nat)}(hc:l9 cap=PX):SE K (g.re (kJ cap)) (cL ρ cap) (dW σ cap) H:=by
 refine⟨λj sl e=>?_,λb z=>h.mu b ((lB b).mp z),by simp[cL,dW]⟩;unfold cL at e;unfold dW;rw[M0] at e⊢
 cases q:cap[j]? with
 |none=>rw[q] at e;cases e
 |some o=>
  rw[q] at e
  cases o with
  |none=>cases e
  |some i=>
   have e':(ρ[i]?).join=PU sl:=by simpa using e
   have e2:ρ[i]?=PU (PU sl):=by
    cases z:ρ[i]? with
    |none=>rw[z] at e';cases e'
    |some w=>rw[z] at e';have:w=PU sl:=e';rw[this]
   obtain⟨v,F,g1,g2,g3⟩:=h.slot i sl e2;refine⟨v,F,by simp[g1],λb z=>?_,g3.go (λ_ _ _ h=>h) λb o _ n z=>n ((lB b).mp z)⟩;unfold Gh.re;rw[g2 b z];show PU (kJ cap i)=_;rw[sJ (by simpa[l9] using hc) q]
end
noncomputable def gG(scope sc:Qe):Qe:=
 { scope with names:=scope.names.map λ(n,k)=>if(k==.free&&sc.kind==.function&&sc.names.lookup n==PU .cell) then(n,.cell) else(n,k) }
theorem z7{env:Env}(h:env.scope=sc):relabel scope env=gG scope sc:=by
 subst h;rfl
noncomputable def aM(c:Cz)(scope:Qe):List (Option Nat):=scope.names.map λ(x,k)=>if k=.free then bz x c.N else PV
noncomputable def aq(scope:Qe):List Str:=scope.names.map (·.1)
noncomputable def bO(c:Cz)(scope:Qe):Bool:=
 scope.kind==.function&&decide (aq scope).Nodup&&l9 (aM c scope)&&scope.names.all λ(x,k)=>(k != .free||c.sc.names.lookup x==PU .cell||c.sc.names.lookup x==PU .free)
theorem dr:∀{l:List (Str×Qj)} {x:Str} {k:Qj},(l.map (·.1)).Nodup->(x,k)∈l->l.lookup x=PU k
 |(y,j)::r,x,k,hn,hm=>by
  rw[No];rw[Nu,NB] at hn;rcases M7.mp hm with e|hm
  ·cases e;simp
  ·have:x≠y:=λz=>hn.1 (by rw[<- z];exact NK.mpr ⟨(x,k),hm,rfl⟩);have e:(x==y)=PY:=by simpa using this
   rw[e];exact dr hn.2 hm
theorem gH(O:al X Γ c)(h:bO c scope=PX):kA X (aq scope) scope (aM c scope):=by
 simp only[bO,MX,decide_eq_true_eq,Ny,beq_iff_eq] at h;obtain⟨⟨⟨h1,h2⟩,_⟩,h3⟩:=h;have hk:∀x,X.env.kindOf x=c.sc.names.lookup x:=λx=>by show X.env.scope.names.lookup x=_;rw[O.sc]
 have free:∀y∈scope.names,y.2=.free->X.env.kindOf y.1=PU .cell\/X.env.kindOf y.1=PU .free:=λy hy e=>by
  have:=h3 y hy;simp only[Oa,bne_iff_ne,beq_iff_eq] at this;rw[hk];rcases this with(z|z)|z
  ·exact absurd e z
  ·exact .inl z
  ·exact .inr z
 refine⟨h1,λy hy e=>?_,λy hy e=>?_,free,by simp[aM,aq],λj i x hj hc=>?_⟩
 ·obtain⟨x,k⟩:=y;have e':k=.cell:=e;subst e';exact dr h2 hy
 ·obtain⟨x,k⟩:=y;have e':k=.local:=e;subst e';exact dr h2 hy
 ·unfold aq at hj;unfold aM at hc;rw[M0] at hj hc
  cases q:scope.names[j]? with
  |none=>rw[q] at hj;cases hj
  |some y=>
   rw[q] at hj hc;obtain⟨y,k⟩:=y;cases hj
   have hc':(if k=.free then bz y c.N else PV)=PU i:=by simpa using hc
   split at hc'
   ·rename_i e;subst e;have hm:=NS q;exact⟨by rw[O.N];exact bf hc',dr h2 hm,free _ hm rfl⟩
   ·cases hc'
theorem fZ{c:Cz}(O:al X Γ c)(h:bO c scope=PX)(C:P1)(s:P2)(H:Hp)(ex:List P1):al (aV X (aq scope) scope C s H ex) Γ ⟨gG scope c.sc,aq scope,ij scope⟩:=by
 simp only[bO,MX,decide_eq_true_eq] at h;exact⟨z7 O.sc,rfl,λx z=>z,O.calm,h.1.1.2,⟨O.tab.fn,O.tab.cf,O.tab.fm,O.tab.bl,O.tab.units,O.tab.gd,O.tab.cst⟩⟩
noncomputable def eM(tg:IT)(ft:Ro->Option Bool)(fe:Ro->Option KD)(ρ0:Ro)(d:D):Option (Option KD):=match nA tg d with
 |some ps=>if dH ps ρ0=PX then(match ft (setAll ps ρ0) with|some PX=>(fe (setAll ps ρ0)).map PU|some PY=>PU PV|none=>PV) else PV
 |none=>PV
noncomputable def a8(r:Ow)(f:D->Option (Option KD)):List D->Option (List D)
 |[]=>PU []
 |d::ds=>match f d,a8 r f ds with
  |some (PU kd),PU ys=>if dc r kd=PX then PU (kd.2::ys) else PV
  |some PV,PU ys=>PU ys
  |_,_=>PV
theorem ja:∀{a b:List D} {ys:List D},a8 r f (a++b)=PU ys->∃x y,a8 r f a=PU x/\a8 r f b=PU y/\ys=x++y
 |[],b,ys,h=>⟨[],ys,rfl,h,rfl⟩
 |d::a,b,ys,h=>by
  rw[N7] at h;unfold a8 at h;split at h
  ·rename_i kd zs e1 e2;split at h
   ·rename_i hf;cases h;obtain⟨x,y,h1,h2,rfl⟩:=ja e2;exact⟨kd.2::x,y,by simp[a8,e1,h1,hf],h2,rfl⟩
   ·cases h
  ·rename_i zs e1 e2;cases h;obtain⟨x,y,h1,h2,rfl⟩:=ja e2;exact⟨x,y,by simp[a8,e1,h1],h2,rfl⟩
  ·cases h
theorem kK{a:List D}{d:D}{x:List D}(h:a8 r f a=PU x){y:List D}(h1:a8 r f [d]=PU y):a8 r f (a++[d])=PU (x++y):=by
 induction a generalizing x with
 |nil=>cases h;exact h1
 |cons e a ih=>
  unfold a8 at h;rw[N7];unfold a8;split at h
  ·rename_i kd zs e1 e2;split at h
   ·rename_i hf;cases h;rw[e1,ih e2];simp[hf]
   ·cases h
  ·rename_i zs e1 e2;cases h;rw[e1,ih e2]
  ·cases h
theorem qP{f:D->Option (Option KD)}{ds ys:List D}(h:a8 r f ds=PU ys){i:Nat}{d:D}(e:ds[i]?=PU d){x:List D}(hx:a8 r f (ds.take i)=PU x) :
  (f d=PU PV/\a8 r f (ds.take (i+1))=PU x)\/∃kd,f d=PU (PU kd)/\dc r kd=PX/\a8 r f (ds.take (i+1))=PU (x++[kd.2]):=by
 have hs:ds=ds.take i++(d::ds.drop (i+1)):=by
  obtain⟨hl,rfl⟩:=MZ.mp e;rw[<- N4 hl,Pe]
 have ht:ds.take (i+1)=ds.take i++[d]:=by rw[Og,e];rfl
 rw[hs] at h;obtain⟨_,y,_,h2,_⟩:=ja h;unfold a8 at h2;rw[ht];split at h2
 ·rename_i kd zs e1 e2;split at h2
  ·rename_i hf;exact .inr ⟨kd,e1,hf,kK hx (by simp[a8,e1,hf])⟩
  ·cases h2
 ·rename_i zs e1 e2;exact .inl ⟨e1,by simpa using kK hx (y:=[]) (by simp[a8,e1])⟩
 ·cases h2
noncomputable def ma(r:Ow)(it:Option (List Nat×List D))(f:D->Option (Option KD)):Option KD:=match it with
 |some (_,ds)=>if ds.length<=100000 then(match a8 r f ds with|some ys=>PU (.fr (.own [] r),.lst ys)|none=>PV) else PV
 |none=>PV
theorem jb:∀{ds ys:List D},a8 r f ds=PU ys->ys.length<=ds.length
 |[],ys,h=>by cases h;exact M8 _
 |d::ds,ys,h=>by
  unfold a8 at h;split at h
  ·rename_i kd zs e1 e2;split at h
   ·cases h;have:=jb e2;simp;lia
   ·cases h
  ·rename_i zs e1 e2;cases h;have:=jb e2;simp;lia
  ·cases h
section
variable {K:MW} {H:Hp} {S:Pr}
theorem TrL.snoc:∀{ds:List D} {r:Ow} {us:List V} {F F2:Pr} {d:D} {v:V},TrL K H S ds [] r us F->Tr K H S d r v F2->(∀b,F b->¬F2 b)->TrL K H S (ds++[d]) [] r (us++[v]) (λb=>F b\/F2 b)
 |[],r,us,F,F2,d,v,h,t,dj=>by
  unfold TrL at h;obtain⟨rfl,hn⟩:=h;show TrL K H S [d] [] r [v] _;unfold TrL;refine⟨v,[],F2,λ_=>False,rfl,λb=>⟨λz=>.inl (z.elim (λz=>absurd z (hn b)) id),λz=>z.elim .inr λz=>z.elim⟩,λ_ _ z=>z,t,?_⟩;unfold TrL;exact⟨rfl,λ_ z=>z⟩
 |e::ds,r,us,F,F2,d,v,h,t,dj=>by
  unfold TrL at h;obtain⟨y,ys,F1,F3,rfl,hF,dj1,h1,h2⟩:=h;show TrL K H S (e::(ds++[d])) [] r (y::(ys++[v])) _;unfold TrL;refine⟨y,ys++[v],F1,λb=>F3 b\/F2 b,rfl,λb=>?_,λb z1 z2=>?_,h1,TrL.snoc h2 t λb z=>dj b ((hF b).mpr (.inr z))⟩
  ·show F b\/F2 b↔F1 b\/F3 b\/F2 b;rw[hF b,or_assoc]
  ·rcases z2 with z2|z2
   ·exact dj1 b z1 z2
   ·exact dj b ((hF b).mpr (.inl z1)) z2
end
end J
namespace J
open PySem PySem.Spec L2
noncomputable def Gc(X:Cx)(ifs:List P0):TT:=λσ H Q=>∀pins s,Inv X pins σ H s->P4 (P5 X.prog X.w) X.A (forIn ifs PX λc r=>if r=PX then do let ok <- isTrue c X.env (eval c X.env);pure (ForInStep.yield ok) else pure (ForInStep.yield r)) (TP X pins σ Q) X.xe s
theorem nB{tt:TT}(p:FZ X ifs tt){σ:L2.St}{H:Hp}{Q:Bool->Hp->Prop}(h:tt σ H Q):Gc X ifs σ H Q:=λpins s I=>p pins s σ H Q I h
noncomputable def pb(X:Cx)(f:Ro->Option Bool)(ifs:List P0):Prop:=∀ρ b,f ρ=PU b->∀g σ H Q,SE X.K g ρ σ H->(∀H',Same H H'->Q b H')->Gc X ifs σ H Q
theorem HE:pb X (λ_=>PU PX) []:=λρ b h g σ H Q se q=>by cases h;exact nB ss (q H (Same.refl H))
theorem HF{e:P0}(h:SndT X f e):pb X f [e]:=λρ b hb g σ H Q se q=>nB (su fq) (h ρ b hb g σ H Q se q)
section
variable {X:Cx} {Γ:eZ} {c:Cz}
theorem xx(O:al X Γ c){r:Ow}{fi:Ro->Option (List Nat×List D)}{ft:Ro->Option Bool}{fe:Ro->Option KD}{elt tg iter:P0}{ifs:List P0}{scope:Qe}{t:IT}{n:Nat}(hck:bO c scope=PX)(hi:SndI X fi tg iter)
  (htg:oz ⟨gG scope c.sc,aq scope,ij scope⟩ n tg=PU t)
  (hft:∀C s H ex,pb (aV X (aq scope) scope C s H ex) ft ifs) (hfe:∀C s H ex,SndE (aV X (aq scope) scope C s H ex) fe elt)
  {ρ:Ro} {kd:Kd} {d:D} (h:ma r (fi ρ) (eM t ft fe (cL ρ (aM c scope)))=PU (kd,d)) {g:Gh} {σ:L2.St} {H:Hp} {Q:VK} (se:SE X.K g ρ σ H) (q:∀v H',Same H H'->VR X.K g H H' kd d v->Q v H') :
  iZ (wI X tg iter) (λv σ H Q=>∀C s H0 ex,wG (aV X (aq scope) scope C s H0 ex) tg v σ H Q) (λσ H Q=>∀C s H0 ex,Gc (aV X (aq scope) scope C s H0 ex) ifs σ H Q) (λσ H Q=>∀C s H0 ex,wE (aV X (aq scope) scope C s H0 ex) elt σ H Q) (aM c scope) σ H Q:=by
 have hcap:l9 (aM c scope)=PX:=by
  simp only[bO,MX] at hck;exact hck.1.2
 unfold ma at h;split at h
 ·rename_i bs ds hit;split at h
  ·rename_i hlen;split at h
   ·rename_i ys hm;cases h;have CO:=fZ O hck;refine hi ρ bs ds hit g σ H _ se λjj src H1 s1 jt sp sf D hD=>?_;have se1:SE X.K (g.re (kJ (aM c scope))) (cL ρ (aM c scope)) (dW σ (aM c scope)) H1:=(se.same s1).cap hcap;generalize hg':g.re (kJ (aM c scope))=g' at se1;have gS:∀b,Sg g' b↔Sg g b:=λb=>by rw[<- hg'];exact lB b
    generalize hρ:cL ρ (aM c scope)=ρc at se1 hm;generalize hσ:dW σ (aM c scope)=σc at se1;clear hρ hσ
    refine⟨λi m σ' H'=>m=ds.length-i/\i<=ds.length/\∃(Fi:Pr) (us:List V) (yi:List J.D),a8 r (eM t ft fe ρc) (ds.take i)=PU yi/\(∀b,Fi b->H1 b=PV/\b≠D)/\SE X.K (g'.plus λb=>b=D\/Fi b) ρc σ' H'/\
      (∀b o,H1 b=PU o->H' b=PU o)/\H' D=PU (.lst us)/\TrL X.K H' (Sx g λb=>b=D\/Fi b) yi [] r us Fi,
     ⟨ds.length,by simp,NG _,λ_=>False,[],[],by simp[a8],λb z=>z.elim,?_,λb o e=>ao hD _ _ e,am,by unfold TrL;exact⟨rfl,λ_ z=>z⟩⟩,?_⟩
    ·exact se1.plus (ao hD) (λb z=>z.elim (λz=>z▸hD) λz=>z.elim) λb z=>z.elim (λz=>⟨.lst [],z▸am,λxs h=>by cases h⟩) λz=>z.elim
    rintro i m σ' H' ⟨rfl,hi',Fi,us,yi,hyi,hFi,se',kk,gD,tr⟩
    have gpS:∀b,Sg (g'.plus λb=>b=D\/Fi b) b↔Sx g (λb=>b=D\/Fi b) b:=λb=>(ar b).trans (or_congr (gS b) Iff.rfl);have hnew:∀b o,H1 b=PU o->¬(b=D\/Fi b):=λb o e z=>z.elim (λz=>by rw[z,hD] at e;cases e) λz=>by rw[(hFi b z).1] at e;cases e
    have sp':src.P X.K (g'.plus λb=>b=D\/Fi b) H':=Src.mono (λb o e n z=>((gpS b).mp z).elim n (hnew b o e)) (λb o _ e=>kk b o e) (λa e=>sf.from_t e) sp;obtain⟨j1,j2⟩:=jt i _ H' sp' se'.mu;by_cases hlt:i<ds.length
    ·have hd:ds[i]?=PU ds[i]:=Na hlt;obtain⟨go,yl⟩:=j2 _ hd;refine .inr ⟨go,λx H2 hy C s0 H0 ex=>?_⟩;obtain⟨s2,rx⟩:=yl x H2 hy;have st:=qP hm hd hyi
     have stuck:∃o,eM t ft fe ρc ds[i]=PU o:=by
      rcases st with⟨e,_⟩|⟨kd,e,_⟩
      ·exact⟨_,e⟩
      ·exact⟨_,e⟩
     obtain⟨o0,ho0⟩:=stuck;have he:=ho0;unfold eM at he;split at he
     ·rename_i ps hps;split at he
      ·rename_i hno;refine sA (o9 (CO C s0 H0 ex) n htg) (iy hps rx λvs hvs C1 s01 H01 ex1=>?_);have t1:=SE.setAll hvs (se'.same s2);obtain⟨t2,t3⟩:=SE.passAll hvs hno (se'.same s2);split at he
       ·rename_i hT
        -- the test holds
        refine hft C1 s01 H01 ex1 _ PX hT _ _ _ _ t1 λH3 s3=>wP λC2 s02 H02 ex2=>?_
        cases hke:fe (setAll ps ρc) with
        |none=>rw[hke] at he;cases he
        |some ke=>
         rw[hke] at he;cases he;obtain⟨ky,y⟩:=ke
         have st2:dc r (ky,y)=PX/\a8 r (eM t ft fe ρc) (ds.take (i+1))=PU (yi++[y]):=by
          rcases st with⟨e,_⟩|⟨kd,e,e2,e3⟩
          ·rw[ho0] at e;cases e
          ·rw[ho0] at e;cases e;exact⟨e2,e3⟩
         refine hfe C2 s02 H02 ex2 _ ky y hke _ _ H3 _ (t1.same s3) λvy H4 s4 r4=>?_;obtain⟨Fy,y1,y2⟩:=r4;have qQ:Same H' H4:=(s2.trans s3).trans s4;have seE:SE X.K (g'.plus λb=>b=D\/Fi b) ρc (i8 vs σ') H3:=t2.same s3
         have hgy:∀b,Fy b->(g'.plus λb=>b=D\/Fi b) b=PV:=λb z=>by
          cases e:(g'.plus λb=>b=D\/Fi b) b with
          |none=>rfl
          |some k=>
           obtain⟨o,q2,_⟩:=seE.mu b (by rw[Sg,e];simp);rw[y1 b z] at q2;cases q2
         have mm:MuOk H4 (Sx (g'.plus λb=>b=D\/Fi b) Fy):=λb z=>z.elim (λz=>seE.mu.same s4 b z) λz=>y2.dom b z;obtain⟨F2,a1,a2⟩:=VR1.fit (p:=(ky,y)) st2.1 mm hgy (λb z=>z) y2;have gD4:H4 D=PU (.lst us):=qQ _ _ gD;have nF2D:¬F2 D:=λz=>by have:=y1 D (a1 D z);rw[(s2.trans s3) _ _ gD] at this;cases this
         have nF2:∀b,F2 b->H' b=PV:=λb z=>(s2.trans s3).free (y1 b (a1 b z))
         have hul:us.length<=i:=by
          rw[tr.len];exact Nq (jb hyi) (by rw[NN];lia)
         have kD:∀b o,b≠D->H4 b=PU o->upd H4 D (.lst (us++[vy])) b=PU o:=λb o n e=>by rw[ah n];exact e
         refine⟨us,gD4,NA hul (M6 hlt (bd hlen)),ds.length-(i+1),by lia,rfl,hlt,λb=>Fi b\/F2 b,us++[vy],yi++[y],st2.2,λb z=>?_,?_,λb o e=>?_,am,?_⟩
         ·rcases z with z|z
          ·exact hFi b z
          ·refine⟨?_,λe=>nF2D (e▸z)⟩
           cases e:H1 b with
           |none=>rfl
           |some o=>have:=nF2 b z;rw[kk b o e] at this;cases this
         ·have e1:(g'.plus λb=>b=D\/(Fi b\/F2 b))=(g'.plus λb=>b=D\/Fi b).plus F2:=by
           rw[i9];congr 1;funext b;exact propext ⟨λz=>z.elim (λz=>.inl (.inl z)) λz=>z.elim (λz=>.inl (.inr z)) .inr,λz=>z.elim (λz=>z.elim .inl λz=>.inr (.inl z)) λz=>.inr (.inr z)⟩
          rw[e1];refine SE.upd (seE.plus s4 (λb z=>y1 b (a1 b z)) λb z=>y2.dom b (a1 b z)) ?_ (λxs h=>by cases h);rw[i9];exact bc (.inl (.inl rfl))
         ·exact kD b o (λz=>hnew b o e (.inl z)) (qQ _ _ (kk b o e))
         ·refine TrL.snoc (tr.go (λb o hb e=>kD b o (λz=>?_) (qQ _ _ e)) λb o e n z=>?_) ((a2 (λb=>g b≠PV\/b=D\/Fi b\/F2 b) λb z=>?_).go (λb o hb e=>kD b o (λz=>?_) e) λb o e n z=>n z) λb z1 z2=>?_
          ·subst z;exact hb.elim (λz=>z (.inr (.inl rfl))) λz=>(hFi b z).2 rfl
          ·rcases z with z|z|z|z
           ·exact n (.inl z)
           ·exact n (.inr (.inl z))
           ·exact n (.inr (.inr z))
           ·rw[nF2 b z] at e;cases e
          ·rcases z with z|z|z|z
           ·exact .inr (.inl ((gpS b).mpr (.inl z)))
           ·exact .inr (.inl ((gpS b).mpr (.inr (.inl z))))
           ·exact .inr (.inl ((gpS b).mpr (.inr (.inr z))))
           ·exact .inr (.inr (.inl z))
          ·subst z;exact hb.elim (λz=>z (.inr (.inl rfl))) nF2D
          ·obtain⟨o,e,_⟩:=tr.dom b z1;rw[nF2 b z2] at e;cases e
       ·rename_i hT;cases he
        have st2:a8 r (eM t ft fe ρc) (ds.take (i+1))=PU yi:=by
         rcases st with⟨_,e⟩|⟨kd,e,_⟩
         ·exact e
         ·rw[ho0] at e;cases e
        refine hft C1 s01 H01 ex1 _ PY hT _ _ _ _ t1 λH3 s3=>m9 ?_;have u8:=s2.trans s3;exact⟨ds.length-(i+1),by lia,rfl,hlt,Fi,us,yi,st2,hFi,t2.same s3,λb o e=>u8 _ _ (kk b o e),u8 _ _ gD,tr.go (λb o _ e=>u8 _ _ e) λ_ _ _ n=>n⟩
       ·cases he
      ·cases he
     ·cases he
    ·have e:i=ds.length:=by lia
     subst e;rw[Oi,hm] at hyi;cases hyi;refine .inl ⟨j1 (M8 _),q _ H' (λb o e=>kk b o (s1 _ _ e)) ⟨λb=>b=D\/Fi b,λb z=>s1.free (z.elim (λz=>z▸hD) λz=>(hFi b z).1),?_⟩⟩;show Tr _ _ _ _ _ _ _;unfold Tr
     exact⟨D,_,us,Fi,rfl,gD,rfl,λ_ z=>(hFi D z).2 rfl,(λh=>nomatch h),λb=>⟨λz=>z.imp (λz=>⟨rfl,z⟩) id,λz=>z.imp (λz=>z.2) id⟩,tr⟩
   ·cases h
  ·cases h
 ·cases h
noncomputable def d4:P0->Bool
 |.Set ..=>PY
 |_=>PX
theorem eA(h:d4 e=PX)(x:PZ):foldedSetIterable e env x=pure x:=by
 cases e<;>first|rfl|cases h
theorem D7(O:al X Γ c){r:Ow}{fi:Ro->Option (List Nat×List D)}{ft:Ro->Option Bool}{fe:Ro->Option KD}{elt tg iter:P0}{ifs:List P0}{scope:Qe}{pos:Pos}{t:IT}{n:Nat}(hck:bO c scope=PX)(hns:d4 iter=PX)(hi:SndI X fi tg iter)
  (htg:oz ⟨gG scope c.sc,aq scope,ij scope⟩ n tg=PU t)
  (hft:∀C s H ex,pb (aV X (aq scope) scope C s H ex) ft ifs) (hfe:∀C s H ex,SndE (aV X (aq scope) scope C s H ex) fe elt) :
  SndE X (λρ=>ma r (fi ρ) (eM t ft fe (cL ρ (aM c scope)))) (.ListComp elt [⟨tg,iter,ifs,0⟩] scope pos):=by
 intro ρ kd d h g σ H Q se q
 exact aL (oV (N':=aq scope) (cap:=aM c scope) O.calm (gH O hck) w6
  (λC s H0 ex pins s' σ' H' v u Q' I r hh=>w8 pins s' σ' H' v u Q' I r (hh C s H0 ex)) (λC s H0 ex pins s' σ' H' Q' I hh=>hh C s H0 ex pins s' I) (λC s H0 ex pins s' σ' H' Q' I hh=>hh C s H0 ex pins s' I) (eA hns)) (xx O hck hi htg hft hfe h se q)
end
end J
namespace J
open PySem PySem.Spec L2
mutual
inductive IE where
 |var (i:Nat)
 |lit (d:D)
 |bin (op:Qd) (a b:IE)
 |cmp (op:Ql) (a b:IE)
 |chain (op op':Ql) (a b d:IE)
 |neg (a:IE)
 |not (a:IE)
 |bool (op:BoolOp) (es:gg)
 |ifx (t a b:IE)
 |lst (k:Ow) (es:gg)
 |tup (k:Ow) (es:gg)
 |dnew (t:Nat) (r:Ow)
 |ix (a b:IE)
 |sl (a:IE) (lo hi:IO)
 |rev (a st:IE)
 |stp (a:IE) (lo:IO) (st:IE)
 |maxd (a b:IE)
 |idx (a b:IE)
 |lrng (a:IE)
 |lset (a:IE)
 |sset (a:IE)
 |lrev (a:IE)
 |dsp (k:D) (a:IE)
 |dspT (m:Nat) (k a:IE)
 |get (a k b:IE)
 |isi2 (T U:Str) (a:IE)
 |dspN (ks:List D) (es:gg)
 |isi (T:Str) (a:IE)
 |fld (f:Str) (a:IE)
 |fn (i:Nat) (es:gg)
 |blt (x:Str) (es:gg)
 |comp (r:Ow) (cap:List (Option Nat)) (tg:IT) (it:II) (ts:IO) (elt:IE)
inductive gg where
 |nil
 |cons (a:IE) (r:gg)
inductive IO where
 |non
 |som (a:IE)
inductive II where
 |e (a:IE)
 |rng (a b:IE)
 |enm (a:IE)
 |zp (a b:IE)
end
mutual
noncomputable def aj(Γ:Nat->Option Fn):IE->Ro->Option KD
 |.var i,ρ=>qF i ρ[i]?
 |.lit d,_=>PU (.sh,d)
 |.bin op a b,ρ=>xg op (aj Γ a ρ) (aj Γ b ρ)
 |.cmp op a b,ρ=>bV (kF op (aj Γ a ρ) (aj Γ b ρ))
 |.chain op op' a b d,ρ=>PV
 |.neg a,ρ=>xh (aj Γ a ρ)
 |.not a,ρ=>PV
 |.bool op es,ρ=>PV
 |.ifx t a b,ρ=>Hk (bG Γ t ρ) (aj Γ a ρ) (aj Γ b ρ)
 |.lst k es,ρ=>ik k (aW Γ es ρ)
 |.tup k es,ρ=>il k (aW Γ es ρ)
 |.dnew t r,_=>PV
 |.ix a b,ρ=>uV (aj Γ a ρ) (aj Γ b ρ)
 |.sl a lo hi,ρ=>Ga (aj Γ a ρ) (d5 Γ lo ρ) (d5 Γ hi ρ)
 |.rev a b,ρ=>qI (aj Γ a ρ) (aj Γ b ρ)
 |.stp a lo st,ρ=>uX (aj Γ a ρ) (d5 Γ lo ρ) (aj Γ st ρ)
 |.maxd a b,ρ=>PV
 |.idx a b,ρ=>PV
 |.lrng a,ρ=>PV
 |.lset a,ρ=>PV
 |.sset a,ρ=>PV
 |.lrev a,ρ=>PV
 |.dsp k a,ρ=>PV
 |.dspN ks es,ρ=>PV
 |.dspT m k a,ρ=>js m (aj Γ k ρ) (aj Γ a ρ)
 |.get a k b,ρ=>PV
 |.isi T a,ρ=>u7 T (aj Γ a ρ)
 |.isi2 T U a,ρ=>PV
 |.fld f a,ρ=>PV
 |.fn i es,ρ=>zj (Γ i) (aW Γ es ρ)
 |.blt x es,ρ=>qK x (aW Γ es ρ)
 |.comp r cap tg it ts elt,ρ=>ma r (d6 Γ it ρ) (eM tg (eB Γ ts) (aj Γ elt) (cL ρ cap))
noncomputable def bG(Γ:Nat->Option Fn):IE->Ro->Option Bool
 |.cmp op a b,ρ=>kF op (aj Γ a ρ) (aj Γ b ρ)
 |.chain op op' a b d,ρ=>PV
 |.not a,ρ=>(bG Γ a ρ).map (!·)
 |.bool op es,ρ=>fJ Γ op es ρ
 |.var i,ρ=>ny (qF i ρ[i]?)
 |.ix a b,ρ=>ny (uV (aj Γ a ρ) (aj Γ b ρ))
 |.isi T a,ρ=>ny (u7 T (aj Γ a ρ))
 |.isi2 T U a,ρ=>PV
 |.fn i es,ρ=>ny (zj (Γ i) (aW Γ es ρ))
 |.blt x es,ρ=>ny (qK x (aW Γ es ρ))
 |_,_=>PV
noncomputable def eB(Γ:Nat->Option Fn):IO->Ro->Option Bool
 |.non,_=>PU PX
 |.som a,ρ=>bG Γ a ρ
noncomputable def aW(Γ:Nat->Option Fn):gg->Ro->Option (List KD)
 |.nil,_=>PU []
 |.cons a r,ρ=>gp (aj Γ a ρ) (aW Γ r ρ)
noncomputable def KB(Γ:Nat->Option Fn)(op:BoolOp):gg->Ro->Option KD
 |.nil,_=>PV
 |.cons a r,ρ=>match r with
  |.nil=>aj Γ a ρ
  |.cons _ _=>(match aj Γ a ρ with
   |some (_,.bl x)=>if(op==.And)=x then KB Γ op r ρ else PU (.sh,.bl x)
   |_=>PV)
noncomputable def fJ(Γ:Nat->Option Fn)(op:BoolOp):gg->Ro->Option Bool
 |.nil,_=>PV
 |.cons a r,ρ=>match r with
  |.nil=>bG Γ a ρ
  |.cons _ _=>(match bG Γ a ρ with
   |some x=>if(op==.And)=x then fJ Γ op r ρ else PU x
   |none=>PV)
noncomputable def d5(Γ:Nat->Option Fn):IO->Ro->Option (Option Int)
 |.non,_=>PU PV
 |.som a,ρ=>zX (aj Γ a ρ)
noncomputable def d6(Γ:Nat->Option Fn):II->Ro->Option (List Nat×List D)
 |.e a,ρ=>qL (aj Γ a ρ)
 |.rng a b,ρ=>iu (aj Γ a ρ) (aj Γ b ρ)
 |.enm a,ρ=>uY (aj Γ a ρ)
 |.zp a b,ρ=>o5 (aj Γ a ρ) (aj Γ b ρ)
end
section
theorem z8:aj Γ (.var i) ρ=qF i ρ[i]?:=rfl
theorem sK:aj Γ (.lit d) ρ=PU (.sh,d):=rfl
theorem z9:aj Γ (.bin op a b) ρ=xg op (aj Γ a ρ) (aj Γ b ρ):=rfl
theorem Aa:aj Γ (.cmp op a b) ρ=bV (kF op (aj Γ a ρ) (aj Γ b ρ)):=rfl
theorem Ab:aj Γ (.neg a) ρ=xh (aj Γ a ρ):=rfl
theorem sL:aj Γ (.ifx t a b) ρ=Hk (bG Γ t ρ) (aj Γ a ρ) (aj Γ b ρ):=rfl
theorem Ac:aj Γ (.lst k es) ρ=ik k (aW Γ es ρ):=rfl
theorem Ad:aj Γ (.tup k es) ρ=il k (aW Γ es ρ):=rfl
theorem D8:aj Γ (.ix a b) ρ=uV (aj Γ a ρ) (aj Γ b ρ):=rfl
theorem D9:aj Γ (.sl a lo hi) ρ=Ga (aj Γ a ρ) (d5 Γ lo ρ) (d5 Γ hi ρ):=rfl
theorem Ae:aj Γ (.rev a b) ρ=qI (aj Γ a ρ) (aj Γ b ρ):=rfl
theorem Af:aj Γ (.stp a lo st) ρ=uX (aj Γ a ρ) (d5 Γ lo ρ) (aj Γ st ρ):=rfl
theorem xy:aj Γ (.dspT m k a) ρ=js m (aj Γ k ρ) (aj Γ a ρ):=rfl
theorem Ag:aj Γ (.isi T a) ρ=u7 T (aj Γ a ρ):=rfl
theorem xz{Γ:Nat->Option Fn}:aj Γ (.fn i es) ρ=zj (Γ i) (aW Γ es ρ):=rfl
theorem Ah:aj Γ (.blt x es) ρ=qK x (aW Γ es ρ):=rfl
theorem pc:aj Γ (.comp r cap tg it ts elt) ρ=ma r (d6 Γ it ρ) (eM tg (eB Γ ts) (aj Γ elt) (cL ρ cap)):=rfl
theorem xA:bG Γ (.cmp op a b) ρ=kF op (aj Γ a ρ) (aj Γ b ρ):=rfl
theorem xB:bG Γ (.not a) ρ=(bG Γ a ρ).map (!·):=rfl
theorem f8:bG Γ (.bool op es) ρ=fJ Γ op es ρ:=rfl
end
structure Nms where
 fns:List Str
 cs:List (Str×D)
 an:Nat->Nat->Option Ow:=λ_ _=>PV
 md:Nat->Nat->Option Bool:=λ_ _=>PV
 io:Nat->Option (List Bool):=λ_=>PV
 vw:Nat->Nat->List Nat:=λ_ _=>[]
 cls:List (Str×List Str):=[]
noncomputable def cz(fns:Nms)(Γ:Nat->Option Fn)(fm:Str->Option (MW->Sp)):eZ:=⟨λx=>(bz x fns.fns).bind Γ,fm,λx=>fns.cs.lookup x,λx=>fns.cls.lookup x⟩
noncomputable def df(f:P0->Option IE):List P0->Option gg
 |[]=>PU .nil
 |e::es=>if ag e then(match f e,df f es with|some a,PU r=>PU (.cons a r)|_,_=>PV) else PV
noncomputable def gr(f:P0->Option IE):List P0->Option gg
 |[]=>PU .nil
 |e::es=>match f e,gr f es with|some a,PU r=>PU (.cons a r)|_,_=>PV
noncomputable def Ea(c:Cz)(f:P0->Option IE)(tg iter:P0):Option II:=
 match iter with
 |.Call (.Name x _) [a] [] _=>
  if x="range" then(if eK c.sc "range" && ag a then(f a).map (.rng (.lit (.int 0))) else PV)
  else if x="enumerate" then(if eK c.sc "enumerate" && ag a&&ju tg then(f a).map .enm else PV)
  else(f iter).map .e
 |.Call (.Name x _) [a,b] [] _=>
  if x="range" then(if eK c.sc "range" && ag a&&ag b then(match f a,f b with|some a,PU b=>PU (.rng a b)|_,_=>PV) else PV)
  else if x="zip" then(if eK c.sc "zip" && ag a&&ag b&&ju tg then(match f a,f b with|some a,PU b=>PU (.zp a b)|_,_=>PV) else PV)
  else(f iter).map .e
 |_=>(f iter).map .e
noncomputable def Ai(f:P0->Option IE):Option P0->Option IO
 |none=>PU .non
 |some e=>(f e).map .som
noncomputable def qR(f:P0->Option IE):List P0->Option IO
 |[]=>PU .non
 |[e]=>(f e).map .som
 |_=>PV
noncomputable def xC(fns:Nms)(c:Cz)(f:P0->Option IE)(x:Str)(es:List P0):Option IE:=
 if eK c.sc x&&es.all ag then(match df f es with|some ies=>(match bz x fns.fns with|some i=>(match fns.io i with|some _=>PV|none=>PU (.fn i ies))|none=>PU (.blt x ies))|none=>PV) else PV
noncomputable def Aj:IE->Bool
 |.var _|.ix ..|.isi ..|.isi2 ..|.fn ..|.blt ..=>PX
 |_=>PY
noncomputable def jv(o:Option IE):Option IE:=match o with|some ie=>if Aj ie then PU ie else PV|none=>PV
noncomputable def Nms.kL(fns:Nms)(p:Pos):Ow:=(fns.an p.line p.col).getD bQ
noncomputable def Nms.kT(fns:Nms)(p:Pos):Ow:=(fns.an p.line p.col).getD .fz
noncomputable def xD:Const->Option IE
 |.int i=>PU (.lit (.int i))
 |.bool i=>PU (.lit (.bl i))
 |.none=>PU (.lit .non)
 |.str x=>PU (.lit (.str x))
 |_=>PV
noncomputable def qS(f:P0->Option IE)(a:P0)(ops:List Ql)(bs:List P0):Option IE:=match ops with
 |[]=>PV
 |op::ops=>match bs with
  |[]=>PV
  |b::bs=>match ops with
   |[]=>(match bs with
    |[]=>if Qg op b then PV else match f a,f b with|some a,PU b=>PU (.cmp op a b)|_,_=>PV
    |_::_=>PV)
   |op'::ops=>match ops with
    |_::_=>PV
    |[]=>match bs with
     |[]=>PV
     |d::bs=>match bs with
      |_::_=>PV
      |[]=>if Qg op' d then PV else match f a,f b,f d with|some a,PU b,PU d=>PU (.chain op op' a b d)|_,_,_=>PV
noncomputable def KC:P0->Bool
 |.UnaryOp ..=>PX
 |_=>PY
noncomputable def Eb(f:P0->Option IE)(a b:P0):Option IE:=match b with
 |.Slice lo hi st _=>(match st with
  |none=>(match f a,Ai f lo,Ai f hi with|some a,PU lo,PU hi=>PU (.sl a lo hi)|_,_,_=>PV)
  |some st=>(match hi with
   |some _=>PV
   |none=>if KC st then(match lo with
    |some _=>PV
    |none=>(match f a,f st with|some a,PU b=>PU (.rev a b)|_,_=>PV)) else(match f a,Ai f lo,f st with|some a,PU lo,PU b=>PU (.stp a lo b)|_,_,_=>PV)))
 |b=>if dq b then(match f a,f b with|some a,PU b=>PU (.ix a b)|_,_=>PV) else PV
noncomputable def BS(c:Cz)(f:P0->Option IE)(a:P0)(es:List P0):Option IE:=PV
noncomputable def Ec(c:Cz)(f:P0->Option IE)(as:List P0):Option IE:=match as with
 |[]=>PV
 |a::as=>match as with
  |[]=>PV
  |t::as=>match as with
   |_::_=>PV
   |[]=>match t with
    |.Name T _=>if eK c.sc "isinstance" && eK c.sc T&&ag a then(f a).map (.isi T) else PV
    |.Tuple es _ _=>BS c f a es
    |_=>PV
noncomputable def BT(c:Cz)(f:P0->Option IE)(g:P0)(as:List P0)(ks:List Keyword):Option IE:=PV
noncomputable def BU(c:Cz)(f:P0->Option IE)(x:Str)(as:List P0):Option IE:=PV
noncomputable def HG(f:P0->Option IE)(o:P0)(m:Str)(ap:Pos)(as:List P0)(pos:Pos):Option IE:=PV
noncomputable def KF(fns:Nms)(c:Cz)(f:P0->Option IE)(g:P0)(as:List P0)(ks:List Keyword)(pos:Pos):Option IE:=match ks with
 |k::ks=>BT c f g as (k::ks)
 |[]=>match g with
  |.Name x _=>if x="isinstance" then Ec c f as else(match as with
   |[]=>if eK c.sc x then(match bz x fns.fns with|some i=>(match fns.io i with|some _=>PV|none=>PU (.fn i .nil))|none=>PV) else PV
   |a::es=>match BU c f x (a::es) with|some r=>PU r|none=>xC fns c f x (a::es))
  |.Attribute o m ap=>HG f o m ap as pos
  |_=>PV
noncomputable def HI(fns:Nms)(c:Cz)(fE fT:Cz->P0->Option IE)(elt:P0)(gs:List Comprehension)(scope:Qe)(p:Pos):Option IE:=match gs with
 |[]=>PV
 |g::gs=>match gs with
  |_::_=>PV
  |[]=>if g.is_async=0 then(if d4 g.iter&&bO c scope then(match oz ⟨gG scope c.sc,aq scope,ij scope⟩ 4 g.target,Ea c (fE c) g.target g.iter,qR (fT ⟨gG scope c.sc,aq scope,ij scope⟩) g.ifs,fE ⟨gG scope c.sc,aq scope,ij scope⟩ elt with
   |some t,PU it,PU ts,PU el=>PU (.comp ((fns.an p.line p.col).getD .fz) (aM c scope) t it ts el)|_,_,_,_=>PV) else PV) else PV
noncomputable def KG(k:Option P0):Option D:=match k with
 |some k=>(match k with
  |.Constant z _ _=>(match xD z with
   |some z=>(match z with
    |.lit d=>PU d
    |_=>PV)
   |none=>PV)
  |_=>PV)
 |none=>PV
noncomputable def BV(f:P0->Option IE):List (Option P0)->List P0->Option (List D×gg)
 |[],vs=>(match vs with|[]=>PU ([],.nil)|_::_=>PV)
 |k::ks,vs=>match vs with
  |[]=>PV
  |v::vs=>match KG k,f v,BV f ks vs with
   |some d,PU a,PU p=>PU (d::p.1,.cons a p.2)
   |_,_,_=>PV
noncomputable def Ak(f:P0->Option IE)(ks:List (Option P0))(vs:List P0):Option IE:=match ks with
 |[]=>PV
 |k::ks=>match ks with
  |k2::ks2=>(BV f (k::k2::ks2) vs).map λp=>.dspN p.1 p.2
  |[]=>match vs with
   |[]=>PV
   |v::vs=>match vs with
    |_::_=>PV
    |[]=>match k with
     |none=>PV
     |some k=>(match k with
      |.Constant z _ _=>(match xD z with
       |some z=>(match z with
        |.lit d=>(f v).map (.dsp d)
        |_=>PV)
       |none=>PV)
      |_=>PV)
noncomputable def xE(m:Nat)(f:P0->Option IE)(ks:List (Option P0))(vs:List P0):Option IE:=match ks with
 |[]=>PV
 |k::ks=>match ks with
  |_::_=>PV
  |[]=>match vs with
   |[]=>PV
   |v::vs=>match vs with
    |_::_=>PV
    |[]=>match k with
     |none=>PV
     |some k=>(match f k,f v with|some a,PU b=>PU (.dspT m a b)|_,_=>PV)
theorem xF{m:Nat}{f:P0->Option IE}(h:xE m f ks vs=PU ie):∃k v a b,ks=[PU k]/\vs=[v]/\f k=PU a/\f v=PU b/\ie=.dspT m a b:=by
 unfold xE at h
 repeat' split at h
 all_goals first|(cases h;done)|skip
 rename_i a b h1 h2;cases h;exact⟨_,_,a,b,rfl,rfl,h1,h2,rfl⟩
noncomputable def L9:Ow->Nat
 |.fz=>1
 |.own es _=>if es.length=0 then 1 else es.length
noncomputable def Mx:Ow->Ow
 |.fz=>.fz
 |.own _ r=>r
mutual
noncomputable def cE(fns:Nms):Nat->Cz->P0->Option IE
 |0,_,_=>PV
 |n+1,c,e=>match e with
  |.Name x p=>if eK c.sc x then(fns.cs.lookup x).map .lit else(match fns.md p.line p.col with|none=>(ef c x).map .var|some _=>PV)
  |.Constant v _ _=>xD v
  |.BinOp a op b _=>match cE fns n c a,cE fns n c b with|some a,PU b=>PU (.bin op a b)|_,_=>PV
  |.Compare a ops bs _=>qS (cE fns n c) a ops bs
  |.UnaryOp op a _=>(match op with|.USub=>(cE fns n c a).map .neg|.Not=>(cE fns n c a).map .not|_=>PV)
  |.BoolOp op es _=>(gr (cE fns n c) es).map (.bool op)
  |.IfExp t a b _=>match cT fns n c t,cE fns n c a,cE fns n c b with|some t,PU a,PU b=>PU (.ifx t a b)|_,_,_=>PV
  |.List es p=>(df (cE fns n c) es).map (.lst (fns.kL p))
  |.Tuple es _ p=>(df (cE fns n c) es).map (.tup (fns.kT p))
  |.Dict ks vs p=>(match ks with|k::ks'=>(match fns.an p.line p.col with|some o=>(match L9 o with|0=>Ak (cE fns n c) (k::ks') vs|m+1=>xE m (cE fns n c) (k::ks') vs)|none=>Ak (cE fns n c) (k::ks') vs)|[]=>(match vs with|_::_=>PV|[]=>PU (match fns.an p.line p.col with|some k=>.dnew (L9 k) (Mx k)|none=>.dnew 0 .fz)))
  |.Subscript a b _=>Eb (cE fns n c) a b
  |.Attribute a f _=>if kG a then(cE fns n c a).map (.fld f) else PV
  |.Call g as ks pos=>KF fns c (cE fns n c) g as ks pos
  |.ListComp elt gs scope p=>HI fns c (cE fns n) (cT fns n) elt gs scope p
  |_=>PV
noncomputable def cT(fns:Nms):Nat->Cz->P0->Option IE
 |0,_,_=>PV
 |n+1,c,e=>match e with
  |.Compare a ops bs _=>qS (cE fns n c) a ops bs
  |.UnaryOp op a _=>(match op with|.Not=>(cT fns n c a).map .not|_=>PV)
  |.BoolOp op es _=>(gr (cT fns n c) es).map (.bool op)
  |.Name x p=>jv (cE fns n c (.Name x p))
  |.Call f as ks p=>jv (cE fns n c (.Call f as ks p))
  |.Subscript a b p=>jv (cE fns n c (.Subscript a b p))
  |_=>PV
end
theorem qT{f:Ro->Option KD}(h:∀ρ,f ρ=PV):SndE X f e:=λρ kd d hh=>by rw[h] at hh;cases hh
theorem KH{f:Ro->Option Bool}(h:∀ρ,f ρ=PV):SndT X f e:=λρ b hh=>by rw[h] at hh;cases hh
theorem aX{α β:Type}{o:Option α}{g:α->β}{b:β}(h:o.map g=PU b):∃a,o=PU a/\b=g a:=by
 cases o with
 |none=>cases h
 |some a=>cases h;exact⟨a,rfl,rfl⟩
theorem jL(h:Aj ie=PX):bG Γ ie=λρ=>ny (aj Γ ie ρ):=by
 funext ρ
 cases ie with
 |var i=>rfl
 |ix a b=>rfl
 |isi T a=>rfl
 |isi2 T U a=>rfl
 |fn i es=>rfl
 |blt x es=>rfl
 |_=>cases h
theorem kM(d:D):aj Γ (.lit d)=λ_=>PU (.sh,d):=by
 exact funext λ_=>rfl
theorem kN(h:jv o=PU ie):o=PU ie/\Aj ie=PX:=by
 unfold jv at h;split at h
 ·split at h
  ·rename_i hk;cases h;exact⟨rfl,hk⟩
  ·cases h
 ·cases h
section
variable {X:Cx} {c:Cz} (fns:Nms) (Γ:Nat->Option Fn) {fm:Str->Option (MW->Sp)}
theorem cZ{f:P0->Option IE}(hf:∀e ie,f e=PU ie->SndE X (aj Γ ie) e):∀{es:List P0} {ies:gg},df f es=PU ies->fF X (aW Γ ies) es/\es.all ag=PX
 |[],ies,h=>by
  cases h;refine⟨?_,rfl⟩;have:aW Γ .nil=λ_=>PU []:=by funext ρ;rw[aW]
  rw[this];exact zT
 |e::es,ies,h=>by
  unfold df at h;split at h
  ·rename_i hn;split at h
   ·rename_i a r ha hr;cases h;obtain⟨h1,h2⟩:=cZ hf hr;refine⟨?_,by rw[N9,hn,h2];rfl⟩;have:aW Γ (.cons a r)=λρ=>gp (aj Γ a ρ) (aW Γ r ρ):=by funext ρ;rw[aW]
    rw[this];exact zU hn (hf e a ha) h1
   ·cases h
  ·cases h
theorem sM{f:P0->Option IE}(hf:∀e ie,f e=PU ie->SndT X (bG Γ ie) e)(op:BoolOp)(pos:Pos):∀{es:List P0} {ies:gg},gr f es=PU ies->∀ρ r,fJ Γ op ies ρ=PU r->∀g σ H Q,SE X.K g ρ σ H->(∀H',Same H H'->Q r H')->wW X (.BoolOp op es pos) σ H Q
 |[],ies,h,ρ,r,hr,g,σ,H,Q,se,q=>by cases h;unfold fJ at hr;cases hr
 |[a],ies,h,ρ,r,hb,g,σ,H,Q,se,q=>by
  unfold gr gr at h;split at h
  ·rename_i a' r' ha hr;cases h;cases hr;unfold fJ at hb;have h1:=hf a a' ha ρ r hb g σ H Q se q
   cases op with
   |And=>exact lY (zo fq) h1
   |Or=>exact lY (wm fq) h1
  ·cases h
 |a::b::es,ies,h,ρ,r,hb,g,σ,H,Q,se,q=>by
  unfold gr at h;split at h
  ·rename_i a' r0 ha hr;cases h;have rest:=sM hf op pos hr ρ r
   have hr2:∃b' r',r0=.cons b' r':=by
    unfold gr at hr;split at hr
    ·cases hr;exact⟨_,_,rfl⟩
    ·cases hr
   obtain⟨b',r',rfl⟩:=hr2;unfold fJ at hb;dsimp only at hb;split at hb
   ·rename_i x ea;split at hb
    ·rename_i hx
     cases op with
     |And=>
      refine lY (wn fq zM) (hf a a' ha ρ x ea g σ H _ se λH1 s1=>?_);have:x=PX:=by rw[<- hx];rfl
      rw[if_pos this];exact rest hb g σ H1 Q (se.same s1) λH2 s2=>q H2 (s1.trans s2)
     |Or=>
      refine lY (wo fq zM) (hf a a' ha ρ x ea g σ H _ se λH1 s1=>?_);have:x=PY:=by rw[<- hx];rfl
      rw[if_neg (by rw[this];decide)];exact rest hb g σ H1 Q (se.same s1) λH2 s2=>q H2 (s1.trans s2)
    ·rename_i hx;cases hb
     cases op with
     |And=>
      refine lY (wn fq zM) (hf a a' ha ρ r ea g σ H _ se λH1 s1=>?_)
      have:r=PY:=by cases r with|true=>exact absurd rfl hx|false=>rfl
      subst this;rw[if_neg (by decide)];exact q H1 s1
     |Or=>
      refine lY (wo fq zM) (hf a a' ha ρ r ea g σ H _ se λH1 s1=>?_)
      have:r=PX:=by cases r with|false=>exact absurd rfl hx|true=>rfl
      subst this;rw[if_pos rfl];exact q H1 s1
   ·cases hb
  ·cases h
theorem Al(O:al X (cz fns Γ fm) c){f:P0->Option IE}(hf:∀e ie,f e=PU ie->SndE X (aj Γ ie) e){x:Str}{a:P0}{es:List P0}{p pos:Pos}{ie:IE}(h:xC fns c f x (a::es)=PU ie):SndE X (aj Γ ie) (.Call (.Name x p) (a::es) [] pos):=by
 unfold xC at h;split at h
 ·rename_i hg;rw[MX,N9,MX] at hg;split at h
  ·rename_i ies ha;have hA:=(cZ Γ hf ha).1;split at h
   ·rename_i i hi;split at h
    ·cases h
    cases h
    have e:aj Γ (.fn i ies)=λρ=>zj ((cz fns Γ fm).fn x) (aW Γ ies ρ):=by
     funext ρ;show zj (Γ i) (aW Γ ies ρ)=_;unfold cz;dsimp only;rw[hi];rfl
    rw[e];exact KA O hA hg.1 hg.2.1 hg.2.2
   ·cases h
    (have e:aj Γ (.blt x ies)=λρ=>qK x (aW Γ ies ρ):=(by exact funext λ_=>rfl);rw[e];exact Hv O hA hg.1 hg.2.1 hg.2.2)
  ·cases h
 ·cases h
theorem xG(O:al X (cz fns Γ fm) c){f:P0->Option IE}(hf:∀e ie,f e=PU ie->SndE X (aj Γ ie) e){tg iter:P0}{it:II}(h:Ea c f tg iter=PU it):SndI X (d6 Γ it) tg iter:=by
 have one:∀{it:II},(f iter).map .e=PU it->SndI X (d6 Γ it) tg iter:=λh=>by
  obtain⟨a,ha,rfl⟩:=aX h
  (have e:d6 Γ (.e a)=λρ=>qL (aj Γ a ρ):=(by exact funext λ_=>rfl);rw[e];exact Hx (hf _ _ ha))
 unfold Ea at h;split at h
 ·rename_i x p a pos;split at h
  ·rename_i hx;subst hx;split at h
   ·rename_i hg;rw[MX] at hg;obtain⟨a',ha,rfl⟩:=aX h
    (have e:d6 Γ (.rng (.lit (.int 0)) a')=λρ=>iu (PU (.sh,.int 0)) (aj Γ a' ρ):=(by exact funext λ_=>rfl);rw[e];exact D2 O hg.1 hg.2 (hf _ _ ha))
   ·cases h
  ·split at h
   ·rename_i hx;subst hx;split at h
    ·rename_i hg;simp only[MX] at hg;obtain⟨a',ha,rfl⟩:=aX h
     (have e:d6 Γ (.enm a')=λρ=>uY (aj Γ a' ρ):=(by exact funext λ_=>rfl);rw[e];exact Hy O hg.1.1 hg.1.2 hg.2 (hf _ _ ha))
    ·cases h
   ·exact one h
 ·rename_i x p a b pos;split at h
  ·rename_i hx;subst hx;split at h
   ·rename_i hg;simp only[MX] at hg;split at h
    ·rename_i a' b' ha hb;cases h
     (have e:d6 Γ (.rng a' b')=λρ=>iu (aj Γ a' ρ) (aj Γ b' ρ):=(by exact funext λ_=>rfl);rw[e];exact D3 O hg.1.1 hg.1.2 hg.2 (hf _ _ ha) (hf _ _ hb))
    ·cases h
   ·cases h
  ·split at h
   ·rename_i hx;subst hx;split at h
    ·rename_i hg;simp only[MX] at hg;split at h
     ·rename_i a' b' ha hb;cases h
      (have e:d6 Γ (.zp a' b')=λρ=>o5 (aj Γ a' ρ) (aj Γ b' ρ):=(by exact funext λ_=>rfl);rw[e];exact Hz O hg.1.1.1 hg.1.1.2 hg.1.2 hg.2 (hf _ _ ha) (hf _ _ hb))
     ·cases h
    ·cases h
   ·exact one h
 ·exact one h
theorem xH{k:Nat}(h:xD v=PU ie):SndE X (aj Γ ie) (.Constant v k pos):=by
 cases v with
 |int i=>cases h;rw[kM];exact G9 _ _ _
 |bool i=>cases h;rw[kM];exact Kq _ _ _
 |none=>cases h;rw[kM];exact Ha _ _
 |str i=>cases h;rw[kM];exact Hb _ _ _
 |_=>cases h
theorem sN{f:P0->Option IE}(h:qS f a ops bs=PU ie):(∃op b a' b',ops=[op]/\bs=[b]/\Qg op b=PY/\f a=PU a'/\f b=PU b'/\ie=.cmp op a' b')\/(∃op op' b d a' b' d',ops=[op,op']/\bs=[b,d]/\Qg op' d=PY/\f a=PU a'/\f b=PU b'/\f d=PU d'/\ie=.chain op op' a' b' d'):=by
 cases ops with
 |nil=>cases h
 |cons op ops=>cases bs with
  |nil=>cases h
  |cons b bs=>cases ops with
   |nil=>cases bs with
    |cons _ _=>cases h
    |nil=>
     dsimp only[qS] at h;split at h
     ·cases h
     ·rename_i hm;split at h
      ·rename_i a' b' ha hb;cases h;exact .inl ⟨op,b,a',b',rfl,rfl,by simpa using hm,ha,hb,rfl⟩
      ·cases h
   |cons op' ops=>cases ops with
    |cons _ _=>cases h
    |nil=>cases bs with
     |nil=>cases h
     |cons d bs=>cases bs with
      |cons _ _=>cases h
      |nil=>
       dsimp only[qS] at h;split at h
       ·cases h
       ·rename_i hm;split at h
        ·rename_i a' b' d' ha hb hd;cases h;exact .inr ⟨op,op',b,d,a',b',d',rfl,rfl,by simpa using hm,ha,hb,hd,rfl⟩
        ·cases h
theorem xI{f:P0->Option IE}(hf:∀e ie,f e=PU ie->SndE X (aj Γ ie) e){o:Option P0}{io:IO}(h:Ai f o=PU io):uW X (d5 Γ io) o:=by
 cases o with
 |none=>
  cases h;have e:d5 Γ .non=λ_=>PU PV:=by funext ρ;rw[d5]
  rw[e];exact DR
 |some e=>
  obtain⟨a,ha,rfl⟩:=aX h;have e:d5 Γ (.som a)=λρ=>zX (aj Γ a ρ):=by funext ρ;rw[d5]
  rw[e];exact DS (hf _ _ ha)
theorem sO{f:P0->Option IE}(hf:∀e ie,f e=PU ie->SndT X (bG Γ ie) e){o:List P0}{io:IO}(h:qR f o=PU io):pb X (eB Γ io) o:=by
 unfold qR at h;split at h
 ·cases h;have e:eB Γ .non=λ_=>PU PX:=by funext ρ;rw[eB]
  rw[e];exact HE
 ·obtain⟨a,ha,rfl⟩:=aX h;have e:eB Γ (.som a)=bG Γ a:=by funext ρ;rw[eB]
  rw[e];exact HF (hf _ _ ha)
 ·cases h
theorem xJ{f:P0->Option IE}(hE:∀e ie,f e=PU ie->SndE X (aj Γ ie) e){ks:List (Option P0)}{vs:List P0}{pos:Pos}{ie:IE}(h:Ak f ks vs=PU ie):SndE X (aj Γ ie) (.Dict ks vs pos):=by
 cases ks with
 |nil=>cases h
 |cons k ks=>cases ks with
  |cons k2 ks2=>
   obtain⟨p,hp,rfl⟩:=aX h;exact qT λ_=>rfl
  |nil=>cases vs with
   |nil=>cases h
   |cons v vs=>cases vs with
    |cons _ _=>cases h
    |nil=>cases k with
     |none=>cases h
     |some k=>cases k with
      |Constant z j p=>
       dsimp only[Ak] at h
       cases hz:xD z with
       |none=>rw[hz] at h;cases h
       |some z'=>
        rw[hz] at h
        cases z' with
        |lit d=>
         obtain⟨a',ha,rfl⟩:=aX h;have hk:=xH (X:=X) (k:=j) (pos:=p) Γ hz;rw[kM] at hk;exact qT λ_=>rfl
        |_=>cases h
      |_=>cases h
theorem Ed(O:al X (cz fns Γ fm) c){f:P0->Option IE}(hE:∀e ie,f e=PU ie->SndE X (aj Γ ie) e){a b:P0}{pos:Pos}{ie:IE}(h:Eb f a b=PU ie):SndE X (aj Γ ie) (.Subscript a b pos):=by
 unfold Eb at h;split at h
 ·rename_i lo hi st p
  cases st with
  |none=>
   dsimp only at h;split at h
   ·rename_i a' lo' hi' ha hlo hhi;cases h
    (rw[show aj Γ (.sl a' lo' hi')=λρ=>Ga (aj Γ a' ρ) (d5 Γ lo' ρ) (d5 Γ hi' ρ) from funext λ_=>rfl];exact Kv (hE _ _ ha) (xI Γ hE hlo) (xI Γ hE hhi))
   ·cases h
  |some st=>cases hi with
   |some _=>cases h
   |none=>
    dsimp only at h;split at h
    ·cases lo with
     |some _=>cases h
     |none=>
      dsimp only at h;split at h
      ·rename_i a' b' ha hb;cases h
       (rw[show aj Γ (.rev a' b')=λρ=>qI (aj Γ a' ρ) (aj Γ b' ρ) from funext λ_=>rfl];exact Hr (hE _ _ ha) (hE _ _ hb))
      ·cases h
    ·split at h
     ·rename_i a' lo' b' ha hlo hb;cases h
      (rw[show aj Γ (.stp a' lo' b')=λρ=>uX (aj Γ a' ρ) (d5 Γ lo' ρ) (aj Γ b' ρ) from funext λ_=>rfl];exact Hq (hE _ _ ha) (xI Γ hE hlo) (hE _ _ hb))
     ·cases h
 ·split at h
  ·rename_i hp;split at h
   ·rename_i a' b' ha hb;cases h
    (rw[show aj Γ (.ix a' b')=λρ=>uV (aj Γ a' ρ) (aj Γ b' ρ) from funext λ_=>rfl];exact Ku O (hE _ _ ha) (hE _ _ hb) hp)
   ·cases h
  ·cases h
theorem Am(O:al X (cz fns Γ fm) c){f:P0->Option IE}(hE:∀e ie,f e=PU ie->SndE X (aj Γ ie) e){a:P0}{es:List P0}{kk:Nat}{p tp pos:Pos}{ie:IE}(h:BS c f a es=PU ie):SndE X (aj Γ ie) (.Call (.Name "isinstance" p) [a,.Tuple es kk tp] [] pos):=by cases h
theorem Ee(O:al X (cz fns Γ fm) c){f:P0->Option IE}(hE:∀e ie,f e=PU ie->SndE X (aj Γ ie) e){as:List P0}{p pos:Pos}{ie:IE}(h:Ec c f as=PU ie):SndE X (aj Γ ie) (.Call (.Name "isinstance" p) as [] pos):=by
 cases as with
 |nil=>cases h
 |cons a as=>cases as with
  |nil=>cases h
  |cons t as=>cases as with
   |cons _ _=>cases h
   |nil=>
    dsimp only[Ec] at h;split at h
    ·split at h
     ·rename_i hg;simp only[MX] at hg;obtain⟨a',ha,rfl⟩:=aX h
      (rw[show aj Γ (.isi _ a')=λρ=>u7 _ (aj Γ a' ρ) from funext λ_=>rfl];exact HC O hg.1.1 hg.1.2 hg.2 (hE _ _ ha))
     ·cases h
    ·exact Am fns Γ O hE h
    ·cases h
theorem Ef(O:al X (cz fns Γ fm) c){f:P0->Option IE}(hE:∀e ie,f e=PU ie->SndE X (aj Γ ie) e){g:P0}{as:List P0}{ks:List Keyword}{pos:Pos}{ie:IE}(h:BT c f g as ks=PU ie):SndE X (aj Γ ie) (.Call g as ks pos):=by cases h
theorem Ao(O:al X (cz fns Γ fm) c){f:P0->Option IE}(hE:∀e ie,f e=PU ie->SndE X (aj Γ ie) e){x:Str}{as:List P0}{p pos:Pos}{ie:IE}(h:BU c f x as=PU ie):SndE X (aj Γ ie) (.Call (.Name x p) as [] pos):=by cases h
theorem Eg(O:al X (cz fns Γ fm) c){f:P0->Option IE}(hE:∀e ie,f e=PU ie->SndE X (aj Γ ie) e){o:P0}{m:Str}{ap:Pos}{as:List P0}{pos:Pos}{ie:IE}(h:HG f o m ap as pos=PU ie):SndE X (aj Γ ie) (.Call (.Attribute o m ap) as [] pos):=by cases h
theorem HJ(O:al X (cz fns Γ fm) c){f:P0->Option IE}(hE:∀e ie,f e=PU ie->SndE X (aj Γ ie) e){g:P0}{as:List P0}{ks:List Keyword}{pos:Pos}{ie:IE}(h:KF fns c f g as ks pos=PU ie):SndE X (aj Γ ie) (.Call g as ks pos):=by
 cases ks with
 |cons _ _=>exact Ef fns Γ O hE h
 |nil=>
  dsimp only[KF] at h;split at h
  ·rename_i x p;split at h
   ·rename_i hx;subst hx;exact Ee fns Γ O hE h
   ·cases as with
    |cons a es=>
     dsimp only at h;split at h
     ·rename_i r hr;cases h;exact Ao fns Γ O hE hr
     ·exact Al fns Γ O hE h
    |nil=>
     dsimp only at h;split at h
     ·rename_i hg;split at h
      ·rename_i i hi;split at h
       ·cases h
       ·cases h;rw[show aj Γ (.fn i .nil)=λρ=>zj (Γ i) (PU []) by exact funext λ_=>rfl];have:=HD (p:=p) (pos:=pos) O hg;rw[show(cz fns Γ fm).fn x=Γ i from by show(bz x fns.fns).bind Γ=_;rw[hi];rfl] at this;exact this
      ·cases h
     ·cases h
  ·exact Eg fns Γ O hE h
  ·cases h
theorem HK(O:al X (cz fns Γ fm) c){fE fT:Cz->P0->Option IE}(ihE:∀X c,al X (cz fns Γ fm) c->∀e ie,fE c e=PU ie->SndE X (aj Γ ie) e)(ihT:∀X c,al X (cz fns Γ fm) c->∀e ie,fT c e=PU ie->SndT X (bG Γ ie) e){elt:P0}{gs:List Comprehension}{scope:Qe}{pos:Pos}{ie:IE}(h:HI fns c fE fT elt gs scope pos=PU ie):SndE X (aj Γ ie) (.ListComp elt gs scope pos):=by
 cases gs with
 |nil=>cases h
 |cons g gs=>cases gs with
  |cons _ _=>cases h
  |nil=>
   dsimp only[HI] at h;split at h
   ·rename_i h0;split at h
    ·rename_i hn;rw[MX] at hn;split at h
     ·rename_i t it ts el ht hit hts hel;cases h;rw[show aj Γ (.comp _ (aM c _) t it ts el)=λρ=>ma _ (d6 Γ it ρ) (eM t (eB Γ ts) (aj Γ el) (cL ρ (aM c _))) from funext λ_=>rfl];have CO:=fZ O hn.2
      cases g with
      |mk tg iter ifs as=>
       subst h0;exact D7 O hn.2 hn.1 (xG fns Γ O (ihE X c O) hit) ht (λC s H ex=>sO Γ (ihT _ _ (CO C s H ex)) hts) (λC s H ex=>ihE _ _ (CO C s H ex) _ _ hel)
     ·cases h
    ·cases h
   ·cases h
end
section
variable (fns:Nms) (Γ:Nat->Option Fn) {fm:Str->Option (MW->Sp)}
theorem bR:∀n:Nat,(∀X c,al X (cz fns Γ fm) c->∀e ie,cE fns n c e=PU ie->SndE X (aj Γ ie) e)/\(∀X c,al X (cz fns Γ fm) c->∀e ie,cT fns n c e=PU ie->SndT X (bG Γ ie) e)
 |0=>⟨λX c O e ie h=>by (cases(show(PV:Option IE)=PU ie from h)),λX c O e ie h=>by (cases(show(PV:Option IE)=PU ie from h))⟩
 |n+1=>by
  obtain⟨ihE,ihT⟩:=bR n;refine⟨λX c O e ie h=>?_,λX c O e ie h=>?_⟩
  ·have hE:=ihE X c O;have hT:=ihT X c O
   cases e with
   |Name x p=>
    dsimp only[cE] at h;split at h
    ·rename_i hg;obtain⟨d,hd,rfl⟩:=aX h;have e:aj Γ (.lit d)=λ_=>PU (.sh,d):=by exact funext λ_=>rfl
     rw[e];exact Hc O hg hd p
    ·split at h
     ·obtain⟨i,hi,rfl⟩:=aX h;have e:aj Γ (.var i)=λρ=>qF i ρ[i]?:=by exact funext λ_=>rfl
      rw[e];exact BO O hi p
     ·cases h
   |Constant v k pos=>exact xH Γ h
   |BinOp a op b pos=>
    dsimp only[cE] at h;split at h
    ·rename_i a' b' ha hb;cases h
     (rw[show aj Γ (.bin _ a' b')=λρ=>xg _ (aj Γ a' ρ) (aj Γ b' ρ) from funext λ_=>rfl];exact He (hE _ _ ha) (hE _ _ hb))
    ·cases h
   |Compare a ops bs pos=>
    rcases sN (show qS (cE fns n c) a ops bs=PU ie from h) with⟨op,b,a',b',rfl,rfl,hm,ha,hb,rfl⟩|⟨op,op',b,d,a',b',d',rfl,rfl,hm,ha,hb,hd,rfl⟩
    ·(rw[show aj Γ (.cmp _ a' b')=λρ=>bV (kF _ (aj Γ a' ρ) (aj Γ b' ρ)) from funext λ_=>rfl];exact Hf O hm (hE _ _ ha) (hE _ _ hb))
    ·exact qT λ_=>rfl
   |UnaryOp op a pos=>cases op with
    |USub=>
     obtain⟨a',ha,rfl⟩:=aX (show(cE fns n c a).map .neg=PU ie from h)
     (rw[show aj Γ (.neg a')=λρ=>xh (aj Γ a' ρ) from funext λ_=>rfl];exact Hh (hE _ _ ha))
    |Not=>
     obtain⟨a',ha,rfl⟩:=aX (show(cE fns n c a).map .not=PU ie from h);exact qT λ_=>rfl
    |_=>cases h
   |BoolOp op es pos=>
    obtain⟨a',ha,rfl⟩:=aX (show(gr (cE fns n c) es).map (.bool op)=PU ie from h);exact qT λ_=>rfl
   |IfExp t a b pos=>
    dsimp only[cE] at h;split at h
    ·rename_i t' a' b' ht ha hb;cases h
     (rw[show aj Γ (.ifx t' a' b')=λρ=>Hk (bG Γ t' ρ) (aj Γ a' ρ) (aj Γ b' ρ) from funext λ_=>rfl];exact Kr (hT _ _ ht) (hE _ _ ha) (hE _ _ hb))
    ·cases h
   |List es p=>
    obtain⟨a',ha,rfl⟩:=aX (show(df (cE fns n c) es).map (.lst (fns.kL p))=PU ie from h)
    (rw[show aj Γ (.lst _ a')=λρ=>ik _ (aW Γ a' ρ) from funext λ_=>rfl];exact Hl (cZ Γ hE ha).1)
   |Tuple es k p=>
    obtain⟨a',ha,rfl⟩:=aX (show(df (cE fns n c) es).map (.tup (fns.kT p))=PU ie from h)
    (rw[show aj Γ (.tup _ a')=λρ=>il _ (aW Γ a' ρ) from funext λ_=>rfl];exact Hm (cZ Γ hE ha).1)
   |Dict ks vs p=>cases ks with
    |cons k ks'=>
     dsimp only[cE] at h;split at h
     ·split at h
      ·exact xJ Γ hE h
      obtain⟨k',v',a',b',e1,rfl,ha,hb,rfl⟩:=xF h;cases e1
      (rw[show ∀m,aj Γ (.dspT m a' b')=λρ=>js m (aj Γ a' ρ) (aj Γ b' ρ) by intro m;exact funext λ_=>rfl];exact DX O (hE _ _ ha) (hE _ _ hb))
     ·exact xJ Γ hE h
    |nil=>cases vs with
     |cons _ _=>cases h
     |nil=>
      have dn:∀t r,SndE X (aj Γ (.dnew t r)) (.Dict [] [] p):=λt r=>by
       exact qT λ_=>rfl
      dsimp only[cE] at h;cases h
      split<;>exact dn _ _
   |Subscript a b pos=>exact Ed fns Γ O hE h
   |Attribute a f pos=>
    dsimp only[cE] at h;split at h
    ·rename_i hb;obtain⟨a',ha,rfl⟩:=aX h;exact qT λ_=>rfl
    ·cases h
   |Call g as ks pos=>exact HJ fns Γ O hE h
   |ListComp elt gs scope pos=>exact HK fns Γ O ihE ihT h
   |_=>cases h
  ·have hE:=ihE X c O;have hT:=ihT X c O
   cases e with
   |Compare a ops bs pos=>
    rcases sN (show qS (cE fns n c) a ops bs=PU ie from h) with⟨op,b,a',b',rfl,rfl,hm,ha,hb,rfl⟩|⟨op,op',b,d,a',b',d',rfl,rfl,hm,ha,hb,hd,rfl⟩
    ·(rw[show bG Γ (.cmp _ a' b')=λρ=>kF _ (aj Γ a' ρ) (aj Γ b' ρ) from funext λ_=>rfl];exact Hg O hm (hE _ _ ha) (hE _ _ hb))
    ·exact KH λ_=>rfl
   |UnaryOp op a pos=>cases op with
    |Not=>
     obtain⟨a',ha,rfl⟩:=aX (show(cT fns n c a).map .not=PU ie from h)
     (rw[show bG Γ (.not a')=λρ=>(bG Γ a' ρ).map (!·) from funext λ_=>rfl];exact Hj (hT _ _ ha))
    |_=>cases h
   |BoolOp op es pos=>
    obtain⟨a',ha,rfl⟩:=aX (show(gr (cT fns n c) es).map (.bool op)=PU ie from h)
    (rw[show bG Γ (.bool _ a')=fJ Γ _ a' from funext λ_=>rfl];exact λρ b h g σ H Q se q=>λpins s I=>sM Γ hT _ _ ha ρ b h g σ H Q se q _ pins s I)
   |Name x p=>
    obtain⟨h1,h2⟩:=kN (show jv (cE fns n c _)=PU ie from h);rw[jL h2];exact xi (hE _ _ h1) (λ_=>rfl)
   |Call g as ks p=>
    obtain⟨h1,h2⟩:=kN (show jv (cE fns n c _)=PU ie from h);rw[jL h2];exact xi (hE _ _ h1) (λ_=>rfl)
   |Subscript a b p=>
    obtain⟨h1,h2⟩:=kN (show jv (cE fns n c _)=PU ie from h);rw[jL h2];exact xi (hE _ _ h1) (λ_=>rfl)
   |_=>cases h
end
end J
namespace J
open PySem PySem.Spec L2
structure Evo(g:Gh)(H:Hp)(g':Gh)(H':Hp)(F:Pr):Prop where
 keep:∀b o,(∀i,g b≠PU (PU i))->H b=PU o->H' b=PU o
 out:∀b,g b=PU PV↔g' b=PU PV
 new:∀b i,g' b=PU (PU i)->(∃j,g b=PU (PU j))\/H b=PV
 tmp:∀b,F b->g' b=PV/\((∃j,g b=PU (PU j))\/H b=PV)
 dom:∀b o,H b=PU o->∃o',H' b=PU o'
section
variable {K:MW} {H H' H1 H2:Hp} {g g' g1 g2:Gh} {F F1 F2:Pr}
theorem Evo.refl(g:Gh)(H:Hp):Evo g H g H (λ_=>False):=⟨λ_ _ _ e=>e,λ_=>Iff.rfl,λb i e=>.inl ⟨i,e⟩,λ_ z=>z.elim,λ_ o e=>⟨o,e⟩⟩
theorem Evo.froz(e:Evo g H g' H' F){b:P1}{o:HO}(h:H b=PU o)(n:g b=PV):g' b=PV/\¬F b:=by
 refine⟨?_,λz=>?_⟩
 ·cases q:g' b with
  |none=>rfl
  |some x=>
   cases x with
   |none=>have:=(e.out b).mpr q;rw[n] at this;cases this
   |some i=>
    rcases e.new b i q with⟨j,q⟩|q
    ·rw[n] at q;cases q
    ·rw[h] at q;cases q
 ·rcases(e.tmp b z).2 with⟨j,q⟩|q
  ·rw[n] at q;cases q
  ·rw[h] at q;cases q
open Classical in
noncomputable def Gh.minus(g:Gh)(F:Pr):Gh:=λb=>if F b then PV else g b
theorem iz(h:F b):g.minus F b=PV:=by unfold Gh.minus;rw[if_pos h]
theorem bH(h:¬F b):g.minus F b=g b:=by unfold Gh.minus;rw[if_neg h]
theorem kO(h:g.minus F b=PU x):g b=PU x/\¬F b:=by
 unfold Gh.minus at h;split at h
 ·cases h
 ·rename_i n;exact⟨h,n⟩
theorem cg(h:¬F b):g.plus F b=g b:=by unfold Gh.plus;rw[if_neg h]
theorem Evo.trans(a:Evo g H g1 H1 F1)(b:Evo (g1.plus F1) H1 g2 H2 F2):Evo g H (g2.minus F1) H2 (λb=>F1 b\/F2 b):=by
 have of2:∀c,¬F1 c->∀j,(g1.plus F1) c=PU (PU j)->(∃k,g c=PU (PU k))\/H c=PV:=λc n j e=>by
  rw[cg n] at e;exact a.new c j e
 have h1:∀c,H1 c=PV->H c=PV:=λc q=>by
  cases e:H c with
  |none=>rfl
  |some o=>obtain⟨o',q'⟩:=a.dom c o e;rw[q] at q';cases q'
 refine⟨λc o n e=>?_,λc=>⟨λq=>?_,λq=>?_⟩,λc i q=>?_,λc z=>?_,λc o e=>?_⟩
 ·refine b.keep c o (λi q=>?_) (a.keep c o n e);have nf:=bM q;rcases a.new c i nf with⟨j,q⟩|q
  ·exact n j q
  ·rw[e] at q;cases q
 ·have nF:¬F1 c:=λz=>by
   have:=(a.tmp c z).1;rw[(a.out c).mp q] at this;cases this
  rw[bH nF];exact(b.out c).mp (by rw[cg nF];exact(a.out c).mp q)
 ·obtain⟨q1,nF⟩:=kO q;have:=(b.out c).mpr q1;rw[cg nF] at this;exact(a.out c).mpr this
 ·obtain⟨q1,nF⟩:=kO q;rcases b.new c i q1 with⟨j,q⟩|q
  ·exact of2 c nF j q
  ·exact .inr (h1 c q)
 ·rcases z with z|z
  ·exact⟨iz z,(a.tmp c z).2⟩
  ·obtain⟨t1,t2⟩:=b.tmp c z;by_cases zF:F1 c
   ·exact⟨iz zF,(a.tmp c zF).2⟩
   ·refine⟨by rw[bH zF];exact t1,?_⟩;rcases t2 with⟨j,q⟩|q
    ·exact of2 c zF j q
    ·exact .inr (h1 c q)
 ·obtain⟨o1,e1⟩:=a.dom c o e;exact b.dom c o1 e1
theorem VR1.evo(hb:bX kd=PY)(b:Evo (g1.plus F1) H1 g2 H2 F2)(h:VR1 K H1 g1 F1 kd d v F1):VR1 K H2 (g2.minus F1) (λc=>F1 c\/F2 c) kd d v F1:=by
 have k1:∀c o,(¬Sx g1 F1 c\/F1 c)->H1 c=PU o->H2 c=PU o:=λc o n e=>by
  refine b.keep c o (λi q=>?_) e;rcases n with n|n
  ·exact n (.inl (by rw[bM q];simp))
  ·rw[bc n] at q;cases q
 have k2:∀c o,H1 c=PU o->¬Sx g1 F1 c->¬Sx (g2.minus F1) (λc=>F1 c\/F2 c) c:=λc o e n z=>by
  have nF:¬F1 c:=λz=>n (.inr z)
  have gn:(g1.plus F1) c=PV:=by
   rw[cg nF]
   cases q:g1 c with
   |none=>rfl
   |some x=>exact absurd (.inl (by rw[q];simp)) n
  obtain⟨f1,f2⟩:=b.froz e gn;rcases z with z|z|z
  ·rw[bH nF] at z;exact z f1
  ·exact nF z
  ·exact f2 z
 cases kd with
 |sh=>exact⟨h.1,h.2.go λc o n e=>⟨k1 c o (.inl n) e,k2 c o e n⟩⟩
 |fr k=>exact Tr.go k1 k2 h
 |bo i k=>cases hb
theorem Eh(b:Evo (g1.plus F1) H1 g2 H2 F2)(c:P1):Sx (g2.minus F1) (λc=>F1 c\/F2 c) c↔Sx g2 F2 c:=by
 by_cases h:F1 c
 ·have:g2 c=PU PV:=(b.out c).mp (bc h);exact⟨λ_=>.inl (by rw[this];simp),λ_=>.inr (.inl h)⟩
 ·refine⟨λz=>z.elim (λz=>.inl (by rw[bH h] at z;exact z)) λz=>z.elim (λz=>absurd z h) .inr,λz=>z.elim (λz=>.inl (by rw[bH h];exact z)) λz=>.inr (.inr z)⟩
theorem iA(b:Evo (g1.plus F1) H1 g2 H2 F2):(g2.minus F1).plus (λc=>F1 c\/F2 c)=g2.plus F2:=by
 funext c;by_cases h2:F2 c
 ·rw[bc h2,bc (.inr h2)]
 ·by_cases h:F1 c
  ·rw[bc (.inl h),cg h2];exact((b.out c).mp (bc h)).symm
  ·rw[cg h2,cg (λz=>z.elim h h2),bH h]
theorem VR1.evoR(b:Evo (g1.plus F1) H1 g2 H2 F2)(h:VR1 K H2 g2 F2 kd d v F):VR1 K H2 (g2.minus F1) (λc=>F1 c\/F2 c) kd d v F:=by
 have k2:∀c o,H2 c=PU o->¬Sx g2 F2 c->¬Sx (g2.minus F1) (λc=>F1 c\/F2 c) c:=λc o _ n z=>n ((Eh b c).mp z)
 cases kd with
 |sh=>exact⟨h.1,h.2.go λc o n e=>⟨e,k2 c o e n⟩⟩
 |fr k=>exact Tr.go (λ_ _ _ e=>e) k2 h
 |bo i k=>
  obtain⟨h1,F0,h2,h3⟩:=h;refine⟨h1,F0,λc z=>?_,Tr.go (λ_ _ _ e=>e) k2 h3⟩;rw[bH (λz1=>?_)]
  ·exact h2 c z
  ·have:=h2 c z;rw[(b.out c).mp (bc z1)] at this;cases this
theorem VRL.evoR(b:Evo (g1.plus F1) H1 g2 H2 F2):∀{kds:List KD} {vs:List V} {F:Pr},VRL K H2 g2 F2 kds vs F->VRL K H2 (g2.minus F1) (λc=>F1 c\/F2 c) kds vs F
 |[],_,_,h=>h
 |(kd,d)::r,_,_,h=>by
  obtain⟨y,ys,G1,G2,e,hF,dj,h1,h2⟩:=h;exact⟨y,ys,G1,G2,e,hF,dj,h1.evoR b,VRL.evoR b h2⟩
theorem pe(hb:bX kd=PY)(a:Evo g H g1 H1 F1)(r1:VR1 K H1 g1 F1 kd d v F1)(b:Evo (g1.plus F1) H1 g2 H2 F2)(se:SE K (g2.plus F2) ρ2 σ H2)(r2:VRL K H2 g2 F2 kds vs F2) :
  Evo g H (g2.minus F1) H2 (λc=>F1 c\/F2 c)/\SE K ((g2.minus F1).plus (λc=>F1 c\/F2 c)) ρ2 σ H2/\VRL K H2 (g2.minus F1) (λc=>F1 c\/F2 c) ((kd,d)::kds) (v::vs) (λc=>F1 c\/F2 c):=by
 refine⟨a.trans b,by rw[iA b];exact se,v,vs,F1,F2,rfl,λc=>Iff.rfl,λc z1 z2=>?_,r1.evo hb b,r2.evoR b⟩;have:=(b.out c).mp (bc z1);rw[(b.tmp c z2).1] at this;cases this
end
noncomputable abbrev MR:=Option (Kd×D×Ro)
noncomputable def bB(X:Cx)(f:Ro->MR)(e:P0):Prop:=∀ρ kd d ρ',f ρ=PU (kd,d,ρ')->∀g σ H Q,SE X.K g ρ σ H->
 (∀v g' H' F,Evo g H g' H' F->SE X.K (g'.plus F) ρ' σ H'->VR1 X.K H' g' F kd d v F->Q v H')->wE X e σ H Q
noncomputable def pf(X:Cx)(f:Ro->Option (List KD×Ro))(es:List P0):Prop:=∀ρ kds ρ',f ρ=PU (kds,ρ')->∀g σ H Q,SE X.K g ρ σ H->
 (∀vs g' H' F,Evo g H g' H' F->SE X.K (g'.plus F) ρ' σ H'->VRL X.K H' g' F kds vs F->Q vs H')->wA X es σ H Q
noncomputable def e6(X:Cx)(f:Ro->Option (Bool×Ro))(e:P0):Prop:=∀ρ b ρ',f ρ=PU (b,ρ')->∀g σ H Q,SE X.K g ρ σ H->
 (∀g' H',Evo g H g' H' (λ_=>False)->SE X.K g' ρ' σ H'->Q b H')->wT X e σ H Q
section
variable {X:Cx}
theorem c5{g:Gh}{H H':Hp}{F:Pr}(s:Same H H')(hF:∀b,F b->H b=PV)(hg:∀b,F b->g b=PV):Evo g H g H' F:=
 ⟨λb o _ e=>s b o e,λ_=>Iff.rfl,λb i e=>.inl ⟨i,e⟩,λb z=>⟨hg b z,.inr (hF b z)⟩,λb o e=>⟨o,s b o e⟩⟩
theorem eN{g:Gh}{H:Hp}(m:MuOk H (Sg g)){b:P1}(h:H b=PV):g b=PV:=by
 cases e:g b with
 |none=>rfl
 |some x=>obtain⟨o,q,_⟩:=m b (by rw[Sg,e];simp);rw[h] at q;cases q
theorem SndE.m{f:Ro->Option KD}(h:SndE X f e):bB X (λρ=>(f ρ).map λp=>(p.1,p.2,ρ)) e:=by
 intro ρ kd d ρ' hr g σ H Q se q;dsimp only at hr
 cases hf:f ρ with
 |none=>rw[hf] at hr;cases hr
 |some p=>
  rw[hf] at hr;cases hr;refine h ρ p.1 p.2 hf g σ H Q se λv H' s ⟨F,h1,h2⟩=>?_;exact q v g H' F (c5 s h1 λb z=>eN se.mu (h1 b z)) (se.plus s h1 h2.dom) h2
theorem SndT.m{f:Ro->Option Bool}(h:SndT X f e):e6 X (λρ=>(f ρ).map λp=>(p,ρ)) e:=by
 intro ρ b ρ' hr g σ H Q se q;dsimp only at hr
 cases hf:f ρ with
 |none=>rw[hf] at hr;cases hr
 |some p=>
  rw[hf] at hr;cases hr;exact h ρ b hf g σ H Q se λH' s=>q g H' (c5 s (λ_ z=>z.elim) λ_ z=>z.elim) (se.same s)
noncomputable def eI(kd:Kd)(d:D):Kd:=match kd with
 |.bo i k=>if qC d=PX then .sh else .bo i k
 |k=>k
theorem VR1.im{g:Gh}(m:MuOk H (Sg (g.plus F)))(h:VR1 K H g F kd d v F):VR1 K H g F (eI kd d) d v F:=by
 cases kd with
 |sh=>exact h
 |fr k=>exact h
 |bo i k=>
  unfold eI;dsimp only;split
  ·rename_i hi;refine⟨h.1,h.rd.im (λb z=>m b ((ar b).mpr z)) hi⟩
  ·exact h
noncomputable def gI(a:MR)(r:Ro->Option (List KD×Ro)):Option (List KD×Ro):=match a with
 |some (kd,d,ρ1)=>if bX (eI kd d)=PX then PV else(match r ρ1 with|some (kds,ρ2)=>PU ((eI kd d,d)::kds,ρ2)|none=>PV)
 |none=>PV
theorem Ap{fa:Ro->MR}(hn:ag e=PX)(ha:bB X fa e)(hr:pf X fr es):pf X (λρ=>gI (fa ρ) fr) (e::es):=by
 intro ρ kds ρ' h g σ H Q se q;dsimp only[gI] at h;split at h
 ·rename_i kd d ρ1 e1;split at h
  ·cases h
  ·rename_i hb;split at h
   ·rename_i kds' ρ2 e2;cases h;refine kB (aK aF ee (ai hn)) (ha ρ kd d ρ1 e1 g σ H _ se λv g1 H1 F1 ev1 se1 r1=>hr ρ1 kds' ρ' e2 (g1.plus F1) σ H1 _ se1 λvs g2 H2 F2 ev2 se2 r2=>?_);obtain⟨c1,c2,c3⟩:=pe (by simpa using hb) ev1 (r1.im se1.mu) ev2 se2 r2;exact q (v::vs) _ H2 _ c1 c2 c3
   ·cases h
 ·cases h
noncomputable def gu(a:MR)(r:Ro->Option (List KD)):Option (List KD×Ro):=match a with
 |some (kd,d,ρ1)=>(match r ρ1 with|some kds=>PU ((kd,d)::kds,ρ1)|none=>PV)
 |none=>PV
theorem sP{g g1:Gh}(a:Evo g H g1 H1 F1)(se:SE K (g1.plus F1) ρ1 σ H1)(r1:VR1 K H1 g1 F1 kd d v F1)(s:Same H1 H2)(r2:VRs K (g1.plus F1) H1 H2 kds vs) :
  ∃F,Evo g H g1 H2 F/\SE K (g1.plus F) ρ1 σ H2/\VRL K H2 g1 F ((kd,d)::kds) (v::vs) F:=by
 obtain⟨F2,b1,b2⟩:=r2
 have hd:∀c,F2 c->g1 c=PV/\¬F1 c:=λc z=>by
  have:=eN se.mu (b1 c z);by_cases h:F1 c
  ·rw[bc h] at this;cases this
  ·rw[cg h] at this;exact⟨this,h⟩
 have h1:∀c,H1 c=PV->H c=PV:=λc q=>by
  cases e:H c with
  |none=>rfl
  |some o=>obtain⟨o',q'⟩:=a.dom c o e;rw[q] at q';cases q'
 refine⟨λc=>F1 c\/F2 c,⟨λc o n e=>s c o (a.keep c o n e),a.out,a.new,λc z=>z.elim (a.tmp c) λz=>⟨(hd c z).1,.inr (h1 c (b1 c z))⟩,λc o e=>let ⟨o',q⟩:=a.dom c o e;⟨o',s c o' q⟩⟩,?_,v,vs,F1,F2,rfl,λc=>Iff.rfl,λc z1 z2=>(hd c z2).2 z1,?_,b2.unplus⟩
 ·rw[<- i9];exact se.plus s b1 b2.dom
 ·exact r1.go s λc o e z=>z.elim id λz=>by rw[b1 c z] at e;cases e
theorem Ei{fa:Ro->MR}(hn:ag e=PX)(ha:bB X fa e)(hr:fF X fr es):pf X (λρ=>gu (fa ρ) fr) (e::es):=by
 intro ρ kds ρ' h g σ H Q se q;dsimp only[gu] at h;split at h
 ·rename_i kd d ρ1 e1;split at h
  ·rename_i kds' e2;cases h;refine kB (aK aF ee (ai hn)) (ha ρ kd d ρ' e1 g σ H _ se λv g1 H1 F1 ev1 se1 r1=>hr ρ' kds' e2 (g1.plus F1) σ H1 _ se1 λvs H2 s2 r2=>?_);obtain⟨F,c1,c2,c3⟩:=sP ev1 se1 r1 s2 r2;exact q (v::vs) g1 H2 F c1 c2 c3
  ·cases h
 ·cases h
open Classical in
noncomputable def lC(H:Hp)(F:Pr):Hp:=λb=>if F b then PV else H b
theorem ph:Same (lC H F) H:=λb o e=>by
 unfold lC at e;split at e
 ·cases e
 ·exact e
theorem xK{g:Gh}{F:Pr}(se:SE K (g.plus F) ρ σ H)(hg:∀b,F b->g b=PV):MuOk (lC H F) (Sg g):=λb z=>by
 have nF:¬F b:=λz2=>z (hg b z2);obtain⟨o,e,n⟩:=se.mu b ((ar b).mpr (.inl z));exact⟨o,by unfold lC;rw[if_neg nF];exact e,n⟩
theorem qU{g g1:Gh}{H H1 H2:Hp}{F F2:Pr}(a:Evo g H g1 H1 F)(se:SE K (g1.plus F) ρ1 σ H1)(s:Same H1 H2)(h1:∀b,F2 b->lC H1 F b=PV)(dm:∀b,F2 b->∃o,H2 b=PU o/\∀xs,o≠.tup xs):Evo g H g1 H2 F2/\SE K (g1.plus F2) ρ1 σ H2:=by
 have hF:∀b,F2 b->F b\/H1 b=PV:=λb z=>by
  have:=h1 b z;unfold lC at this;split at this
  ·rename_i q;exact .inl q
  ·exact .inr this
 have hn:∀c,H1 c=PV->H c=PV:=λc q=>by
  cases e:H c with
  |none=>rfl
  |some o=>obtain⟨o',q'⟩:=a.dom c o e;rw[q] at q';cases q'
 have hg2:∀b,F2 b->g1 b=PV:=λb z=>by
  rcases hF b z with q|q
  ·exact(a.tmp b q).1
  ·have:=eN se.mu q;by_cases h:F b
   ·rw[bc h] at this;cases this
   ·rw[cg h] at this;exact this
 refine⟨⟨λc o n e=>s c o (a.keep c o n e),a.out,a.new,λc z=>⟨hg2 c z,(hF c z).elim (λq=>(a.tmp c q).2) λq=>.inr (hn c q)⟩,λc o e=>let ⟨o',q⟩:=a.dom c o e;⟨o',s c o' q⟩⟩,?_⟩;refine⟨λi sl e=>?_,λb z=>?_,se.len⟩
 ·obtain⟨v,F0,e1,e2,e3⟩:=se.slot i sl e;refine⟨v,F0,e1,λb z=>?_,e3.go (λb o _ e=>s b o e) λb o e n z=>?_⟩
  ·have:=bM (e2 b z);exact cx this λz2=>by rw[hg2 b z2] at this;cases this
  ·rcases(ar b).mp z with z|z
   ·exact n ((ar b).mpr (.inl z))
   ·rcases hF b z with q|q
    ·exact n ((ar b).mpr (.inr q))
    ·rw[q] at e;cases e
 ·rcases(ar b).mp z with z|z
  ·obtain⟨o,e,n⟩:=se.mu b ((ar b).mpr (.inl z));exact⟨o,s b o e,n⟩
  ·exact dm b z
theorem VRL.off(h:VRL K H g F kds vs F):VRs K g (lC H F) H kds vs:=⟨F,λb z=>by unfold lC;rw[if_pos z],h⟩
theorem StrictOk.m{f:List KD->Option KD}{fa:Ro->Option (List KD×Ro)}(h:StrictOk X f es node)(ha:pf X fa es):bB X (λρ=>(fa ρ).bind λp=>(f p.1).map λq=>(q.1,q.2,p.2)) node:=by
 intro ρ kd d ρ' hd g σ H Q se q;dsimp only at hd
 cases e:fa ρ with
 |none=>rw[e] at hd;cases hd
 |some p=>
  obtain⟨kds,ρ1⟩:=p;rw[e] at hd;dsimp only[NO] at hd
  cases e2:f kds with
  |none=>rw[e2] at hd;cases hd
  |some r=>
   rw[e2] at hd;cases hd;refine h kds r.1 r.2 e2 σ H Q (ha ρ kds _ e g σ H _ se λvs g1 H1 F ev se1 r1=>⟨g1,lC H1 F,xK se1 λb z=>(ev.tmp b z).1,ph,r1.off,λv H2 s2 r2=>?_⟩);obtain⟨F2,b1,b2⟩:=r2;obtain⟨c1,c2⟩:=qU ev se1 s2 b1 b2.dom;exact q v g1 H2 F2 c1 c2 b2
end
end J
namespace J
open PySem PySem.Spec L2
noncomputable abbrev nC:=Ow×D
noncomputable abbrev Fm:=List nC->Option (Kd×D×List (Option nC))
noncomputable def Ge(p:nC):Option Sl:=PU ⟨PY,p.1,p.2⟩
noncomputable def Gf(p:Option nC):Option Sl:=p.map λp=>⟨PY,p.1,p.2⟩
noncomputable def BW(K:MW)(φ:Fm):Sp:=λvs H Q _=>∃ks g kd d outs,SE K g (ks.map Ge) (vs.map PU) H/\φ ks=PU (kd,d,outs)/\
 ∀v g' H' F,Evo g H g' H' F->SE K (g'.plus F) (outs.map Gf) (vs.map PU) H'->VR1 K H' g' F kd d v F->Q v H'
set_option genInjectivity true in
inductive RA where
 |ref (i:Nat)|val (kd:Kd) (d:D)
noncomputable def VRA(K:MW)(H:Hp)(g:Gh)(Ft:Pr)(σ:L2.St):List RA->List V->Pr->Prop
 |[],vs,F=>vs=[]/\∀b,¬F b
 |.ref i::r,vs,F=>∃y ys,vs=y::ys/\σ[i]?=PU (PU y)/\VRA K H g Ft σ r ys F
 |.val kd d::r,vs,F=>∃y ys F1 F2,vs=y::ys/\(∀b,F b↔F1 b\/F2 b)/\(∀b,F1 b->¬F2 b)/\VR1 K H g Ft kd d y F1/\VRA K H g Ft σ r ys F2
noncomputable def jw(X:Cx)(f:Ro->Option (List RA×Ro))(es:List P0):Prop:=∀ρ ras ρ',f ρ=PU (ras,ρ')->∀g σ H Q,SE X.K g ρ σ H->
 (∀vs g' H' F,Evo g H g' H' F->SE X.K (g'.plus F) ρ' σ H'->VRA X.K H' g' F σ ras vs F->Q vs H')->wA X es σ H Q
section
variable {K:MW} {H H1 H2:Hp} {g g1 g2:Gh} {F1 F2:Pr} {σ:L2.St}
theorem VRA.evoR(b:Evo (g1.plus F1) H1 g2 H2 F2):∀{ras:List RA} {vs:List V} {F:Pr},VRA K H2 g2 F2 σ ras vs F->VRA K H2 (g2.minus F1) (λc=>F1 c\/F2 c) σ ras vs F
 |[],_,_,h=>h
 |.ref i::r,_,_,h=>by
  obtain⟨y,ys,e,e2,h2⟩:=h;exact⟨y,ys,e,e2,VRA.evoR b h2⟩
 |.val kd d::r,_,_,h=>by
  obtain⟨y,ys,G1,G2,e,hF,dj,h1,h2⟩:=h;exact⟨y,ys,G1,G2,e,hF,dj,h1.evoR b,VRA.evoR b h2⟩
theorem aZ{g:Gh}{F:Pr}(h:∀b,¬F b):g.plus F=g:=by
 funext b;exact cg (h b)
end
section
variable {X:Cx}
theorem HL:jw X (λρ=>PU ([],ρ)) []:=by
 intro ρ ras ρ' h g σ H Q se q;cases h;refine kB bJ (q [] g H (λ_=>False) (.refl g H) ?_ ⟨rfl,λ_ z=>z⟩);rw[aZ λ_ z=>z];exact se
noncomputable def sQ(i:Nat)(o:Option (Option Sl))(r:Option (List RA×Ro)):Option (List RA×Ro):=match o,r with
 |some (PU _),PU (ras,ρ')=>PU (.ref i::ras,ρ')
 |_,_=>PV
theorem HM(O:al X Γ c){x:Str}{i:Nat}{p:Pos}{es:List P0}{fr:Ro->Option (List RA×Ro)}(hc:ef c x=PU i)(hr:jw X fr es):jw X (λρ=>sQ i ρ[i]? (fr ρ)) (.Name x p::es):=by
 intro ρ ras ρ' h g σ H Q se q;dsimp only[sQ] at h;split at h
 ·rename_i sl ras' ρ2 e1 e2;cases h;have hv:SndE X (λρ=>qF i ρ[i]?) (.Name x p):=BO O hc p;obtain⟨v0,ev0,_⟩:=se.get e1
  -- the name gives that very value
  refine kB (aK aF ee (ai rfl)) ?_;unfold ef at hc;split at hc
  ·rename_i j hj;split at hc
   ·rename_i hv;cases hc;simp only[MX,nv,Ov] at hv;refine aL (mM (i:=i) (by rw[O.N];exact bf hj) (by rw[O.sc];exact nu hv.1) hv.2.1 hv.2.2) ⟨v0,ev0,?_⟩;exact hr ρ ras' ρ' e2 g σ H _ se λvs g' H' F ev se' r=>q (v0::vs) g' H' F ev se' ⟨v0,vs,rfl,ev0,r⟩
   ·cases hc
  ·cases hc
 ·cases h
noncomputable def sR(a:MR)(r:Ro->Option (List RA×Ro)):Option (List RA×Ro):=match a with
 |some (kd,d,ρ1)=>if bX (eI kd d)=PX then PV else(match r ρ1 with|some (ras,ρ2)=>PU (.val (eI kd d) d::ras,ρ2)|none=>PV)
 |none=>PV
theorem HN{fa:Ro->MR}(hn:ag e=PX)(ha:bB X fa e)(hr:jw X fr es):jw X (λρ=>sR (fa ρ) fr) (e::es):=by
 intro ρ ras ρ' h g σ H Q se q;dsimp only[sR] at h;split at h
 ·rename_i kd d ρ1 e1;split at h
  ·cases h
  ·rename_i hb;split at h
   ·rename_i ras' ρ2 e2;cases h;refine kB (aK aF ee (ai hn)) (ha ρ kd d ρ1 e1 g σ H _ se λv g1 H1 F1 ev1 se1 r1=>hr ρ1 ras' ρ' e2 (g1.plus F1) σ H1 _ se1 λvs g2 H2 F2 ev2 se2 r2=>?_);refine q (v::vs) _ H2 _ (ev1.trans ev2) (by rw[iA ev2];exact se2) ⟨v,vs,F1,F2,rfl,λc=>Iff.rfl,λc z1 z2=>?_,(r1.im se1.mu).evo (by simpa using hb) ev2,r2.evoR ev2⟩;have:=(ev2.out c).mp (bc z1);rw[(ev2.tmp c z2).1] at this;cases this
   ·cases h
 ·cases h
end
noncomputable def dS:List RA->List Nat
 |[]=>[]
 |.ref i::r=>i::dS r
 |.val _ _::r=>dS r
noncomputable def eO(ρ:Ro):List RA->Option (List nC)
 |[]=>PU []
 |.ref i::r=>match ρ[i]?,eO ρ r with
  |some (PU ⟨PY,k,d⟩),PU ks=>PU ((k,d)::ks)
  |_,_=>PV
 |.val kd d::r=>if bX kd=PX then PV else(eO ρ r).map ((.fz,d)::·)
noncomputable def dJ:List RA->Ro->Ro->Ro
 |.ref i::r,o::os,ρ=>dJ r os (ρ.set i o)
 |.val _ _::r,_::os,ρ=>dJ r os ρ
 |_,_,ρ=>ρ
noncomputable def nD(ras:List RA)(i:Nat):Option Nat:=ras.findIdx? λa=>match a with|.ref j=>j==i|_=>PY
noncomputable def Ej(φ:Option Fm)(a:Option (List RA×Ro)):MR:=match φ,a with
 |some φ,PU (ras,ρ)=>if(dS ras).Nodup then(match eO ρ ras with
  |some ks=>(match φ ks with
   |some (kd,d,outs)=>if bX kd=PX\/outs.length≠ras.length then PV else PU (kd,d,dJ ras (outs.map Gf) ρ)
   |none=>PV)
  |none=>PV) else PV
 |_,_=>PV
section
theorem gJ{ρ:Ro}:∀{ras:List RA} {ks:List nC},eO ρ ras=PU ks->ks.length=ras.length/\∀(j:Nat) a,ras[j]?=PU a->∃k d,ks[j]?=PU (k,d)/\(match a with|.ref i=>ρ[i]?=PU (PU ⟨PY,k,d⟩)|.val kd d'=>k=.fz/\d=d'/\bX kd=PY)
 |[],ks,h=>by cases h;exact⟨rfl,λj a e=>by simp at e⟩
 |.ref i::r,ks,h=>by
  unfold eO at h;split at h
  ·rename_i k d ks' e1 e2;cases h;obtain⟨l,g⟩:=gJ e2;refine⟨by simp[l],λj a e=>?_⟩
   cases j with
   |zero=>simp at e;subst e;exact⟨k,d,rfl,e1⟩
   |succ j=>simpa using g j a (by simpa using e)
  ·cases h
 |.val kd d::r,ks,h=>by
  unfold eO at h;split at h
  ·cases h
  ·rename_i hb;obtain⟨ks',e,rfl⟩:=aX h;obtain⟨l,g⟩:=gJ e;refine⟨by simp[l],λj a e=>?_⟩
   cases j with
   |zero=>simp at e;subst e;exact⟨.fz,d,rfl,rfl,rfl,by simpa using hb⟩
   |succ j=>simpa using g j a (by simpa using e)
theorem iB:∀{ras:List RA} {i j:Nat},nD ras i=PU j->ras[j]?=PU (.ref i)
 |[],i,j,h=>by simp[nD] at h
 |a::r,i,j,h=>by
  unfold nD at h;rw[NE] at h
  cases a with
  |ref k=>
   by_cases e:k=i
   ·subst e;simp at h;subst h;rfl
   ·have e':(k==i)=PY:=by simpa using e
    simp only[e'] at h;obtain⟨j',h',rfl⟩:=aX (by simpa using h);simpa using iB (ras:=r) (by unfold nD;exact h')
  |val kd d=>
   simp only at h;obtain⟨j',h',rfl⟩:=aX (by simpa using h);simpa using iB (ras:=r) (by unfold nD;exact h')
theorem fK:∀{ras:List RA} {j i:Nat},ras[j]?=PU (.ref i)->i∈dS ras
 |[],_,_,h=>by simp at h
 |a::r,0,i,h=>by simp at h;subst h;exact Nm
 |.ref k::r,j+1,i,h=>Ng _ (fK (by simpa using h))
 |.val kd d::r,j+1,i,h=>fK (ras:=r) (by simpa using h)
theorem qV:∀{ras:List RA} {j i:Nat},(dS ras).Nodup->ras[j]?=PU (.ref i)->nD ras i=PU j
 |[],_,_,_,h=>by simp at h
 |.ref k::r,0,i,_,h=>by simp at h;subst h;simp[nD,NE]
 |.val kd d::r,0,i,_,h=>by simp at h
 |.ref k::r,j+1,i,hn,h=>by
  have hm:=fK (ras:=r) (j:=j) (i:=i) (by simpa using h);have hn':k∉dS r/\(dS r).Nodup:=NB.mp hn
  have e:(k==i)=PY:=by
   simp only[beq_eq_false_iff_ne,ne_eq];intro z;subst z;exact hn'.1 hm
  have ih:=qV hn'.2 (by simpa using h:r[j]?=PU (.ref i));unfold nD at ih⊢;rw[NE];simp only[e,ih];rfl
 |.val kd d::r,j+1,i,hn,h=>by
  have ih:=qV (ras:=r) hn (by simpa using h:r[j]?=PU (.ref i));unfold nD at ih⊢;rw[NE];simp only[ih];rfl
theorem jc:∀{ras:List RA} {outs:Ro} {ρ:Ro},(dJ ras outs ρ).length=ρ.length
 |[],_,_=>rfl
 |.ref i::r,[],_=>rfl
 |.val _ _::r,[],_=>rfl
 |.ref i::r,o::os,ρ=>by simp only[dJ];rw[jc];simp
 |.val _ _::r,o::os,ρ=>by simp only[dJ];exact jc
theorem jd:∀{ras:List RA} {outs:Ro} {ρ:Ro},(dS ras).Nodup->outs.length=ras.length->∀(i:Nat) sl,(dJ ras outs ρ)[i]?=PU (PU sl)->(i∉dS ras/\ρ[i]?=PU (PU sl))\/∃(j:Nat),ras[j]?=PU (RA.ref i)/\outs[j]?=PU (PU sl)
 |[],outs,ρ,_,_,i,sl,h=>by cases outs<;>exact .inl ⟨by simp[dS],h⟩
 |.ref k::r,[],ρ,_,hl,i,sl,h=>by simp at hl
 |.val kd d::r,[],ρ,_,hl,i,sl,h=>by simp at hl
 |.val kd d::r,o::os,ρ,hn,hl,i,sl,h=>by
  simp only[dJ] at h;rcases jd (ras:=r) hn (by simpa using hl) i sl h with⟨q1,q2⟩|⟨j,q1,q2⟩
  ·exact .inl ⟨q1,q2⟩
  ·exact .inr ⟨j+1,by simpa using q1,by simpa using q2⟩
 |.ref k::r,o::os,ρ,hn,hl,i,sl,h=>by
  simp only[dJ] at h;have hn':k∉dS r/\(dS r).Nodup:=NB.mp hn;rcases jd (ras:=r) hn'.2 (by simpa using hl) i sl h with⟨q1,q2⟩|⟨j,q1,q2⟩
  ·by_cases e:i=k
   ·subst e
    have hlt:i<ρ.length:=by
     have:=(MZ.mp q2).1;simpa using this
    rw[Nd hlt] at q2;exact .inr ⟨0,rfl,q2⟩
   ·rw[Nh (Ne.symm e)] at q2;exact .inl ⟨by simp only[dS,M7,not_or];exact⟨e,q1⟩,q2⟩
  ·exact .inr ⟨j+1,by simpa using q1,by simpa using q2⟩
end
end J
namespace J
open PySem PySem.Spec L2
section
variable {K:MW} {H H1 H2:Hp} {g g1:Gh} {F:Pr} {σ:L2.St} {ρ:Ro}
theorem VRA.get:∀{ras:List RA} {vs:List V} {F:Pr},VRA K H g Ft σ ras vs F->vs.length=ras.length/\∀(j:Nat) a,ras[j]?=PU a->∃y,vs[j]?=PU y/\(match a with|.ref i=>σ[i]?=PU (PU y)|.val kd d=>∃Fj:Pr,(∀b,Fj b->F b)/\VR1 K H g Ft kd d y Fj)
 |[],vs,F,h=>by obtain⟨rfl,_⟩:=h;exact⟨rfl,λj a e=>by simp at e⟩
 |.ref i::r,vs,F,h=>by
  obtain⟨y,ys,rfl,e,h2⟩:=h;obtain⟨l,q⟩:=VRA.get h2;refine⟨by simp[l],λj a ea=>?_⟩
  cases j with
  |zero=>simp at ea;subst ea;exact⟨y,rfl,e⟩
  |succ j=>simpa using q j a (by simpa using ea)
 |.val kd d::r,vs,F,h=>by
  obtain⟨y,ys,F1,F2,rfl,hF,dj,h1,h2⟩:=h;obtain⟨l,q⟩:=VRA.get h2;refine⟨by simp[l],λj a ea=>?_⟩
  cases j with
  |zero=>simp at ea;subst ea;exact⟨y,rfl,F1,λb z=>(hF b).mpr (.inl z),h1⟩
  |succ j=>
   obtain⟨y',e1,e2⟩:=q j a (by simpa using ea);refine⟨y',by simpa using e1,?_⟩
   cases a with
   |ref i=>exact e2
   |val kd d=>obtain⟨Fj,f1,f2⟩:=e2;exact⟨Fj,λb z=>(hF b).mpr (.inr (f1 b z)),f2⟩
theorem HP{ks:List nC}{vs:List V}(hn:(dS ras).Nodup)(hh:eO ρ ras=PU ks)(hg:∀b,F b->g1 b=PV)(se:SE K (g1.plus F) ρ σ H1)(r:VRA K H1 g1 F σ ras vs F):SE K (g1.re (nD ras)) (ks.map Ge) (vs.map PU) H1:=by
 obtain⟨lk,gk⟩:=gJ hh;obtain⟨lv,gv⟩:=r.get;have gS:∀b,Sg (g1.re (nD ras)) b->Sg (g1.plus F) b:=λb z=>(ar b).mpr (.inl ((lB b).mp z));refine⟨λj sl e=>?_,λb z=>se.mu b (gS b z),by simp[lk,lv]⟩;rw[M0] at e
 cases ek:ks[j]? with
 |none=>rw[ek] at e;cases e
 |some p=>
  rw[ek] at e;cases e;have hj:j<ras.length:=by rw[<- lk];exact(MZ.mp ek).1
  have ea:ras[j]?=PU ras[j]:=Na hj;obtain⟨k,d,ek',m⟩:=gk j _ ea;rw[ek] at ek';cases ek';obtain⟨y,ey,m2⟩:=gv j _ ea;generalize ras[j]=a at ea m m2
  cases a with
  |ref i=>
   have m:ρ[i]?=PU (PU ⟨PY,k,d⟩):=m;have m2:σ[i]?=PU (PU y):=m2;obtain⟨v,Fi,e1,e2,e3⟩:=se.slot i _ m;rw[m2] at e1;cases e1;refine⟨y,Fi,by simp[ey],λb z=>?_,e3.go (λ_ _ _ e=>e) λb o _ n z=>n (gS b z)⟩;unfold Gh.re;rw[bM (e2 b z)];show PU (nD ras i)=_;rw[qV hn ea]
  |val kd' d'=>
   obtain⟨rfl,rfl,hb⟩:k=.fz/\d=d'/\bX kd'=PY:=m;obtain⟨Fj,f1,f2⟩:=m2;refine⟨y,λ_=>False,by simp[ey],λb z=>z.elim,.fz ?_⟩;have hS:∀b,Sg (g1.re (nD ras)) b->g1 b≠PV:=λb z=>(lB b).mp z
   cases kd' with
   |sh=>exact f2.2.weak λb z=>.inl (hS b z)
   |fr c=>exact Tr.rp (λb z=>⟨.inl (hS b z),λz2=>hS b z (hg b (f1 b z2))⟩) f2
   |bo i c=>cases hb
noncomputable def dL(g1 gc:Gh)(ras:List RA):Gh:=λb=>match gc b with
 |some (PU j)=>(match ras[j]? with|some (.ref i)=>PU (PU i)|_=>PV)
 |some PV=>g1 b
 |none=>PV
theorem Aq{gc:Gh}{ras:List RA}{j i:Nat}(h:gc b=PU (PU j))(e:ras[j]?=PU (.ref i)):dL g1 gc ras b=PU (PU i):=by
 unfold dL;rw[h];dsimp only;rw[e]
theorem pi{gc:Gh}(h:gc b=PU PV):dL g1 gc ras b=g1 b:=by unfold dL;rw[h]
theorem nE{gc:Gh}(h:gc b=PV):dL g1 gc ras b=PV:=by unfold dL;rw[h]
theorem kP{gc:Gh}{ras:List RA}(h:dL g1 gc ras b=PU x):(∃j i,gc b=PU (PU j)/\ras[j]?=PU (.ref i)/\x=PU i)\/(gc b=PU PV/\g1 b=PU x):=by
 unfold dL at h;split at h
 ·rename_i j e;split at h
  ·rename_i i e2;cases h;exact .inl ⟨j,i,e,e2,rfl⟩
  ·cases h
 ·rename_i e;exact .inr ⟨e,h⟩
 ·cases h
theorem sS{m:Nat->Option Nat}{j:Nat}(h:g.re m b=PU (PU j)):∃i,g b=PU (PU i)/\m i=PU j:=by
 unfold Gh.re at h
 cases q:g b with
 |none=>simp[q] at h
 |some x=>
  cases x with
  |none=>simp[q] at h
  |some i=>simp[q] at h;exact⟨i,rfl,h⟩
theorem HQ(h:g b=PV):g.re m b=PV:=by unfold Gh.re;rw[h]
theorem KI(h:g b=PU PV):g.re m b=PU PV:=by unfold Gh.re;rw[h]
theorem KJ{m:Nat->Option Nat}{i:Nat}(h:g b=PU (PU i)):g.re m b=PU (m i):=by unfold Gh.re;rw[h]
theorem me{ras:List RA}{gc:Gh}{ρc:Ro}{σc:L2.St}(hn:(dS ras).Nodup)(hol:ρc.length=ras.length)(hbo:bX kd=PY)(a:Evo g H g1 H1 F)(se:SE K (g1.plus F) ρ σ H1)(hσ:∀(j i:Nat) sl w,ras[j]?=PU (.ref i)->ρc[j]?=PU (PU sl)->σc[j]?=PU (PU w)->σ[i]?=PU (PU w))(ev:Evo (g1.re (nD ras)) H1 gc H2 Fr)(sec:SE K (gc.plus Fr) ρc σc H2)(rv:VR1 K H2 gc Fr kd d v Fr) :
  Evo g H (dL g1 gc ras) H2 Fr/\SE K ((dL g1 gc ras).plus Fr) (dJ ras ρc ρ) σ H2/\VR1 K H2 (dL g1 gc ras) Fr kd d v Fr:=by
 have hn0:∀c,H1 c=PV->H c=PV:=λc q=>by
  cases e:H c with
  |none=>rfl
  |some o=>obtain⟨o',q'⟩:=a.dom c o e;rw[q] at q';cases q'
 -- frozen ones stay so
 have froz:∀b o,H1 b=PU o->g1 b=PV->dL g1 gc ras b=PV/\¬Fr b:=λb o e n=>by
  obtain⟨f1,f2⟩:=ev.froz e (HQ n);exact⟨nE f1,f2⟩
 have slotF:∀b i,g1 b=PU (PU i)->(∃j,g b=PU (PU j))\/H b=PV:=λb i e=>a.new b i e
 have fromS:∀b j,gc b=PU (PU j)->(∃k,g b=PU (PU k))\/H b=PV:=λb j e=>by
  rcases ev.new b j e with⟨k,q⟩|q
  ·obtain⟨i,q1,_⟩:=sS q;exact slotF b i q1
  ·exact .inr (hn0 b q)
 have evo:Evo g H (dL g1 gc ras) H2 Fr:=by
  refine⟨λb o n e=>?_,λb=>⟨λe=>?_,λe=>?_⟩,λb i e=>?_,λb z=>?_,λb o e=>?_⟩
  ·refine ev.keep b o (λj q=>?_) (a.keep b o n e);obtain⟨i,q1,_⟩:=sS q;rcases a.new b i q1 with⟨k,q2⟩|q2
   ·exact n k q2
   ·rw[e] at q2;cases q2
  ·have e1:=(a.out b).mp e;have e2:=(ev.out b).mp (KI e1);rw[pi e2];exact e1
  ·rcases kP e with⟨j,i,_,_,z⟩|⟨_,e1⟩
   ·cases z
   ·exact(a.out b).mpr e1
  ·rcases kP e with⟨j,i',e1,_,_⟩|⟨_,e1⟩
   ·exact fromS b j e1
   ·exact slotF b i e1
  ·obtain⟨t1,t2⟩:=ev.tmp b z;refine⟨nE t1,?_⟩;rcases t2 with⟨j,q⟩|q
   ·obtain⟨i,q1,_⟩:=sS q;exact slotF b i q1
   ·exact .inr (hn0 b q)
  ·obtain⟨o1,e1⟩:=a.dom b o e;exact ev.dom b o1 e1
 have gcS:∀b,Sg (dL g1 gc ras) b->Sg gc b:=λb z z2=>z (nE z2);refine⟨evo,⟨λi sl e=>?_,λb z=>?_,by rw[jc];exact se.len⟩,?_⟩
 ·rcases jd hn hol i sl e with⟨ni,e1⟩|⟨j,ej,eo⟩
  ·-- a slot that was not eO in
   obtain⟨w,Fi,e2,e3,e4⟩:=se.slot i sl e1
   have lab:∀b,Fi b->g1 b=PU (PU i)/\gc b=PU PV:=λb z=>by
    have q1:=bM (e3 b z);refine⟨q1,(ev.out b).mp ?_⟩;rw[KJ q1]
    cases q2:nD ras i with
    |none=>rfl
    |some j=>exact absurd (fK (iB q2)) ni
   refine⟨w,Fi,e2,λb z=>?_,e4.go (λb o hb e=>ev.keep b o (λj q=>?_) e) λb o e n z=>?_⟩
   ·obtain⟨l1,l2⟩:=lab b z;refine cx (by rw[pi l2];exact l1) λz2=>?_;rw[(ev.tmp b z2).1] at l2;cases l2
   ·obtain⟨k,q1,q2⟩:=sS q;rcases hb with hb|hb
    ·exact hb ((ar b).mpr (.inl (by rw[Sg,q1];simp)))
    ·rw[(lab b hb).1] at q1;cases q1;exact absurd (fK (iB q2)) ni
   ·have nF:g1 b=PV:=by
     cases q1:g1 b with
     |none=>rfl
     |some x=>exact absurd ((ar b).mpr (.inl (by rw[Sg,q1];simp))) n
    obtain⟨f1,f2⟩:=froz b o e nF;rcases(ar b).mp z with z|z
    ·exact z f1
    ·exact f2 z
  ·-- one that was
   obtain⟨w,Fj,e2,e3,e4⟩:=sec.slot j sl eo;refine⟨w,Fj,hσ j i sl w ej eo e2,λb z=>?_,e4.go (λ_ _ _ e=>e) λb o e n z=>?_⟩
   ·have q1:=bM (e3 b z);refine cx (Aq q1 ej) λz2=>?_;rw[(ev.tmp b z2).1] at q1;cases q1
   ·rcases(ar b).mp z with z|z
    ·exact n ((ar b).mpr (.inl (gcS b z)))
    ·exact n ((ar b).mpr (.inr z))
 ·rcases(ar b).mp z with z|z
  ·exact sec.mu b ((ar b).mpr (.inl (gcS b z)))
  ·exact sec.mu b ((ar b).mpr (.inr z))
 ·have k2:∀b o,H2 b=PU o->¬Sx gc Fr b->¬Sx (dL g1 gc ras) Fr b:=λb o _ n z=>n (z.imp (gcS b) id)
  cases kd with
  |sh=>exact⟨rv.1,rv.2.go λb o n e=>⟨e,k2 b o e n⟩⟩
  |fr k=>exact Tr.go (λ_ _ _ e=>e) k2 rv
  |bo i k=>cases hbo
theorem Ar{Q:VK}(h:Ej (PU φ) (PU (ras,ρ))=PU (kd,d,ρ2))(a:Evo g H g1 H1 F)(se:SE K (g1.plus F) ρ σ H1)(r:VRA K H1 g1 F σ ras vs F)(q:∀v g' H' F',Evo g H g' H' F'->SE K (g'.plus F') ρ2 σ H'->VR1 K H' g' F' kd d v F'->Q v H'):BW K φ vs H1 Q E:=by
 unfold Ej at h;dsimp only at h;split at h
 ·rename_i hn;split at h
  ·rename_i ks hh;split at h
   ·rename_i kd' d' outs hφ;split at h
    ·cases h
    ·rename_i hc;cases h
     have hbo:bX kd=PY:=by
      cases e:bX kd with
      |false=>rfl
      |true=>exact absurd (.inl e) hc
     have hol:outs.length=ras.length:=Classical.byContradiction λz=>hc (.inr z);refine⟨ks,g1.re (nD ras),kd,d,outs,HP hn hh (λb z=>(a.tmp b z).1) se r,hφ,λv gc H2 Fr ev sec rv=>?_⟩;obtain⟨_,gv⟩:=r.get
     obtain⟨c1,c2,c3⟩:=me hn (by rw[MY];exact hol) hbo a se (λj i sl w ej _ ew=>by
      obtain⟨y,ey,m⟩:=gv j _ ej;have m:σ[i]?=PU (PU y):=m;rw[M0,ey] at ew;cases ew;exact m) ev sec rv
     exact q v _ H2 Fr c1 c2 c3
   ·cases h
  ·cases h
 ·cases h
end
end J
namespace J
open PySem PySem.Spec L2
noncomputable def clr(ps:List (Nat×D))(ρ:Ro):Ro:=ps.foldl (λρ p=>ρ.set p.1 PV) ρ
noncomputable def xL(cap:List (Option Nat))(ps:List (Nat×D)):Bool:=ps.all λp=>match cap[p.1]? with|some PV=>PX|_=>PY
noncomputable def gh(cap:List (Option Nat))(tg:IT)(ft:Ro->Option (Bool×Ro))(fe:Ro->MR)(d:D)(ρ0:Ro):Option (Option KD×Ro):=match nA tg d with
 |some ps=>if dH ps ρ0=PX/\xL cap ps=PX then(match ft (setAll ps ρ0) with
  |some (PX,ρt)=>(match fe ρt with|some (kd,d,ρ1)=>PU (PU (eI kd d,d),clr ps ρ1)|none=>PV)
  |some (PY,ρt)=>PU (PV,clr ps ρt)
  |none=>PV) else PV
 |none=>PV
noncomputable def aN(r:Ow)(f:D->Ro->Option (Option KD×Ro)):List D->Ro->Option (List D×Ro)
 |[],ρ=>PU ([],ρ)
 |d::ds,ρ=>match f d ρ with
  |some (PU kd,ρ1)=>if dc r kd=PX then(match aN r f ds ρ1 with|some (ys,ρ2)=>PU (kd.2::ys,ρ2)|none=>PV) else PV
  |some (PV,ρ1)=>aN r f ds ρ1
  |none=>PV
theorem gK:∀{a b:List D} {ρ ρ':Ro} {ys:List D},aN r f (a++b) ρ=PU (ys,ρ')->∃x ρ1 y,aN r f a ρ=PU (x,ρ1)/\aN r f b ρ1=PU (y,ρ')/\ys=x++y
 |[],b,ρ,ρ',ys,h=>⟨[],ρ,ys,rfl,h,rfl⟩
 |d::a,b,ρ,ρ',ys,h=>by
  rw[N7] at h;unfold aN at h;split at h
  ·rename_i kd ρ1 e1;split at h
   ·rename_i hf;split at h
    ·rename_i zs ρ2 e2;cases h;obtain⟨x,ρ3,y,h1,h2,rfl⟩:=gK e2;exact⟨kd.2::x,ρ3,y,by simp[aN,e1,h1,hf],h2,rfl⟩
    ·cases h
   ·cases h
  ·rename_i ρ1 e1;obtain⟨x,ρ3,y,h1,h2,rfl⟩:=gK h;exact⟨x,ρ3,y,by simp[aN,e1,h1],h2,rfl⟩
  ·cases h
theorem c6:∀{a:List D} {d:D} {x y:List D} {ρ ρ1 ρ2:Ro},aN r f a ρ=PU (x,ρ1)->aN r f [d] ρ1=PU (y,ρ2)->aN r f (a++[d]) ρ=PU (x++y,ρ2)
 |[],d,x,y,ρ,ρ1,ρ2,h,h1=>by cases h;exact h1
 |e::a,d,x,y,ρ,ρ1,ρ2,h,h1=>by
  unfold aN at h;rw[N7];unfold aN;split at h
  ·rename_i kd ρ3 e1;split at h
   ·rename_i hf;split at h
    ·rename_i zs ρ4 e2;cases h;rw[c6 e2 h1];simp[hf]
    ·cases h
   ·cases h
  ·rename_i ρ3 e1;exact c6 h h1
  ·cases h
theorem pj{f:D->Ro->Option (Option KD×Ro)}{ds ys:List D}(h:aN r f ds ρ=PU (ys,ρ')){i:Nat}{d:D}(e:ds[i]?=PU d){x:List D}{ρi:Ro}(hx:aN r f (ds.take i) ρ=PU (x,ρi)) :
  (∃ρ1,f d ρi=PU (PV,ρ1)/\aN r f (ds.take (i+1)) ρ=PU (x,ρ1))\/∃kd ρ1,f d ρi=PU (PU kd,ρ1)/\dc r kd=PX/\aN r f (ds.take (i+1)) ρ=PU (x++[kd.2],ρ1):=by
 have hs:ds=ds.take i++(d::ds.drop (i+1)):=by
  obtain⟨hl,rfl⟩:=MZ.mp e;rw[<- N4 hl,Pe]
 have ht:ds.take (i+1)=ds.take i++[d]:=by rw[Og,e];rfl
 rw[hs] at h;obtain⟨x',ρ1,y,h1,h2,_⟩:=gK h;rw[hx] at h1;cases h1;unfold aN at h2;rw[ht];split at h2
 ·rename_i kd ρ2 e1;split at h2
  ·rename_i hf;exact .inr ⟨kd,ρ2,e1,hf,c6 hx (by simp[aN,e1,hf])⟩
  ·cases h2
 ·rename_i ρ2 e1;exact .inl ⟨ρ2,e1,by simpa using c6 hx (y:=[]) (by simp[aN,e1])⟩
 ·cases h2
theorem gM:∀{ds ys:List D} {ρ ρ':Ro},aN r f ds ρ=PU (ys,ρ')->ys.length<=ds.length
 |[],ys,ρ,ρ',h=>by cases h;exact M8 _
 |d::ds,ys,ρ,ρ',h=>by
  unfold aN at h;split at h
  ·rename_i kd ρ1 e1;split at h
   ·split at h
    ·rename_i zs ρ2 e2;cases h;have:=gM e2;simp;lia
    ·cases h
   ·cases h
  ·rename_i ρ1 e1;have:=gM h;simp;lia
  ·cases h
noncomputable abbrev IR:=Option (List Nat×List D×Ro)
noncomputable def iC(X:Cx)(f:Ro->IR)(tg iter:P0):Prop:=∀ρ bs ds ρ1,f ρ=PU (bs,ds,ρ1)->∀g σ H R,SE X.K g ρ σ H->
 (∀J s g1 H1,Evo g H g1 H1 (λ_=>False)->SE X.K g1 ρ1 σ H1->iq X.K J s ds->s.P X.K g1 H1->s.from g1 H1 bs->R J H1)->wI X tg iter σ H R
noncomputable def Ek(a:Option (List Nat×List D))(ρ:Ro):IR:=match a with|some (bs,ds)=>PU (bs,ds,ρ)|none=>PV
theorem SndI.m{f:Ro->Option (List Nat×List D)}(h:SndI X f tg iter):iC X (λρ=>Ek (f ρ) ρ) tg iter:=by
 intro ρ bs ds ρ1 hf g σ H R se q;dsimp only[Ek] at hf;split at hf
 ·rename_i bs' ds' e;cases hf;refine h ρ bs ds e g σ H R se λJ s H1 s1 jt sp sf=>q J s g H1 (c5 s1 (λ_ z=>z.elim) λ_ z=>z.elim) (se.same s1) jt sp sf.from_H
 ·cases hf
noncomputable def iE(cap:List (Option Nat)):List RA:=cap.map λo=>match o with|some i=>.ref i|none=>.val .sh .non
noncomputable def gO(r:Ow)(it:IR)(f:D->Ro->Option (Option KD×Ro))(cap:List (Option Nat)):MR:=match it with
 |some (bs,ds,ρ)=>if bs=[]/\ds.length<=100000 then(match aN r f ds (cL ρ cap) with|some (ys,ρc)=>if ρc.length=cap.length then PU (.fr (.own [] r),.lst ys,dJ (iE cap) ρc ρ) else PV|none=>PV) else PV
 |none=>PV
theorem je:∀cap:List (Option Nat),dS (iE cap)=cap.filterMap id
 |[]=>rfl
 |none::r=>by
  have:=je r;simp only[iE,Nu,dS] at this⊢;simpa using this
 |some i::r=>by
  have:=je r;simp only[iE,Nu,dS] at this⊢;simpa using this
theorem As(cap:List (Option Nat))(i:Nat):nD (iE cap) i=kJ cap i:=by
 unfold nD kJ iE;rw[Of];congr 1;funext o
 cases o with
 |none=>rfl
 |some k=>simp[Function.comp]
theorem SE.clr{H:Hp}:∀{ps:List (Nat×D)} {ρ:Ro} {σ:L2.St},SE K g ρ σ H->SE K g (clr ps ρ) σ H
 |[],ρ,σ,h=>h
 |p::ps,ρ,σ,h=>by
  show SE K g (J.clr ps (ρ.set p.1 PV)) σ H;refine SE.clr ⟨λi sl e=>?_,h.mu,by simp[h.len]⟩;by_cases hi:i=p.1
  ·subst hi
   have hlt:p.1<ρ.length:=by
    have:=(MZ.mp e).1;simpa using this
   rw[Nd hlt] at e;cases e
  ·rw[Nh (Ne.symm hi)] at e;exact h.slot i sl e
theorem jM:∀{ps:List (Nat×D)} {vs:List (Nat×V)} {σ:L2.St} {j:Nat},RpP K H S ps vs->(∀p∈ps,p.1≠j)->(i8 vs σ)[j]?=σ[j]?
 |[],vs,σ,j,h,_=>by rw[(show vs=[] from h)];rfl
 |(i,d)::ps,vs,σ,j,h,hn=>by
  obtain⟨v,ws,rfl,_,h2⟩:=h;show(i8 ws (σ.set i (PU v)))[j]?=_;rw[jM h2 λp hp=>hn p (Ng _ hp),Nh (hn (i,d) Nm)]
section
variable {X:Cx} {Γ:eZ} {c:Cz}
theorem Evo.drop{F F2:Pr}(a:Evo g H g' H' F)(h:∀b,F2 b->F b):Evo g H g' H' F2:=⟨a.keep,a.out,a.new,λb z=>a.tmp b (h b z),a.dom⟩
theorem SE.drop{g:Gh}{F F2:Pr}(se:SE K (g.plus F) ρ σ H)(h:∀b,F2 b->F b)(hg:∀b,F b->g b=PV):SE K (g.plus F2) ρ σ H:=by
 have sub:∀b,Sg (g.plus F2) b->Sg (g.plus F) b:=λb z=>(ar b).mpr (((ar b).mp z).imp id (h b));refine⟨λi sl e=>?_,λb z=>se.mu b (sub b z),se.len⟩;obtain⟨v,F0,e1,e2,e3⟩:=se.slot i sl e;refine⟨v,F0,e1,λb z=>?_,e3.go (λ_ _ _ e=>e) λb o _ n z=>n (sub b z)⟩;have q:=bM (e2 b z);exact cx q λz2=>by rw[hg b (h b z2)] at q;cases q
theorem Evo.upd{H H':Hp}(a:Evo g H g' H' F)(hp:H p=PV):Evo g H g' (upd H' p o) F:=by
 refine⟨λb o' n e=>?_,a.out,a.new,a.tmp,λb o' e=>?_⟩
 ·rw[ah (λz=>by rw[z,hp] at e;cases e)];exact a.keep b o' n e
 ·obtain⟨o1,e1⟩:=a.dom b o' e;exact⟨o1,by rw[ah (λz=>by rw[z,hp] at e;cases e)];exact e1⟩
theorem kQ(a:Evo g H g1 H1 (λ_=>False))(b:Evo g1 H1 g2 H2 F2):Evo g H g2 H2 F2:=by
 have t:=a.trans (F1:=λ_=>False) (g2:=g2) (H2:=H2) (F2:=F2) (by rw[aZ λ_ z=>z];exact b);have e1:g2.minus (λ_=>False)=g2:=by funext c;exact bH λz=>z
 rw[e1] at t;exact t.drop λc z=>.inr z
noncomputable def kR(X:Cx)(f:Ro->Option (Bool×Ro))(ifs:List P0):Prop:=∀ρ b ρ',f ρ=PU (b,ρ')->∀g σ H Q,SE X.K g ρ σ H->(∀g' H',Evo g H g' H' (λ_=>False)->SE X.K g' ρ' σ H'->Q b H')->Gc X ifs σ H Q
theorem El:kR X (λρ=>PU (PX,ρ)) []:=λρ b ρ' h g σ H Q se q=>by cases h;exact nB ss (q g H (.refl g H) se)
theorem Em{e:P0}(h:e6 X f e):kR X f [e]:=λρ b ρ' hb g σ H Q se q=>nB (su fq) (h ρ b ρ' hb g σ H Q se q)
theorem sT{K:MW}{g' gi gt:Gh}{H1 H2 H3:Hp}{D:P1}{Fi:Pr}{us:List V}{yi:List J.D}{r:Ow}(ev2:Evo g' H1 gi H2 (λb=>b=D\/Fi b))(nFD:¬Fi D)(gD:H2 D=PU (.lst us))(tr:TrL K H2 (Sx gi λb=>b=D\/Fi b) yi [] r us Fi)(evt:Evo (gi.plus λb=>b=D\/Fi b) H2 gt H3 (λ_=>False)) :
  ∃gi',Evo g' H1 gi' H3 (λb=>b=D\/Fi b)/\(gi'.plus λb=>b=D\/Fi b)=gt/\H3 D=PU (.lst us)/\TrL K H3 (Sx gi' λb=>b=D\/Fi b) yi [] r us Fi:=by
 have gDo:(gi.plus λb=>b=D\/Fi b) D=PU PV:=bc (.inl rfl);have tot:=(ev2.trans evt).drop (F2:=λb=>b=D\/Fi b) λb z=>.inl z;refine⟨gt.minus (λb=>b=D\/Fi b),tot,?_,evt.keep D _ (λi q1=>by rw[gDo] at q1;cases q1) gD,?_⟩
 ·have e:=iA evt;rw[aZ λ_ z=>z] at e;have e2:(λc=>(c=D\/Fi c)\/False)=λb=>b=D\/Fi b:=by funext b;simp
  rw[e2] at e;exact e
 ·refine tr.go (λb o hb e=>?_) λb o e n z=>?_
  ·refine evt.keep b o (λi q1=>?_) e;rcases hb with hb|hb
   ·exact hb (.inl (by rw[bM q1];simp))
   ·rw[bc (.inr hb)] at q1;cases q1
  ·have nb:¬(b=D\/Fi b):=λz=>n (.inr z)
   have gn:(gi.plus λb=>b=D\/Fi b) b=PV:=by
    rw[cg nb]
    cases q1:gi b with
    |none=>rfl
    |some x=>exact absurd (.inl (by rw[q1];simp)) n
   obtain⟨f1,f2⟩:=evt.froz e gn;rcases z with z|z
   ·rw[bH nb] at z;exact z f1
   ·exact nb z
theorem sU(O:al X Γ c){r:Ow}{fi:Ro->IR}{ft:Ro->Option (Bool×Ro)}{fe:Ro->MR}{elt tg iter:P0}{ifs:List P0}{scope:Qe}{t:IT}{n:Nat}(hck:bO c scope=PX)(hi:iC X fi tg iter)
  (htg:oz ⟨gG scope c.sc,aq scope,ij scope⟩ n tg=PU t)
  (hft:∀C s H ex,kR (aV X (aq scope) scope C s H ex) ft ifs) (hfe:∀C s H ex,bB (aV X (aq scope) scope C s H ex) fe elt)
  {ρ:Ro} {kd:Kd} {d:D} {ρ':Ro} (h:gO r (fi ρ) (gh (aM c scope) t ft fe) (aM c scope)=PU (kd,d,ρ')) {g:Gh} {σ:L2.St} {H:Hp} {Q:VK} (se:SE X.K g ρ σ H) (q:∀v g' H' F,Evo g H g' H' F->SE X.K (g'.plus F) ρ' σ H'->VR1 X.K H' g' F kd d v F->Q v H') :
  iZ (wI X tg iter) (λv σ H Q=>∀C s H0 ex,wG (aV X (aq scope) scope C s H0 ex) tg v σ H Q) (λσ H Q=>∀C s H0 ex,Gc (aV X (aq scope) scope C s H0 ex) ifs σ H Q) (λσ H Q=>∀C s H0 ex,wE (aV X (aq scope) scope C s H0 ex) elt σ H Q) (aM c scope) σ H Q:=by
 have hcap:l9 (aM c scope)=PX:=by
  simp only[bO,MX] at hck;exact hck.1.2
 unfold gO at h;split at h
 ·rename_i bs ds ρ0 hit;split at h
  ·rename_i hlen;obtain⟨rfl,hlen⟩:=hlen;split at h
   ·rename_i ys ρe hm;split at h
    ·rename_i hel;cases h;have CO:=fZ O hck;refine hi ρ [] ds ρ0 hit g σ H _ se λjj src g1 H1 ev1 se0 jt sp sf D hD=>?_;replace q:∀v g' H' F,Evo g1 H1 g' H' F->SE X.K (g'.plus F) (dJ (iE (aM c scope)) ρe ρ0) σ H'->VR1 X.K H' g' F (.fr (.own [] r)) (.lst ys) v F->Q v H':=λv g' H' F e s r=>q v g' H' F (kQ ev1 e) s r;clear se ev1;generalize g1=g at *;generalize ρ0=ρ at *;have se1:SE X.K (g.re (kJ (aM c scope))) (cL ρ (aM c scope)) (dW σ (aM c scope)) H1:=se0.cap hcap;generalize hg':g.re (kJ (aM c scope))=g' at se1;have gS:∀b,Sg g' b↔Sg g b:=λb=>by rw[<- hg'];exact lB b
     generalize hρ:cL ρ (aM c scope)=ρc at se1 hm
     refine⟨λi m σ' H'=>m=ds.length-i/\i<=ds.length/\∃(gi:Gh) (Fi:Pr) (us:List V) (yi:List J.D) (ρi:Ro),aN r (gh (aM c scope) t ft fe) (ds.take i) ρc=PU (yi,ρi)/\Evo g' H1 gi H' (λb=>b=D\/Fi b)/\¬Fi D/\SE X.K (gi.plus λb=>b=D\/Fi b) ρi σ' H'/\
       (∀(j i:Nat),(aM c scope)[j]?=PU (PU i)->σ'[j]?=(dW σ (aM c scope))[j]?)/\H' D=PU (.lst us)/\TrL X.K H' (Sx gi λb=>b=D\/Fi b) yi [] r us Fi,
      ⟨ds.length,by simp,NG _,g',λ_=>False,[],[],ρc,by simp[aN],?_,λz=>z,?_,λj i _=>rfl,am,by unfold TrL;exact⟨rfl,λ_ z=>z⟩⟩,?_⟩
     ·have gD:g' D=PV:=eN se1.mu hD;refine⟨λb o n e=>ao hD b o e,λ_=>Iff.rfl,λb i e=>.inl ⟨i,e⟩,λb z=>?_,λb o e=>⟨o,ao hD b o e⟩⟩;rcases z with z|z
      ·subst z;exact⟨gD,.inr hD⟩
      ·exact z.elim
     ·exact se1.plus (ao hD) (λb z=>z.elim (λz=>z▸hD) λz=>z.elim) λb z=>z.elim (λz=>⟨.lst [],z▸am,λxs h=>by cases h⟩) λz=>z.elim
     rintro i m σ' H' ⟨rfl,hi',gi,Fi,us,yi,ρi,hyi,evi,nFD,se',hσ',gD,tr⟩
     have hFg:∀b,(b=D\/Fi b)->gi b=PV:=λb z=>(evi.tmp b z).1
     have sp':src.P X.K (gi.plus λb=>b=D\/Fi b) H':=by
      have fz:∀b o,H1 b=PU o->¬Sg g b->H' b=PU o/\¬Sg (gi.plus λb=>b=D\/Fi b) b:=λb o e n=>by
       have n':g' b=PV:=by
        cases q1:g' b with
        |none=>rfl
        |some x=>exact absurd ((gS b).mp (by rw[Sg,q1];simp)) n
       obtain⟨f1,f2⟩:=evi.froz e n';refine⟨evi.keep b o (λi q1=>by rw[n'] at q1;cases q1) e,λz=>?_⟩;rcases(ar b).mp z with z|z
       ·exact z f1
       ·exact f2 z
      refine Src.mono (g:=g) (H:=H1) (λb o e n=>(fz b o e n).2) (λb o hb e=>?_) (λa e=>sf.from_t e) sp;rcases hb with hb|hb
      ·exact(fz b o e hb).1
      ·rcases sf.from_l hb with sf|⟨i,hm',_⟩
       ·exact(fz b o e (by rw[Sg,sf];simp)).1
       ·cases hm'
     obtain⟨j1,j2⟩:=jt i _ H' sp' se'.mu;by_cases hlt:i<ds.length
     ·have hd:ds[i]?=PU ds[i]:=Na hlt;obtain⟨go,yl⟩:=j2 _ hd;refine .inr ⟨go,λx H2 hy C s0 H0 ex=>?_⟩;obtain⟨s2,rx⟩:=yl x H2 hy;have st:=pj hm hd hyi
      have stuck:∃o,gh (aM c scope) t ft fe ds[i] ρi=PU o:=by
       rcases st with⟨ρ1,e,_⟩|⟨kd,ρ1,e,_⟩
       ·exact⟨_,e⟩
       ·exact⟨_,e⟩
      obtain⟨o0,ho0⟩:=stuck;have he:=ho0;unfold gh at he;split at he
      ·rename_i ps hps;split at he
       ·rename_i hno;obtain⟨hno,hnc⟩:=hno
        have hcj:∀(j i:Nat),(aM c scope)[j]?=PU (PU i)->∀p∈ps,p.1≠j:=λj i e p hp z=>by
         have:=Ny.mp hnc p hp;rw[z,e] at this;cases this
        refine sA (o9 (CO C s0 H0 ex) n htg) (iy hps rx λvs hvs C1 s01 H01 ex1=>?_);have t1:=SE.setAll hvs (se'.same s2);have ev2:Evo g' H1 gi H2 (λb=>b=D\/Fi b):=⟨λb o n e=>s2 _ _ (evi.keep b o n e),evi.out,evi.new,evi.tmp,λb o e=>let ⟨o',q1⟩:=evi.dom b o e;⟨o',s2 _ _ q1⟩⟩;have tr2:TrL X.K H2 (Sx gi λb=>b=D\/Fi b) yi [] r us Fi:=tr.go (λb o _ e=>s2 _ _ e) λ_ _ _ n=>n;split at he
        ·rename_i ρt hT;refine hft C1 s01 H01 ex1 _ PX ρt hT _ _ _ _ t1 λgt H3 evt set=>wP λC2 s02 H02 ex2=>?_;obtain⟨gi2,ev3,hgp,gD3,tr3⟩:=sT ev2 nFD (s2 _ _ gD) tr2 evt;rw[<- hgp] at set
         have hul0:us.length<=i:=by
          rw[tr.len];exact Nq (gM hyi) (by rw[NN];lia)
         split at he
         ·rename_i ky y ρ1 hke;cases he
          have st2:dc r (eI ky y,y)=PX/\aN r (gh (aM c scope) t ft fe) (ds.take (i+1)) ρc=PU (yi++[y],clr ps ρ1):=by
           rcases st with⟨ρ2,e,_⟩|⟨kd,ρ2,e,e2,e3⟩
           ·rw[ho0] at e;cases e
           ·rw[ho0] at e;cases e;exact⟨e2,e3⟩
          refine hfe C2 s02 H02 ex2 _ ky y ρ1 hke _ _ H3 _ set λvy g2 H4 Fy ev4 se4 r4=>?_;have r4':=VR1.im (kd:=ky) se4.mu r4;have gDo:(gi2.plus λb=>b=D\/Fi b) D=PU PV:=bc (.inl rfl);have gD4:H4 D=PU (.lst us):=ev4.keep D _ (λi q1=>by rw[gDo] at q1;cases q1) gD3
          have nFyD:∀b,(b=D\/Fi b)->¬Fy b:=λb z z2=>by
           have:=(ev4.out b).mp (bc z);rw[(ev4.tmp b z2).1] at this;cases this
          have tot:=ev3.trans ev4;have mm:MuOk H4 (Sx g2 Fy):=λb z=>se4.mu b ((ar b).mpr z);obtain⟨F2,a1,a2⟩:=VR1.fit (p:=(eI ky y,y)) st2.1 mm (λb z=>(ev4.tmp b z).1) (λb z=>z) r4';have hul:=hul0;have kD:∀b o,b≠D->H4 b=PU o->upd H4 D (.lst (us++[vy])) b=PU o:=λb o n e=>by rw[ah n];exact e
          have mD:∀b,(b=D\/Fi b)->(g2.minus λb=>b=D\/Fi b) b=PV:=λb z=>iz z;have hgn:∀b,((b=D\/Fi b)\/Fy b)->(g2.minus λb=>b=D\/Fi b) b=PV:=λb z=>(tot.tmp b z).1;have sub:∀b,(b=D\/(Fi b\/F2 b))->((b=D\/Fi b)\/Fy b):=λb z=>z.elim (λz=>.inl (.inl z)) λz=>z.elim (λz=>.inl (.inr z)) λz=>.inr (a1 b z);refine⟨us,gD4,NA hul (M6 hlt (bd hlen)),ds.length-(i+1),by lia,rfl,hlt,g2.minus (λb=>b=D\/Fi b),λb=>Fi b\/F2 b,us++[vy],yi++[y],clr ps ρ1,st2.2,(tot.drop sub).upd hD,λz=>z.elim nFD λz=>nFyD D (.inl rfl) (a1 D z),?_,λj i e=>(jM hvs (hcj j i e)).trans (hσ' j i e),am,?_⟩
          ·refine SE.upd (SE.clr (SE.drop (by rw[iA ev4];exact se4) sub hgn)) (bc (.inl rfl)) (λxs h=>by cases h)
          ·refine TrL.snoc (tr3.go (λb o hb e=>?_) λb o e n z=>?_) ((a2 (Sx (g2.minus λb=>b=D\/Fi b) λb=>b=D\/(Fi b\/F2 b)) λb z=>?_).go (λb o hb e=>kD b o (λz=>?_) e) λb o e n z=>n z) λb z1 z2=>nFyD b (.inr z1) (a1 b z2)
           ·have nb:b≠D:=λz=>by
             subst z;exact hb.elim (λz=>z (.inr (.inl rfl))) nFD
            refine kD b o nb (ev4.keep b o (λi q1=>?_) e);rcases hb with hb|hb
            ·exact hb (.inl (by rw[bM q1];simp))
            ·rw[bc (.inr hb)] at q1;cases q1
           ·have nb:¬(b=D\/Fi b):=λz=>n (.inr z)
            have gn:(gi2.plus λb=>b=D\/Fi b) b=PV:=by
             rw[cg nb]
             cases q1:gi2 b with
             |none=>rfl
             |some x=>exact absurd (.inl (by rw[q1];simp)) n
            obtain⟨f1,f2⟩:=ev4.froz e gn;rcases z with z|z
            ·rw[bH nb] at z;exact z f1
            ·rcases sub b z with z|z
             ·exact nb z
             ·exact f2 z
           ·rcases z with z|z
            ·by_cases hb:b=D\/Fi b
             ·rw[iz hb] at z;exact absurd rfl z
             ·rw[bH hb] at z;exact .inr (.inl z)
            ·rcases z with z|z|z
             ·right;left;rw[(ev4.out b).mp (bc (.inl z))];simp
             ·right;left;rw[(ev4.out b).mp (bc (.inr z))];simp
             ·exact .inr (.inr (.inl z))
           ·subst z;exact hb.elim (λz=>z (.inr (.inl rfl))) λz=>nFyD b (.inl rfl) (a1 b z)
         ·cases he
        ·rename_i ρt hT;cases he
         have st2:aN r (gh (aM c scope) t ft fe) (ds.take (i+1)) ρc=PU (yi,clr ps ρt):=by
          rcases st with⟨ρ1,e,e2⟩|⟨kd,ρ1,e,_⟩
          ·rw[ho0] at e;cases e;exact e2
          ·rw[ho0] at e;cases e
         refine hft C1 s01 H01 ex1 _ PY ρt hT _ _ _ _ t1 λgt H3 evt set=>m9 ?_;obtain⟨gi2,ev3,hgp,gD3,tr3⟩:=sT ev2 nFD (s2 _ _ gD) tr2 evt;rw[<- hgp] at set;exact⟨ds.length-(i+1),by lia,rfl,hlt,gi2,Fi,us,yi,clr ps ρt,st2,ev3,nFD,SE.clr set,λj i e=>(jM hvs (hcj j i e)).trans (hσ' j i e),gD3,tr3⟩
        ·cases he
       ·cases he
      ·cases he
     ·have e:i=ds.length:=by lia
      subst e;rw[Oi,hm] at hyi;cases hyi;refine .inl ⟨j1 (M8 _),?_⟩;have hrn:(dS (iE (aM c scope))).Nodup:=by rw[je];simpa[l9] using hcap
      have hre:g.re (nD (iE (aM c scope)))=g':=by
       rw[<- hg'];congr 1;funext i;exact As _ _
      have rv:VR1 X.K H' gi (λb=>b=D\/Fi b) (.fr (.own [] r)) (.lst ys) (.ref D) (λb=>b=D\/Fi b):=by
       show Tr _ _ _ _ _ _ _;unfold Tr
       exact⟨D,_,us,Fi,rfl,gD,rfl,λ_=>nFD,(λh=>nomatch h),λb=>⟨λz=>z.imp (λz=>⟨rfl,z⟩) id,λz=>z.imp (λz=>z.2) id⟩,tr⟩
      obtain⟨c1,c2,c3⟩:=me (K:=X.K) (g:=g) (H:=H1) (g1:=g) (H1:=H1) (F:=λ_=>False) (ρ:=ρ) (σ:=σ) (ras:=iE (aM c scope)) (ρc:=ρe) (σc:=σ') hrn (by rw[hel];simp[iE]) rfl (.refl g H1) (by rw[aZ λ_ z=>z];exact se0)
       (λj i sl w ej eo ew=>by
        unfold iE at ej;rw[M0] at ej
        cases q1:(aM c scope)[j]? with
        |none=>rw[q1] at ej;cases ej
        |some o=>
         rw[q1] at ej
         cases o with
         |none=>cases ej
         |some i'=>
          cases ej;rw[hσ' j i q1] at ew;unfold dW at ew;rw[M0,q1] at ew;have ew':(σ[i]?).join=PU w:=by simpa using ew
          cases q2:σ[i]? with
          |none=>rw[q2] at ew';cases ew'
          |some w'=>rw[q2] at ew';have:w'=PU w:=ew';rw[this]) (by rw[hre];exact evi) se' rv
      exact q _ _ H' _ c1 c2 c3
    ·cases h
   ·cases h
  ·cases h
 ·cases h
theorem At(O:al X Γ c){r:Ow}{fi:Ro->IR}{ft:Ro->Option (Bool×Ro)}{fe:Ro->MR}{elt tg iter:P0}{ifs:List P0}{scope:Qe}{pos:Pos}{t:IT}{n:Nat}(hck:bO c scope=PX)(hns:d4 iter=PX)(hi:iC X fi tg iter)
  (htg:oz ⟨gG scope c.sc,aq scope,ij scope⟩ n tg=PU t)
  (hft:∀C s H ex,kR (aV X (aq scope) scope C s H ex) ft ifs) (hfe:∀C s H ex,bB (aV X (aq scope) scope C s H ex) fe elt) :
  bB X (λρ=>gO r (fi ρ) (gh (aM c scope) t ft fe) (aM c scope)) (.ListComp elt [⟨tg,iter,ifs,0⟩] scope pos):=by
 intro ρ kd d ρ' h g σ H Q se q
 exact aL (oV (N':=aq scope) (cap:=aM c scope) O.calm (gH O hck) w6
  (λC s H0 ex pins s' σ' H' v u Q' I r hh=>w8 pins s' σ' H' v u Q' I r (hh C s H0 ex)) (λC s H0 ex pins s' σ' H' Q' I hh=>hh C s H0 ex pins s' I) (λC s H0 ex pins s' σ' H' Q' I hh=>hh C s H0 ex pins s' I) (eA hns)) (sU O hck hi htg hft hfe h se q)
end
end J
namespace J
open PySem PySem.Spec L2
noncomputable def w2(X:Cx)(a b:P0)(σ:L2.St)(H:Hp)(R:List V->Hp->Prop):Prop:=wE X a σ H λx H1=>wE X b σ H1 λy H2=>R [x,y] H2
noncomputable def mf(X:Cx)(f:Ro->Option (List KD×Ro))(a b:P0):Prop:=∀ρ kds ρ',f ρ=PU (kds,ρ')->∀g σ H Q,SE X.K g ρ σ H->
 (∀vs g' H' F,Evo g H g' H' F->SE X.K (g'.plus F) ρ' σ H'->VRL X.K H' g' F kds vs F->Q vs H')->w2 X a b σ H Q
noncomputable def Strict2(X:Cx)(f:List KD->Option KD)(a b node:P0):Prop:=∀kds kd d,f kds=PU (kd,d)->∀σ H Q,w2 X a b σ H (L8 X kds kd d Q)->wE X node σ H Q
section
variable {X:Cx} {Γ:eZ} {c:Cz}
theorem Strict2.m{f:List KD->Option KD}{fa:Ro->Option (List KD×Ro)}(h:Strict2 X f a b node)(ha:mf X fa a b):bB X (λρ=>(fa ρ).bind λp=>(f p.1).map λq=>(q.1,q.2,p.2)) node:=by
 intro ρ kd d ρ' hd g σ H Q se q;dsimp only at hd
 cases e:fa ρ with
 |none=>rw[e] at hd;cases hd
 |some p=>
  obtain⟨kds,ρ1⟩:=p;rw[e] at hd;dsimp only[NO] at hd
  cases e2:f kds with
  |none=>rw[e2] at hd;cases hd
  |some r=>
   rw[e2] at hd;cases hd;refine h kds r.1 r.2 e2 σ H Q (ha ρ kds _ e g σ H _ se λvs g1 H1 F ev se1 r1=>⟨g1,lC H1 F,xK se1 λb z=>(ev.tmp b z).1,ph,r1.off,λv H2 s2 r2=>?_⟩);obtain⟨F2,b1,b2⟩:=r2;obtain⟨c1,c2⟩:=qU ev se1 s2 b1 b2.dom;exact q v g1 H2 F2 c1 c2 b2
theorem VR.one{v:V}(h:VR K g H0 H kd d v):VRs K g H0 H [(kd,d)] [v]:=by
 obtain⟨F,h1,h2⟩:=h;exact⟨F,h1,v,[],F,λ_=>False,rfl,λb=>⟨.inl,λz=>z.elim id λz=>z.elim⟩,λ_ _ z=>z,h2,rfl,λ_ z=>z⟩
theorem En{fa:Ro->MR}{fb:Ro->Option KD}(ha:bB X fa a)(hb:SndE X fb b):mf X (λρ=>gu (fa ρ) λρ=>gp (fb ρ) (PU [])) a b:=by
 intro ρ kds ρ' h g σ H Q se q;dsimp only[gu] at h;split at h
 ·rename_i kd d ρ1 e1;split at h
  ·rename_i kds' e2;cases h;unfold gp at e2;split at e2
   ·rename_i x xs ex exs;cases e2;cases exs;obtain⟨kb,db⟩:=x;refine ha ρ kd d ρ' e1 g σ H _ se λv g1 H1 F1 ev1 se1 r1=>hb ρ' kb db ex (g1.plus F1) σ H1 _ se1 λw H2 s2 r2=>?_;obtain⟨F',c1,c2,c3⟩:=sP (kds:=[(kb,db)]) (vs:=[w]) ev1 se1 r1 s2 r2.one;exact q [v,w] g1 H2 F' c1 c2 c3
   ·cases e2
  ·cases h
 ·cases h
theorem Au{fa fb:Ro->MR}(ha:bB X fa a)(hb:bB X fb b):mf X (λρ=>gI (fa ρ) λρ=>gu (fb ρ) λ_=>PU []) a b:=by
 intro ρ kds ρ' h g σ H Q se q;dsimp only[gI] at h;split at h
 ·rename_i kd d ρ1 e1;split at h
  ·cases h
  ·rename_i hbo;split at h
   ·rename_i kds' ρ2 e2;cases h;unfold gu at e2;split at e2
    ·rename_i kb db ρ3 e3;cases e2;refine ha ρ kd d ρ1 e1 g σ H _ se λv g1 H1 F1 ev1 se1 r1=>hb ρ1 kb db ρ' e3 (g1.plus F1) σ H1 _ se1 λw g2 H2 F2 ev2 se2 r2=>?_;have r2':VRL X.K H2 g2 F2 [(kb,db)] [w] F2:=⟨w,[],F2,λ_=>False,rfl,λb=>⟨.inl,λz=>z.elim id λz=>z.elim⟩,λ_ _ z=>z,r2,rfl,λ_ z=>z⟩;obtain⟨c1,c2,c3⟩:=pe (by simpa using hbo) ev1 (r1.im se1.mu) ev2 se2 r2';exact q [v,w] _ H2 _ c1 c2 c3
    ·cases e2
   ·cases h
 ·cases h
noncomputable def f2(f:KD->KD->Option KD):List KD->Option KD
 |[x,y]=>f x y
 |_=>PV
theorem n_bin:Strict2 X (f2 (dZ op)) a b (.BinOp a op b pos):=by
 intro kds kd d h σ H Q hA
 match kds,h with
 |[x,y],h=>
  refine aL (BE (xb op) aF aF) (fY hA λvx H1 h1=>fY h1 λvy H2 ⟨g,H0,m,s,r,q⟩=>?_);obtain⟨v,v',e,r1,r2⟩:=r.two;cases e;exact⟨g,H0,x,y,kd,d,m,s,r1,r2,h,λv H' s' r'=>q v H' s' (r'.older s)⟩
theorem Eo(O:al X Γ c){op:Ql}{a b:P0}{pos:Pos}{fa:Ro->Option (List KD×Ro)}(hm:Qg op b=PY)(ha:mf X fa a b):e6 X (λρ=>(fa ρ).bind λp=>(match p.1 with|[x,y]=>(cu op x.2 y.2).map λb=>(b,p.2)|_=>PV)) (.Compare a [op] [b] pos):=by
 intro ρ bb ρ' h g σ H Q se q;dsimp only at h
 cases e:fa ρ with
 |none=>rw[e] at h;cases h
 |some p=>
  obtain⟨kds,ρ1⟩:=p;rw[e] at h;dsimp only[NO] at h;split at h
  ·rename_i x y;obtain⟨r0,hc,e2⟩:=aX h;cases e2;have hh:w2 X a b σ H (λvs H2=>∀v w,vs=[v,w]->DL X.K op v w H2 λz H3=>∃k,z=.bl k/\Q k H3):=ha ρ _ _ e g σ H _ se (λvs g1 H1 F ev se1 r=>?_)
   ·refine sw (mR (qE O.tab.units op) aF aF hm) ?_;show wE X a σ H λvx H1=>wE X b σ H1 λvy H2=>DL X.K op vx vy H2 λz H3=>∃k,z=.bl k/\Q k H3;exact fY hh λvx H1 h1=>fY h1 λvy H2 h2=>h2 vx vy rfl
   intro v w evs;subst evs;obtain⟨v',w',e3,r1,r2⟩:=r.off.two;cases e3;have cl:=qU (F2:=λ_=>False) ev se1 (Same.refl H1) (λb z=>z.elim) (λb z=>z.elim);exact⟨x.2,y.2,bb,r1.rd,r2.rd,hc,bb,rfl,q g1 H1 cl.1 (by have:=cl.2;rw[aZ λ_ z=>z] at this;exact this)⟩
  ·cases h
noncomputable def Jv:KD->KD->Option KD:=λx y=>uV (PU x) (PU y)
theorem KL(O:al X Γ c){a b:P0}{pos:Pos}(hp:dq b=PX):Strict2 X (f2 Jv) a b (.Subscript a b pos):=by
 intro kds kd d h σ H Q hA
 match kds,h with
 |[x,y],h0=>
  have h:uV (PU x) (PU y)=PU (kd,d):=h0;clear h0;obtain⟨kx,dx⟩:=x;obtain⟨ky,dy⟩:=y
  have mono:∀{R:V->V->Hp->Prop},(∀vx vy H2 g H0,MuOk H0 (Sg g)->Same H0 H2->VR X.K g H0 H2 kx dx vx->VR X.K g H0 H2 ky dy vy->(∀v H',Same H2 H'->VR X.K g H0 H' kd d v->Q v H')->R vx vy H2)->wE X a σ H λvx H1=>wE X b σ H1 λvy H2=>R vx vy H2:=λk=>
   fY hA λvx H1 h1=>fY h1 λvy H2 ⟨g,H0,m,s,r,q⟩=>by
    obtain⟨v,v',e,r1,r2⟩:=r.two;cases e;exact k vx vy H2 g H0 m s r1 r2 q
  rcases sD h with⟨i,e,hh⟩|⟨p,e,hh⟩
  ·cases(show dy=_ from e);refine aL (oN mZ aF aF (dG hp)) (mono λvx vy H2 g H0 m s rx ry q=>?_);obtain rfl:=ry.rd.int;exact sE hh rx λv r=>q v H2 (Same.refl H2) r
  ·cases hh
theorem n_lst:StrictOk X (λkds=>ik k (PU kds)) es (.List es pos):=by
 intro kds kd d h σ H Q hA;dsimp only[ik] at h;split at h
 ·split at h
  ·rename_i hz;cases h;refine aL (mV ee) (cY hA λvs H1 ⟨g,H0,m,s1,r1,q⟩=>⟨by rw[r1.len];exact bd hz.2,λp hp=>?_⟩);exact q _ _ (ao hp) (r1.node hz.1 m s1 hp rfl rfl)
  ·cases h
 ·cases h
theorem n_tup{n:Nat}:StrictOk X (λkds=>il k (PU kds)) es (.Tuple es n pos):=by
 intro kds kd d h σ H Q hA;dsimp only[il] at h;split at h
 ·split at h
  ·rename_i hz;cases h;refine aL (km ee) (cY hA λvs H1 ⟨g,H0,m,s1,r1,q⟩=>⟨by rw[r1.len];exact bd hz.2,λp hp=>?_⟩);exact q _ _ (ao hp) (r1.tupO hz.1 m s1 hp)
  ·cases h
 ·split at h
  ·rename_i hz;cases h;refine aL (km ee) (cY hA λvs H1 ⟨g,H0,m,s1,r1,q⟩=>⟨by rw[r1.len];exact bd hz.2,λp hp=>?_⟩);exact q _ _ (ao hp) ((DJ (m.same s1) hp (r1.sh hz.1 m s1)).older s1)
  ·cases h
theorem KM(O:al X Γ c){x:Str}{φ:Fn}{e:P0}{es:List P0}{p pos:Pos}(hφ:Γ.fn x=PU φ)(hg:eK c.sc x=PX)(n1:ag e=PX)(n2:es.all ag=PX):StrictOk X (qN φ) (e::es) (.Call (.Name x p) (e::es) [] pos):=by
 intro kds kd d h σ H Q hA;refine aL (BN (t:=wA X (e::es)) (λ_ _ _ _=>cY) (O.tab.fn x φ hφ) (bp O hg) ee (ai n1) (cy n2)) (cY hA λvs H1 ⟨g,H0,m,s1,r1,q⟩=>?_);exact nz X.K h m s1 r1 q
theorem KN(O:al X Γ c){x:Str}{φ:Fm}{e:P0}{es:List P0}{p pos:Pos}{fa:Ro->Option (List RA×Ro)}(hφ:Γ.fm x=PU λK=>BW K φ)(hg:eK c.sc x=PX)(n1:ag e=PX)(n2:es.all ag=PX)(ha:jw X fa (e::es)) :
  bB X (λρ=>Ej (PU φ) (fa ρ)) (.Call (.Name x p) (e::es) [] pos):=by
 intro ρ kd d ρ' h g σ H Q se q;obtain⟨n,fa',fd,ps,F,hr,hm,hk,hb,hdb⟩:=O.tab.fm x _ hφ;dsimp only at h
 cases hf:fa ρ with
 |none=>rw[hf] at h;cases h
 |some pr=>
  obtain⟨ras,ρ1⟩:=pr;rw[hf] at h;refine aL (mW (E:=E0) F hr (bp O hg) hm hk hb .nil wN ee hdb (ai n1) (cy n2)) (ha ρ ras ρ1 hf g σ H _ se λvs g1 H1 Fv ev se1 r1=>?_);rw[On];exact Ar h ev se1 r1 q
noncomputable def u9(i:Nat)(ρ:Ro):MR:=match ρ[i]? with
 |some (PU ⟨PY,k,d⟩)=>if qD k=PX then PU (.sh,d,ρ) else PU (.fr k,d,ρ.set i PV)
 |_=>PV
noncomputable def va(i:Nat)(ρ:Ro):MR:=match ρ[i]? with
 |some (PU ⟨PY,k,d⟩)=>PU (.sh,d,ρ.set i (PU ⟨PY,.fz,d⟩))
 |_=>PV
open Classical in
noncomputable def Gh.off(g:Gh)(i:Nat):Gh:=λb=>if g b=PU (PU i) then PV else g b
theorem mh{g:Gh}{i:Nat}(h:Sg (g.off i) b):Sg g b/\g b≠PU (PU i):=by
 by_cases n:g b=PU (PU i)
 ·exact absurd (by unfold Gh.off;rw[if_pos n]) h
 ·refine⟨λz=>h ?_,n⟩;unfold Gh.off;rw[if_neg n];exact z
theorem xM{g:Gh}{i:Nat}(h:g b≠PU (PU i)):g.off i b=g b:=by unfold Gh.off;rw[if_neg h]
theorem Ep{g:Gh}{i:Nat}(h:g b=PU (PU i)):g.off i b=PV:=by unfold Gh.off;rw[if_pos h]
theorem pp{g:Gh}{i:Nat}(h:g.off i b=PU x):g b=PU x/\x≠PU i:=by
 unfold Gh.off at h;split at h
 ·cases h
 ·rename_i n;exact⟨h,λz=>n (by rw[h,z])⟩
theorem nG{g:Gh}{i:Nat}{F:Pr}(hF:∀b,F b->g b=PU (PU i)):Evo g H (g.off i) H F:=by
 refine⟨λ_ _ _ e=>e,λb=>⟨λe=>?_,λe=>(pp e).1⟩,λb j e=>.inl ⟨j,(pp e).1⟩,λb z=>⟨Ep (hF b z),.inl ⟨i,hF b z⟩⟩,λ_ o e=>⟨o,e⟩⟩;rw[xM (by rw[e];simp)];exact e
theorem qW{g:Gh}{i:Nat}{F:Pr}{ρ ρ':Ro}{σ:L2.St}(se:SE K g ρ σ H)(hF:∀b,F b->g b=PU (PU i))(hl:ρ'.length=ρ.length)(hs:∀(j:Nat) sl,ρ'[j]?=PU (PU sl)->(j≠i/\ρ[j]?=PU (PU sl))\/(∃v,σ[j]?=PU (PU v)/\sl.k=.fz/\Rp K H (Sg ((g.off i).plus F)) sl.d v)):SE K ((g.off i).plus F) ρ' σ H:=by
 have sub:∀b,Sg ((g.off i).plus F) b->Sg g b:=λb z=>((ar b).mp z).elim (λz=>(mh z).1) λz=>by rw[Sg,hF b z];simp
 refine⟨λj sl e=>?_,λb z=>se.mu b (sub b z),by rw[hl];exact se.len⟩;rcases hs j sl e with⟨hj,e1⟩|⟨v,e1,e2,e3⟩
 ·obtain⟨v,F0,q1,q2,q3⟩:=se.slot j sl e1;refine⟨v,F0,q1,λb z=>?_,q3.go (λ_ _ _ e=>e) λb o _ n z=>n (sub b z)⟩;have q4:=q2 b z;refine cx ?_ λz2=>by rw[hF b z2] at q4;cases q4;exact hj rfl
  rw[xM (by rw[q4];intro z;cases z;exact hj rfl)];exact q4
 ·obtain⟨lk,k,d⟩:=sl;have e2:k=.fz:=e2;subst e2;exact⟨v,λ_=>False,e1,λb z=>z.elim,.fz e3⟩
theorem du(O:al X Γ c){x:Str}{i:Nat}(hc:ef c x=PU i)(pos:Pos){σ:L2.St}{H:Hp}{v:V}{Q:VK}(e:σ[i]?=PU (PU v))(q:Q v H):wE X (.Name x pos) σ H Q:=by
 unfold ef at hc;split at hc
 ·rename_i j hj;split at hc
  ·rename_i hv;cases hc;simp only[MX,nv,Ov] at hv;exact aL (mM (i:=i) (by rw[O.N];exact bf hj) (by rw[O.sc];exact nu hv.1) hv.2.1 hv.2.2) ⟨v,e,q⟩
  ·cases hc
 ·cases hc
theorem HR(O:al X Γ c){x:Str}{i:Nat}(hc:ef c x=PU i)(pos:Pos):bB X (u9 i) (.Name x pos):=by
 intro ρ kd d ρ' h g σ H Q se q;unfold u9 at h;split at h
 ·rename_i k d' e;obtain⟨v,F0,e1,e2,e3⟩:=se.slot i _ e;split at h
  ·rename_i hk;cases h;have hk':=jH hk;subst hk';refine du O hc pos e1 (q v g H (λ_=>False) (.refl g H) (by rw[aZ λ_ z=>z];exact se) ⟨λ_ z=>z,?_⟩);exact e3.fz_inv.2.weak λb z=>z.elim id λz=>z.elim
  ·cases h;refine du O hc pos e1 (q v (g.off i) H F0 (nG e2) (qW se e2 (by simp) λj sl e4=>?_) ?_)
   ·by_cases hj:j=i
    ·subst hj
     have hlt:j<ρ.length:=by
      have:=(MZ.mp e4).1;simpa using this
     rw[Nd hlt] at e4;cases e4
    ·rw[Nh (Ne.symm hj)] at e4;exact .inl ⟨hj,e4⟩
   ·show Tr _ _ _ _ _ _ _;exact e3.go (λ_ _ _ e=>e) λb o _ n z=>n (z.elim (λz=>(mh z).1) λz=>by rw[Sg,e2 b z];simp)
 ·cases h
theorem HS(O:al X Γ c){x:Str}{i:Nat}(hc:ef c x=PU i)(pos:Pos):bB X (va i) (.Name x pos):=by
 intro ρ kd d ρ' h g σ H Q se q;unfold va at h;split at h
 ·rename_i k d' e;cases h;obtain⟨v,F0,e1,e2,e3⟩:=se.slot i _ e;have r:Rp X.K H (Sg ((g.off i).plus λ_=>False)) d v:=e3.rp λb z=>((ar b).mp z).elim (λz=>⟨(mh z).1,λz2=>(mh z).2 (e2 b z2)⟩) λz=>z.elim;refine du O hc pos e1 (q v (g.off i) H (λ_=>False) (nG λ_ z=>z.elim) (qW se (λ_ z=>z.elim) (by simp) λj sl e4=>?_) ⟨λ_ z=>z,?_⟩)
  ·by_cases hj:j=i
   ·subst hj
    have hlt:j<ρ.length:=by
     have:=(MZ.mp e4).1;simpa using this
    rw[Nd hlt] at e4;cases e4;exact .inr ⟨v,e1,rfl,r⟩
   ·rw[Nh (Ne.symm hj)] at e4;exact .inl ⟨hj,e4⟩
  ·exact r.weak λb z=>(ar b).mpr z
 ·cases h
theorem vb{g g1:Gh}(ev:Evo g H g1 H1 F)(se:SE K (g1.plus F) ρ1 σ H1):Evo g H g1 H1 (λ_=>False)/\SE K g1 ρ1 σ H1:=by
 refine⟨ev.drop λ_ z=>z.elim,?_⟩;have:=se.drop (F2:=λ_=>False) (λ_ z=>z.elim) λb z=>(ev.tmp b z).1;rw[aZ λ_ z=>z] at this;exact this
noncomputable def Gg(g:Option KD->Option (List Nat×List D))(a:MR):IR:=match a with
 |some (kd,d,ρ1)=>Ek (g (PU (eI kd d,d))) ρ1
 |none=>PV
theorem Er{g:Option KD->Option (List Nat×List D)}(h:Gg g a=PU (bs,ds,ρ1)):∃kd d,a=PU (kd,d,ρ1)/\g (PU (eI kd d,d))=PU (bs,ds):=by
 unfold Gg at h;split at h
 ·rename_i kd d ρ2;unfold Ek at h;split at h
  ·rename_i e;cases h;exact⟨kd,d,rfl,e⟩
  ·cases h
 ·cases h
theorem HU(O:al X Γ c){fa:Ro->MR}{tg e:P0}{p pos:Pos}(hg:eK c.sc "range" = PX)(hn:ag e=PX)(ha:bB X fa e):iC X (λρ=>Gg (iu (PU (.sh,.int 0))) (fa ρ)) tg (.Call (.Name "range" p) [e] [] pos):=by
 intro ρ bs ds ρ1 h g σ H R se q;obtain⟨kd,d,ea,h⟩:=Er h;unfold iu at h;split at h
 ·rename_i k1 i k2 j e1 e2;cases e1;cases e2;split at h
  ·rename_i hr;simp only[eL,MX,decide_eq_true_eq] at hr;cases h;refine jq (lK (bp O hg) (O.tab.bl _ (by simp[aR])) (aK aF bJ (ai hn)) (ai hn)) (ha ρ _ _ _ ea g σ H _ se λv g1 H1 F ev se1 vr=>?_);obtain rfl:=vr.rd.int;obtain⟨ev2,se2⟩:=vb ev se1;refine⟨j,rfl,hr.1.1.2,hr.1.2,q _ .non g1 H1 ev2 se2 ?_ trivial trivial⟩;unfold en;rw[Po];exact D0 0 _
  ·cases h
 ·cases h
end
end J
namespace J
open PySem PySem.Spec L2
section
variable {K:MW} {H:Hp} {S:Pr}
theorem TrL.focus:∀{ds:List D} {es:List Ow} {r:Ow} {xs:List V} {F:Pr} {j:Nat} {d:D},TrL K H S ds es r xs F->ds[j]?=PU d->∃(x:V) (Fj Fr:Pr),xs[j]?=PU x/\(∀b,F b↔Fj b\/Fr b)/\(∀b,Fj b->¬Fr b)/\Tr K H S d (es.getD j r) x Fj/\
  ∀(H':Hp) (S':Pr) (d':D) (Fj':Pr),(∀b o,(¬S b\/Fr b)->H b=PU o->H' b=PU o)->(∀b o,H b=PU o->¬S b->¬S' b)->Tr K H' S' d' (es.getD j r) x Fj'->(∀b,Fj' b->¬Fr b)->TrL K H' S' (ds.set j d') es r xs (λb=>Fj' b\/Fr b)
 |[],_,_,_,_,_,_,h,e=>by simp at e
 |d0::ds,es,r,xs,F,0,d,h,e=>by
  unfold TrL at h;obtain⟨y,ys,F1,F2,rfl,hF,dj,h1,h2⟩:=h;simp at e;subst e
  refine⟨y,F1,F2,rfl,hF,dj,by cases es<;>simpa using h1,λH' S' d' Fj' k1 k2 t dj'=>?_⟩
  show TrL K H' S' (d'::ds) es r (y::ys) _;unfold TrL
  exact⟨y,ys,Fj',F2,rfl,λb=>Iff.rfl,dj',by cases es<;>simpa using t,h2.go k1 k2⟩
 |d0::ds,es,r,xs,F,j+1,d,h,e=>by
  unfold TrL at h;obtain⟨y,ys,F1,F2,rfl,hF,dj,h1,h2⟩:=h
  obtain⟨x,Fj,Fr,e1,e2,e3,e4,e5⟩:=TrL.focus h2 (by simpa using e)
  have eg:es.tail.getD j r=es.getD (j+1) r:=by cases es<;>simp
  rw[eg] at e4;refine⟨x,Fj,λb=>F1 b\/Fr b,by simpa using e1,λb=>?_,λb z1 z2=>?_,e4,λH' S' d' Fj' k1 k2 t dj'=>?_⟩
  ·rw[hF b,e2 b];exact⟨λz=>z.elim (λz=>.inr (.inl z)) λz=>z.imp id .inr,λz=>z.elim (λz=>.inr (.inl z)) λz=>z.imp id .inr⟩
  ·rcases z2 with z2|z2
   ·exact dj b z2 ((e2 b).mpr (.inl z1))
   ·exact e3 b z1 z2
  ·show TrL K H' S' (d0::ds.set j d') es r (y::ys) _;unfold TrL;refine⟨y,ys,F1,λb=>Fj' b\/Fr b,rfl,λb=>⟨λz=>z.elim (λz=>.inr (.inl z)) λz=>z.imp id .inr,λz=>z.elim (λz=>.inr (.inl z)) λz=>z.imp id .inr⟩,λb z1 z2=>?_,h1.go (λb o hb e=>k1 b o (hb.imp id .inl) e) k2,e5 H' S' d' Fj' (λb o hb e=>k1 b o (hb.imp id .inr) e) k2 (by rw[eg];exact t) λb z1 z2=>dj' b z1 (.inr z2)⟩;rcases z2 with z2|z2
   ·exact dj' b z2 (.inl z1)
   ·exact dj b z1 ((e2 b).mpr (.inr z2))
noncomputable def FP(K:MW)(H:Hp)(S:Pr)(k:Ow)(v:V)(F:Pr)(k1:Ow)(d1:D)(v1:V)(up:D->D):Prop:=∃(F1 Fr:Pr),(∀b,F b↔F1 b\/Fr b)/\(∀b,F1 b->¬Fr b)/\Tr K H S d1 k1 v1 F1/\
  ∀(H':Hp) (S':Pr) (d1':D) (F1':Pr),(∀b o,(¬S b\/Fr b)->H b=PU o->H' b=PU o)->(∀b o,H b=PU o->¬S b->¬S' b)->Tr K H' S' d1' k1 v1 F1'->(∀b,F1' b->¬Fr b)->Tr K H' S' (up d1') k v (λb=>F1' b\/Fr b)
theorem FP.root(h:Tr K H S d k v F):FP K H S k v F k d v id:=by
 refine⟨F,λ_=>False,λb=>⟨.inl,λz=>z.elim id λz=>z.elim⟩,λ_ _ z=>z,h,λH' S' d1' F1' k1 k2 t dj=>?_⟩;have eF:(λb=>F1' b\/False)=F1':=by funext b;exact propext ⟨λz=>z.elim id λz=>z.elim,.inl⟩
 rw[eF];exact t
theorem FP.same(h:FP K H S k v F k1 d1 v1 up)(s:Same H H2):FP K H2 S k v F k1 d1 v1 up:=by
 obtain⟨F1,Fr,h1,h2,h3,h4⟩:=h;exact⟨F1,Fr,h1,h2,h3.go (λb o _ e=>s b o e) λ_ _ _ n=>n,λH' S' d1' F1' k1 k2 t dj=>h4 H' S' d1' F1' (λb o hb e=>k1 b o hb (s b o e)) (λb o e n=>k2 b o (s b o e) n) t dj⟩
theorem FP.step{es:List Ow}{ds:List D}{up:D->D}{j:Nat}(h:FP K H S k v F (.own es r) (.nd hd ds) v1 up)(hj:ds[j]?=PU d):∃a o xs x,v1=.ref a/\H a=PU o/\fD K o hd xs/\xs.length=ds.length/\xs[j]?=PU x/\FP K H S k v F (es.getD j r) d x (λz=>up (.nd hd (ds.set j z))):=by
 obtain⟨F1,Fr,h1,h2,h3,h4⟩:=h;unfold Tr at h3;obtain⟨a,o,xs,F',rfl,q1,q2,n1,n2,hF,t⟩:=h3
 obtain⟨x,Fj,Fq,e1,e2,e3,e4,e5⟩:=t.focus hj
 refine⟨a,o,xs,x,rfl,q1,q2,t.len,e1,Fj,λb=>(hd.mu=PX/\b=a)\/Fq b\/Fr b,λb=>?_,λb z1 z2=>?_,e4,λH' S' d1' F1' k1 k2 t1 dj'=>?_⟩
 ·rw[h1 b,hF b,e2 b];exact⟨λz=>z.elim (λz=>z.elim (λz=>.inr (.inl z)) λz=>z.imp id λz=>.inr (.inl z)) λz=>.inr (.inr (.inr z)),λz=>z.elim (λz=>.inl (.inr (.inl z))) λz=>z.elim (λz=>.inl (.inl z)) λz=>z.elim (λz=>.inl (.inr (.inr z))) .inr⟩
 ·rcases z2 with⟨hm,rfl⟩|z2|z2
  ·exact n1 hm ((e2 b).mpr (.inl z1))
  ·exact e3 b z1 z2
  ·exact h2 b ((hF b).mpr (.inr ((e2 b).mpr (.inl z1)))) z2
 ·have t3:=e5 H' S' d1' F1' (λb o hb e=>k1 b o (hb.imp id λz=>.inr (.inl z)) e) k2 t1 λb z1 z2=>dj' b z1 (.inr (.inl z2))
  have ha:H' a=PU o:=by
   cases hm:hd.mu with
   |true=>exact k1 a o (.inr (.inl ⟨hm,rfl⟩)) q1
   |false=>exact k1 a o (.inl (n2 hm)) q1
  have tn:Tr K H' S' (.nd hd (ds.set j d1')) (.own es r) (.ref a) (λb=>(hd.mu=PX/\b=a)\/(F1' b\/Fq b)):=by
   unfold Tr;exact⟨a,o,xs,λb=>F1' b\/Fq b,rfl,ha,q2,λhm z=>z.elim (λz=>dj' a z (.inl ⟨hm,rfl⟩)) λz=>n1 hm ((e2 a).mpr (.inr z)),λhm=>k2 a o q1 (n2 hm),λb=>Iff.rfl,t3⟩
  have t4:=h4 H' S' _ _ (λb o hb e=>k1 b o (hb.imp id λz=>.inr (.inr z)) e) k2 tn λb z1 z2=>by
   rcases z1 with⟨hm,rfl⟩|z1|z1
   ·exact h2 b ((hF b).mpr (.inl ⟨hm,rfl⟩)) z2
   ·exact dj' b z1 (.inr (.inr z2))
   ·exact h2 b ((hF b).mpr (.inr ((e2 b).mpr (.inr z1)))) z2
  have eF:(λb=>((hd.mu=PX/\b=a)\/(F1' b\/Fq b))\/Fr b)=λb=>F1' b\/((hd.mu=PX/\b=a)\/Fq b\/Fr b):=by
   funext b;exact propext ⟨λz=>z.elim (λz=>z.elim (λz=>.inr (.inl z)) λz=>z.imp id λz=>.inr (.inl z)) λz=>.inr (.inr (.inr z)),λz=>z.elim (λz=>.inl (.inr (.inl z))) λz=>z.elim (λz=>.inl (.inl z)) λz=>z.elim (λz=>.inl (.inr (.inr z))) .inr⟩
  rw[eF] at t4;exact t4
end
noncomputable def BX(hd:Hd)(n:Nat)(x:D):Option Nat:=match hd with
 |.lst=>(match x with|.int z=>kn n z|_=>PV)
 |.tup=>(match x with|.int z=>kn n z|_=>PV)
 |.dic t ks=>(match lA x with|some k=>if uU t k=PX then bN ks k else PV|none=>PV)
 |.obj _ _=>PV
noncomputable def xN(p:Option (Ow×D×(D->D)))(x:Option KD):Option (Ow×D×(D->D)):=match p,x with
 |some (.own es r,.nd hd ds,up),PU (_,dx)=>(match BX hd ds.length dx with
  |some j=>(match ds[j]? with|some d=>PU (es.getD j r,d,λz=>up (.nd hd (ds.set j z)))|none=>PV)
  |none=>PV)
 |_,_=>PV
noncomputable def mi(o:Option (Option Sl)):Option (Ow×D×(D->D)):=match o with
 |some (PU ⟨PY,k,d⟩)=>PU (k,d,id)
 |_=>PV
noncomputable def vc(X:Cx)(i:Nat)(f:Ro->Option (Ow×D×(D->D)))(e:P0):Prop:=∀ρ k1 d1 up,f ρ=PU (k1,d1,up)->∀g σ H Q,SE X.K g ρ σ H->
 (∀v1 H' v F k d,Same H H'->ρ[i]?=PU (PU ⟨PY,k,d⟩)->σ[i]?=PU (PU v)->(∀b,F b->g b=PU (PU i))->FP X.K H' (Sg g) k v F k1 d1 v1 up->Q v1 H')->wE X e σ H Q
section
variable {X:Cx} {Γ:eZ} {c:Cz}
theorem Es(O:al X Γ c){x:Str}{i:Nat}(hc:ef c x=PU i)(pos:Pos):vc X i (λρ=>mi ρ[i]?) (.Name x pos):=by
 intro ρ k1 d1 up h g σ H Q se q;dsimp only[mi] at h;split at h
 ·rename_i k d e;cases h;obtain⟨v,F,e1,e2,e3⟩:=se.slot i _ e;exact du O hc pos e1 (q v H v F k1 d1 (Same.refl H) e e1 e2 (.root e3))
 ·cases h
theorem Et(O:al X Γ c){i:Nat}{fp:Ro->Option (Ow×D×(D->D))}{fb:Ro->Option KD}{a b:P0}{pos:Pos}(ha:vc X i fp a)(hb:SndE X fb b)(hp:dq b=PX):vc X i (λρ=>xN (fp ρ) (fb ρ)) (.Subscript a b pos):=by
 intro ρ k1 d1 up h g σ H Q se q;dsimp only[xN] at h;split at h
 ·rename_i es r hd ds up0 kx dx ep ex;split at h
  ·rename_i j hj;split at h
   ·rename_i dj ej;cases h
    cases hd with
    |lst=>
     refine aL (oN mZ aF aF (dG hp)) (ha ρ _ _ _ ep g σ H _ se λv1 H1 v F k d s1 e1 e2 e3 fp1=>hb ρ _ _ ex g σ H1 _ (se.same s1) λy H2 s2 r2=>?_)
     cases dx with
     |int z=>
      obtain rfl:=r2.rd.int;obtain⟨a',o,xs,x,rfl,q1,q2,l,ex',fp2⟩:=(fp1.same s2).step ej;cases(show o=_ from q2);exact .inl ⟨a',xs,z,x,rfl,rfl,.of q1,by unfold L2.r9;rw[l,(show kn ds.length z=PU j from hj)];exact ex',q x H2 v F k d (s1.trans s2) e1 e2 e3 fp2⟩
     |_=>cases hj
    |tup=>
     refine aL (oN mZ aF aF (dG hp)) (ha ρ _ _ _ ep g σ H _ se λv1 H1 v F k d s1 e1 e2 e3 fp1=>hb ρ _ _ ex g σ H1 _ (se.same s1) λy H2 s2 r2=>?_)
     cases dx with
     |int z=>
      obtain rfl:=r2.rd.int;obtain⟨a',o,xs,x,rfl,q1,q2,l,ex',fp2⟩:=(fp1.same s2).step ej;cases(show o=_ from q2);exact .inr (.inl ⟨a',xs,z,x,rfl,rfl,.of q1,by unfold L2.r9;rw[l,(show kn ds.length z=PU j from hj)];exact ex',q x H2 v F k d (s1.trans s2) e1 e2 e3 fp2⟩)
     |_=>cases hj
    |dic t ks=>
     simp only[BX] at hj;split at hj
     ·rename_i kk hk;split at hj
      ·rename_i hf;refine aL (zH (by have:=O.tab.units;lia) aF aF (dG hp)) (ha ρ _ _ _ ep g σ H _ se λv1 H1 v F k d s1 e1 e2 e3 fp1=>hb ρ _ _ ex g σ H1 _ (se.same s1) λy H2 s2 r2=>?_);obtain⟨a',o,xs,x,rfl,q1,q2,l,ex',fp2⟩:=(fp1.same s2).step ej;have dg:=sC q1 q2 hk r2.rd hf;rw[hj,NO,ex'] at dg;exact⟨a',x,rfl,dg,q x H2 v F k d (s1.trans s2) e1 e2 e3 fp2⟩
      ·cases hj
     ·cases hj
    |obj c ns=>cases hj
   ·cases h
  ·cases h
 ·cases h
end
section
variable {X:Cx}
end
open Classical in
noncomputable def Gh.give(g:Gh)(F:Pr)(i:Nat):Gh:=λb=>if F b then PU (PU i) else g b
section
variable {K:MW} {H:Hp} {g:Gh} {F:Pr} {ρ:Ro} {σ:L2.St}
theorem iF{F2:Pr}{i:Nat}(h:F2 b):g.give F2 i b=PU (PU i):=by unfold Gh.give;rw[if_pos h]
theorem bF{F2:Pr}{i:Nat}(h:¬F2 b):g.give F2 i b=g b:=by unfold Gh.give;rw[if_neg h]
theorem give_S{F2:Pr}{i:Nat}:Sg (g.give F2 i) b↔Sg g b\/F2 b:=by
 by_cases h:F2 b
 ·exact⟨λ_=>.inr h,λ_=>by rw[Sg,iF h];simp⟩
 ·exact⟨λz=>.inl (by rw[Sg,bF h] at z;exact z),λz=>z.elim (λz=>by rw[Sg,bF h];exact z) λz=>absurd z h⟩
structure nH(K:MW)(H:Hp)(g:Gh)(F:Pr)(ρ:Ro)(σ:L2.St)(i:Nat)(k:Ow)(es:List Ow)(r:Ow)(hd:Hd)(ds:List D)(up:D->D)(a:Addr)(o:HO)(xs:List V)(F':Pr):Prop where
 at_:H a=PU o
 ok:fD K o hd xs
 kids:TrL K H (Sg (g.plus F)) ds es r xs F'
 lab:∀b,F' b->g b=PU (PU i)
 nin:¬F' a
 own:g a=PU (PU i)
 put:∀(o':HO) (hd':Hd) (ds':List D) (xs':List V) (F2 F3:Pr),hd'.mu=PX->fD K o' hd' xs'->(∀xs,o'≠.tup xs)->(∀b,F2 b->F b)->(∀b,F3 b->F' b\/F2 b)->TrL K H (Sg (g.give F2 i)) ds' es r xs' F3->
  SE K (g.give F2 i) (ρ.set i (PU ⟨PY,k,up (.nd hd' ds')⟩)) σ (upd H a o')
theorem FP.node{i:Nat}{Fi:Pr}{hd:Hd}(se:SE K (g.plus F) ρ σ H)(hg:∀b,F b->g b=PV)(e:ρ[i]?=PU (PU ⟨PY,k,d⟩))(hv:σ[i]?=PU (PU v))(lb:∀b,Fi b->(g.plus F) b=PU (PU i))(fp:FP K H (Sg (g.plus F)) k v Fi (.own es r) (.nd hd ds) v1 up)(hm:hd.mu=PX):∃a o xs F',v1=.ref a/\nH K H g F ρ σ i k es r hd ds up a o xs F':=by
 obtain⟨F1,Fr,h1,h2,h3,h4⟩:=fp;unfold Tr at h3;obtain⟨a,o,xs,F',rfl,q1,q2,n1,n2,hF,t⟩:=h3;have gl:∀b,Fi b->g b=PU (PU i):=λb z=>bM (lb b z);have ga:g a=PU (PU i):=gl a ((h1 a).mpr (.inl ((hF a).mpr (.inl ⟨hm,rfl⟩))));have gF:∀b,F' b->g b=PU (PU i):=λb z=>gl b ((h1 b).mpr (.inl ((hF b).mpr (.inr z))));refine⟨a,o,xs,F',rfl,q1,q2,t,gF,n1 hm,ga,λo' hd' ds' xs' F2 F3 hm' ok' nt s2 s3 t'=>?_⟩;have sub:∀b,Sg (g.give F2 i) b->Sg (g.plus F) b:=λb z=>(ar b).mpr ((give_S.mp z).imp id (s2 b));have kb:∀b o2,b≠a->H b=PU o2->upd H a o' b=PU o2:=λb o2 n e=>by rw[ah n];exact e
 have nF2:∀b,F2 b->g b=PV:=λb z=>hg b (s2 b z);have nF3a:¬F3 a:=λz=>(s3 a z).elim (n1 hm) λz=>by rw[nF2 a z] at ga;cases ga
 refine⟨λj sl ej=>?_,λb z=>?_,by simp[se.len]⟩
 ·by_cases hj:j=i
  ·subst hj
   have hlt:j<ρ.length:=by
    have:=(MZ.mp ej).1;simpa using this
   rw[Nd hlt] at ej;cases ej
   have tn:Tr K (upd H a o') (Sg (g.give F2 j)) (.nd hd' ds') (.own es r) (.ref a) (λb=>b=a\/F3 b):=by
    unfold Tr;refine⟨a,o',xs',F3,rfl,am,ok',λ_=>nF3a,λh=>by (rw[hm'] at h;cases h),λb=>⟨λz=>z.imp (λz=>⟨hm',z⟩) id,λz=>z.imp (λz=>z.2) id⟩,t'.go (λb o2 hb e=>kb b o2 (λz=>?_) e) λ_ _ _ n=>n⟩;subst z;rcases hb with hb|hb
    ·exact hb (give_S.mpr (.inl (by rw[Sg,ga];simp)))
    ·exact nF3a hb
   refine⟨v,_,hv,λb z=>?_,h4 (upd H a o') (Sg (g.give F2 j)) _ _ (λb o2 hb e=>kb b o2 (λz=>?_) e) (λb o2 _ n z=>n (sub b z)) tn λb z1 z2=>?_⟩
   ·rcases z with(rfl|z)|z
    ·rw[bF (λz=>by rw[nF2 b z] at ga;cases ga)];exact ga
    ·by_cases z2:F2 b
     ·exact iF z2
     ·rw[bF z2];exact(s3 b z).elim (gF b) λz=>absurd z z2
    ·have:=gl b ((h1 b).mpr (.inr z));rw[bF (λz=>by rw[nF2 b z] at this;cases this)];exact this
   ·subst z;rcases hb with hb|hb
    ·exact hb ((ar b).mpr (.inl (by rw[Sg,ga];simp)))
    ·exact h2 b ((hF b).mpr (.inl ⟨hm,rfl⟩)) hb
   ·rcases z1 with rfl|z1
    ·exact h2 b ((hF b).mpr (.inl ⟨hm,rfl⟩)) z2
    ·rcases s3 b z1 with z|z
     ·exact h2 b ((hF b).mpr (.inr z)) z2
     ·have:=gl b ((h1 b).mpr (.inr z2));rw[nF2 b z] at this;cases this
  ·rw[Nh (Ne.symm hj)] at ej;obtain⟨w,Fj,e1,e2,e3⟩:=se.slot j sl ej;have gj:∀b,Fj b->g b=PU (PU j):=λb z=>bM (e2 b z);refine⟨w,Fj,e1,λb z=>?_,e3.go (λb o2 hb e=>kb b o2 (λz=>?_) e) λb o2 _ n z=>n (sub b z)⟩
   ·have:=gj b z;rw[bF (λz=>by rw[nF2 b z] at this;cases this)];exact this
   ·subst z;rcases hb with hb|hb
    ·exact hb ((ar b).mpr (.inl (by rw[Sg,ga];simp)))
    ·rw[gj b hb] at ga;cases ga;exact hj rfl
 ·by_cases hb:b=a
  ·exact⟨o',by rw[hb];exact am,nt⟩
  ·obtain⟨o2,e2,n⟩:=se.mu b (sub b z);exact⟨o2,kb b o2 hb e2,n⟩
theorem Evo.give{i:Nat}{F2:Pr}(ev:Evo g0 H0 g H F)(s2:∀b,F2 b->F b)(ga:g a=PU (PU i)):Evo g0 H0 (g.give F2 i) (L2.upd H a o') (λ_=>False):=by
 have nF2:∀b,F2 b->g b=PV:=λb z=>(ev.tmp b (s2 b z)).1;refine⟨λb o n e=>?_,λb=>⟨λe=>?_,λe=>?_⟩,λb j e=>?_,λ_ z=>z.elim,λb o e=>?_⟩
 ·rw[ah (λz=>?_)]
  ·exact ev.keep b o n e
  ·subst z;rcases ev.new b i ga with⟨j,q⟩|q
   ·exact n j q
   ·rw[e] at q;cases q
 ·have:=(ev.out b).mp e;rw[bF (λz=>by rw[nF2 b z] at this;cases this)];exact this
 ·by_cases z:F2 b
  ·rw[iF z] at e;cases e
  ·rw[bF z] at e;exact(ev.out b).mpr e
 ·by_cases z:F2 b
  ·exact(ev.tmp b (s2 b z)).2
  ·rw[bF z] at e;exact ev.new b j e
 ·by_cases hb:b=a
  ·exact⟨o',by rw[hb];exact am⟩
  ·obtain⟨o2,q⟩:=ev.dom b o e;exact⟨o2,by rw[ah hb];exact q⟩
end
end J
namespace L2
open PySem PySem.Spec PyProof.Rows
section
variable {X:Cx}
end
end L2
namespace J
open PySem PySem.Spec L2
noncomputable def nI(m:Str)(es:List Ow)(r:Ow)(ds:List D)(as:List KD):Option (D×List D):=
 if m="append" then(match as with|[x]=>if es.length<=ds.length/\dc r x=PX/\ds.length<100000 then PU (.non,ds++[x.2]) else PV|_=>PV)
 else if m="pop" then(match as with
  |[(_,.int z)]=>if l0 (.own es r)=PX/\-(2^63)<=z/\z<2^63 then(match seqIndex? z ds.length with|some j=>(ds[j]?).map λd=>(d,ds.eraseIdx j)|none=>PV) else PV
  |_=>PV)
 else PV
noncomputable def Eu(m:Str):V->List V->Hp->VK->Prop:=
 if m="append" then si else if m="pop" then wK else λ_ _ _ _=>False
section
variable {K:MW} {H:Hp} {g g0:Gh} {H0:Hp} {F F':Pr} {ρ:Ro} {σ:L2.St} {i:Nat} {k:Ow} {es:List Ow} {r:Ow} {ds:List D} {up:D->D} {a:P1} {o:HO} {xs:List V}
theorem sV:g.give (λ_=>False) i=g:=by funext b;exact bF λz=>z
theorem TrL.snoc2:∀{ds:List D} {es:List Ow} {r:Ow} {us:List V} {F F2:Pr} {d:D} {v:V},es.length<=ds.length->TrL K H S ds es r us F->Tr K H S d r v F2->(∀b,F b->¬F2 b)->TrL K H S (ds++[d]) es r (us++[v]) (λb=>F b\/F2 b)
 |[],es,r,us,F,F2,d,v,hl,h,t,dj=>by
  have:es=[]:=List.length_eq_zero_iff.mp (Nat.le_zero.mp hl);subst this;exact TrL.snoc h t dj
 |e::ds,es,r,us,F,F2,d,v,hl,h,t,dj=>by
  unfold TrL at h;obtain⟨y,ys,F1,F3,rfl,hF,dj1,h1,h2⟩:=h;show TrL K H S (e::(ds++[d])) es r (y::(ys++[v])) _;unfold TrL
  refine⟨y,ys++[v],F1,λb=>F3 b\/F2 b,rfl,λb=>?_,λb z1 z2=>?_,h1,TrL.snoc2 (by cases es<;>simp at hl⊢;lia) h2 t λb z=>dj b ((hF b).mpr (.inr z))⟩
  ·show F b\/F2 b↔F1 b\/F3 b\/F2 b;rw[hF b,or_assoc]
  ·rcases z2 with z2|z2
   ·exact dj1 b z1 z2
   ·exact dj b ((hF b).mpr (.inl z1)) z2
theorem TrL.ofFlat:∀{ds:List D} {es:List Ow} {xs:List V},(∀e∈es,e=.fz)->RpL K H S ds xs->TrL K H S ds es .fz xs λ_=>False
 |[],_,_,_,h=>by unfold TrL;exact⟨h.nil_inv,λ_ z=>z⟩
 |d::ds,es,_,he,h=>by
  obtain⟨y,ys,rfl,r,t⟩:=h.cons_inv;unfold TrL
  refine⟨y,ys,_,_,rfl,λb=>⟨.inl,λz=>z.elim id id⟩,λ_ z=>z.elim,?_,TrL.ofFlat (λe q=>he e (by cases es with|nil=>cases q|cons a r=>exact .tail _ q)) t⟩
  have e:es.headD .fz=.fz:=by
   cases es with
   |nil=>rfl
   |cons a r=>exact he a (.head _)
  rw[e];exact Tr.fz r
theorem pq{m:Str}{Q:VK}(h:nI m es r ds as=PU (d',ds'))(nd:nH K H g F ρ σ i k es r .lst ds up a o xs F')(ev:Evo g0 H0 g H F)(se:SE K (g.plus F) ρ σ H)(ra:VRL K H g F as vs F)(q:∀v g' H' Fv,Evo g0 H0 g' H' Fv->SE K (g'.plus Fv) (ρ.set i (PU ⟨PY,k,up (.lst ds')⟩)) σ H'->VR1 K H' g' Fv .sh d' v Fv->Q v H'):Eu m (.ref a) vs H Q:=by
 have ho:o=.lst xs:=nd.ok;subst ho;have hF:∀b,F b->g b=PV:=λb z=>(ev.tmp b z).1;have mm:MuOk H (Sx g F):=λb z=>se.mu b ((ar b).mpr z);have sx:∀b,Sg (g.plus F) b↔Sx g F b:=λb=>ar b
 -- behind the change
 have fin:∀{xs':List V} {F2 F3:Pr} {v:V},(∀b,F2 b->F b)->(∀b,F3 b->F' b\/F2 b)->TrL K H (Sg (g.give F2 i)) ds' es r xs' F3->Rp K (upd H a (.lst xs')) (Sg (g.give F2 i)) d' v->Q v (upd H a (.lst xs')):=λ{xs' F2 F3 v} s2 s3 t rv=>by
  refine q v (g.give F2 i) _ (λ_=>False) (ev.give s2 nd.own) ?_ ⟨λ_ z=>z,rv.weak λb z=>z.elim id λz=>z.elim⟩;rw[aZ λ_ z=>z];exact nd.put (.lst xs') .lst ds' xs' F2 F3 rfl rfl (λ_ h=>by cases h) s2 s3 t
 have old:∀{F2:Pr},(∀b,F2 b->F b)->∀b o,H b=PU o->¬Sg (g.plus F) b->¬Sg (g.give F2 i) b:=λs2 b o _ n z=>n ((ar b).mpr ((give_S.mp z).imp id (s2 b)))
 have flat:l0 (.own es r)=PX->(∀e∈es,e=.fz)/\r=.fz/\RpL K H (Sg g) ds xs:=λhf=>by
  obtain⟨he,hr⟩:=sB hf;refine⟨he,hr,?_⟩;have:=nd.kids;rw[hr] at this;exact(this.flat he).2.weak λb z=>(ar b).mpr (.inl z)
 have rpU:∀{d:D} {v:V} {xs':List V},Rp K H (Sg g) d v->Rp K (upd H a (.lst xs')) (Sg g) d v:=λr=>r.go λb o n e=>⟨by rw[ah (λz=>n (by rw[z,Sg,nd.own];simp))];exact e,n⟩;unfold nI at h;unfold Eu;split at h
 ·rename_i hm;rw[if_pos hm];split at h
  ·rename_i x;split at h
   ·rename_i hc;cases h;obtain⟨y,ys,F1,F2',rfl,hF1,dj,r1,rfl,hn⟩:=ra;have e1:∀b,F b↔F1 b:=λb=>⟨λz=>((hF1 b).mp z).elim id λz=>absurd z (hn b),λz=>(hF1 b).mpr (.inl z)⟩;obtain⟨F2,a1,a2⟩:=VR1.fit hc.2.1 mm (λb z=>hF b ((e1 b).mpr z)) (λb z=>(e1 b).mpr z) r1;refine⟨a,xs,y,rfl,rfl,nd.at_,by rw[nd.kids.len];exact M6 hc.2.2 (bd (M8 _)),?_⟩;refine fin (F2:=F2) (F3:=λb=>F' b\/F2 b) (λb z=>(e1 b).mpr (a1 b z)) (λb z=>z) (TrL.snoc2 hc.1 (nd.kids.go (λ_ _ _ e=>e) (old λb z=>(e1 b).mpr (a1 b z))) (a2 _ λb z=>?_) λb z1 z2=>?_) (by unfold Rp;rfl)
    ·rcases give_S.mp z with z|z
     ·exact .inr (.inl z)
     ·exact .inr (.inr (.inl z))
    ·have:=nd.lab b z1;rw[hF b ((e1 b).mpr (a1 b z2))] at this;cases this
   ·cases h
  ·cases h
 ·rename_i hm;rw[if_neg hm];split at h
  ·rename_i hm4;rw[if_pos hm4];split at h
   ·rename_i kz z;split at h
    ·rename_i hc;obtain⟨he,hr,rl⟩:=flat hc.1;subst hr;obtain⟨v,rfl,rv⟩:=ra.off.one;obtain rfl:=rv.rd.int;split at h
     ·rename_i j hj;obtain⟨dd,hd',e⟩:=aX h;cases e;obtain⟨y,ey,ry⟩:=rl.getD hd';refine⟨a,xs,z,j,y,rfl,rfl,nd.at_,hc.2.1,hc.2.2,by rw[rl.len];exact hj,ey,?_⟩;exact fin (F2:=λ_=>False) (F3:=λ_=>False) (λ_ z=>z.elim) (λ_ z=>z.elim) (by rw[sV];exact .ofFlat he (rl.erase _)) (by rw[sV];exact rpU ry)
     ·cases h
    ·cases h
   ·cases h
  ·cases h
end
noncomputable def mNames:List Str:=["append","pop"]
noncomputable def lD(m:Str)(i:Nat)(p:Option (Ow×D×(D->D)))(as:Option (List KD))(ρ:Ro):MR:=match p,as with
 |some (.own es r,.nd .lst ds,up),PU as=>(match nI m es r ds as,ρ[i]? with
  |some (d',ds'),PU (PU ⟨PY,k,_⟩)=>PU (.sh,d',ρ.set i (PU ⟨PY,k,up (.lst ds')⟩))
  |_,_=>PV)
 |_,_=>PV
section
variable {X:Cx} {Γ:eZ} {c:Cz}
theorem xP{m:Str}(hm:m∈mNames):∃id,Slot "list" m id/\typeOf (.builtin id)=pure (.type "method_descriptor")/\Kb X id (Eu m):=by
 simp only[mNames,M7,NH,or_false] at hm;rcases hm with rfl|rfl
 ·exact⟨_,PySem.F.slot_list_append,PySem.F.type_list_append,lS⟩
 ·exact⟨_,PySem.F.slot_list_pop,PySem.F.type_list_pop,wL⟩
theorem Ev{i:Nat}{m:Str}{b e:P0}{ap cp:Pos}{fp:Ro->Option (Ow×D×(D->D))}{fa:Ro->Option KD}(hm:m∈mNames)(hp:vc X i fp b)(ha:SndE X fa e)(hb:kG b=PX)(hn:ag e=PX)(hl:(ap.endLine==cp.line)=PX):bB X (λρ=>lD m i (fp ρ) (gp (fa ρ) (PU [])) ρ) (.Call (.Attribute b m ap) [e] [] cp):=by
 intro ρ kd d ρ' h g σ H Q se q;dsimp only[lD] at h;split at h
 ·rename_i es r ds up as ep ea;split at h
  ·rename_i d' ds' k dd em ei;cases h;obtain⟨mid,s1,s2,s3⟩:=xP (X:=X) hm;refine aL (BH PySem.F.plainAttrs_list s1 s2 s3 aF (aK aF bJ (ai hn)) (sI hb) (xo hn) hl (ai hn) rfl) (hp ρ _ _ _ ep g σ H _ se λv1 H1 v F k0 d0 sm e1 e2 e3 f1=>?_);rw[ei] at e1;cases e1;unfold gp at ea;split at ea
   ·rename_i x xs' ex exs;cases exs;cases ea;obtain⟨kx,dx⟩:=x;have eg:g.plus (λ_=>False)=g:=aZ λ_ z=>z
    have sq:∃xs,SqL X.K H1 (match v1 with|.ref a=>a|_=>0) xs/\∃a,v1=.ref a:=by
     obtain⟨a,o,xs,F',rfl,nd⟩:=FP.node (F:=λ_=>False) (by rw[eg];exact se.same sm) (λ_ z=>z.elim) ei e2 (by rw[eg];exact e3) (by rw[eg];exact f1) rfl;have ho:o=.lst xs:=nd.ok;subst ho;exact⟨xs,.of nd.at_,a,rfl⟩
    obtain⟨xs0,sq1,a0,rfl⟩:=sq;refine⟨.inl ⟨rfl,xs0,sq1⟩,ha ρ kx dx ex g σ H1 _ (se.same sm) λy H2 s2' r2=>?_⟩;obtain⟨Fy,y1,y2⟩:=r2;have sy:=(se.same sm).plus s2' y1 y2.dom;have hgy:∀b,Fy b->g b=PV:=λb z=>eN (se.same sm).mu (y1 b z);have f2':=f1.same s2'
    have f3:FP X.K H2 (Sg (g.plus Fy)) k v F (.own es r) (.lst ds) (.ref a0) up:=by
     obtain⟨F1,Fr,q1,q2,q3,q4⟩:=f1;have k2:∀b o,H1 b=PU o->¬Sg g b->¬Sg (g.plus Fy) b:=λb o e n z=>((ar b).mp z).elim n λz=>by rw[y1 b z] at e;cases e
     refine⟨F1,Fr,q1,q2,q3.go (λb o _ e=>s2' b o e) k2,λH' S' d1' F1' t1 t2 t3 t4=>q4 H' S' d1' F1' (λb o hb e=>t1 b o (hb.imp (λn=>k2 b o e n) id) (s2' b o e)) (λb o e n=>t2 b o (s2' b o e) (k2 b o e n)) t3 t4⟩
    obtain⟨a,o,xs,F',e4,nd⟩:=FP.node (F:=Fy) sy hgy ei e2 (λb z=>cx (e3 b z) λz2=>by have:=e3 b z;rw[hgy b z2] at this;cases this) f3 rfl;cases e4;exact pq em nd (c5 (sm.trans s2') (λb z=>sm.free (y1 b z)) hgy) sy ⟨y,[],Fy,λ_=>False,rfl,λb=>⟨.inl,λz=>z.elim id λz=>z.elim⟩,λ_ _ z=>z,y2,rfl,λ_ z=>z⟩ q
   ·cases ea
  ·cases h
 ·cases h
noncomputable def pv(m:Str)(i:Nat)(o:Option (Option Sl))(a:MR):MR:=match o,a with
 |some (PU ⟨PY,.own _ _,.nd .lst _⟩),PU (kd,d,ρ1)=>lD m i (mi ρ1[i]?) (PU [(eI kd d,d)]) ρ1
 |_,_=>PV
theorem Ew(O:al X Γ c){i:Nat}{m x:Str}{p:Pos}{e:P0}{ap cp:Pos}{fa:Ro->MR}(hm:m∈mNames)(hc:ef c x=PU i)(ha:bB X fa e)(hb:kG (.Name x p)=PX)(hn:ag e=PX)(hl:(ap.endLine==cp.line)=PX):bB X (λρ=>pv m i ρ[i]? (fa ρ)) (.Call (.Attribute (.Name x p) m ap) [e] [] cp):=by
 intro ρ kd d ρ' h g σ H Q se q;dsimp only[pv] at h;split at h
 ·rename_i es0 r0 ds0 kx dx ρ1 ei ex;obtain⟨mid,s1,s2,s3⟩:=xP (X:=X) hm;obtain⟨v,F,e1,e2,e3⟩:=se.slot i _ ei;have e3':=e3;unfold Tr at e3';obtain⟨a0,o0,xs0,F0',rfl,g1,q1,_⟩:=e3';have q1:o0=.lst xs0:=q1;subst q1;refine aL (BH PySem.F.plainAttrs_list s1 s2 s3 aF (aK aF bJ (ai hn)) (sI hb) (xo hn) hl (ai hn) rfl) (du O hc p e1 ⟨.inl ⟨rfl,xs0,.of g1⟩,ha ρ kx dx ρ1 ex g σ H _ se λy g1 H1 F1 ev se1 r1=>?_⟩);unfold lD at h;split at h
  ·rename_i es r ds up as ep ea;cases ea;split at h
   ·rename_i d' ds' k dd em ei1;cases h;have:mi ρ1[i]?=PU (k,dd,id):=by rw[ei1];rfl
    rw[this] at ep;cases ep;obtain⟨w,Fi,w1,w2,w3⟩:=se1.slot i _ ei1;rw[e1] at w1;cases w1;obtain⟨a,o,xs,F',e4,nd⟩:=FP.node (F:=F1) se1 (λb z=>(ev.tmp b z).1) ei1 e1 w2 (.root w3) rfl;cases e4;exact pq em nd ev se1 ⟨y,[],F1,λ_=>False,rfl,λb=>⟨.inl,λz=>z.elim id λz=>z.elim⟩,λ_ _ z=>z,r1.im se1.mu,rfl,λ_ z=>z⟩ q
   ·cases h
  ·cases h
 ·cases h
end
end J
namespace J
open PySem PySem.Spec L2
section
variable {X:Cx} {Γ:eZ} {c:Cz}
end
end J
namespace J
open PySem PySem.Spec L2
noncomputable abbrev fu:Pr:=λ_=>False
noncomputable def frzI(i:Nat)(ρ:Ro):Ro:=match ρ[i]? with
 |some (PU ⟨PY,.own _ _,.nd hd ds⟩)=>if hd.mu=PX then ρ.set i (PU ⟨PY,.own [] .fz,.nd hd ds⟩) else ρ
 |_=>ρ
noncomputable def frzN:List Nat->Ro->Ro
 |[],ρ=>ρ
 |i::is,ρ=>frzN is (if 1000<=i then frzI (i-1000) ρ else match ρ[i]? with|some (PU ⟨PY,k,d⟩)=>ρ.set i (PU ⟨PY,.fz,d⟩)|_=>ρ)
open Classical in
theorem SE.frzI(i:Nat)(se:SE K g ρ σ H):∃g',SE K g' (frzI i ρ) σ H/\Evo g H g' H fu:=by
 unfold J.frzI;split
 ·rename_i es r hd ds e;split
  ·rename_i hm;obtain⟨v,F0,e1,e2,e3⟩:=se.slot i _ e;have e3:Tr K H (Sg g) (.nd hd ds) (.own es r) v F0:=e3;unfold Tr at e3;obtain⟨a,o,xs,F',rfl,q1,q2,n1,n2,hF,t⟩:=e3;have lab:∀b,F' b->g b=PU (PU i):=λb z=>e2 b ((hF b).mpr (.inr z));have la:g a=PU (PU i):=e2 a ((hF a).mpr (.inl ⟨hm,rfl⟩))
   let g':Gh:=λb=>if F' b then PV else g b
   have g1:∀b,¬F' b->g' b=g b:=λb h=>if_neg h;have g2:∀b,F' b->g' b=PV:=λb h=>if_pos h
   have sub:∀b,Sg g' b->Sg g b/\¬F' b:=λb z=>by
    by_cases h:F' b
    ·exact absurd (g2 b h) z
    ·exact⟨by rw[Sg,<- g1 b h];exact z,h⟩
   refine⟨g',⟨λj sl ej=>?_,λb z=>se.mu b (sub b z).1,by rw[PN];exact se.len⟩,⟨λ_ _ _ e=>e,λb=>⟨λz=>?_,λz=>?_⟩,λb j z=>.inl ⟨j,?_⟩,λ_ z=>z.elim,λ_ o e=>⟨o,e⟩⟩⟩
   ·by_cases hj:j=i
    ·subst hj;have hlt:j<ρ.length:=by have:=(MZ.mp ej).1;simpa using this
     rw[Nd hlt] at ej;cases ej;refine⟨.ref a,λb=>b=a,e1,λb z=>by rw[z,g1 a (n1 hm)];exact la,?_⟩;show Tr K H (Sg g') (.nd hd ds) (.own [] .fz) (.ref a) _;unfold Tr;exact⟨a,o,xs,λ_=>False,rfl,q1,q2,λ_ z=>z,(λh=>by rw[hm] at h;cases h),λb=>⟨λz=>.inl ⟨hm,z⟩,λz=>z.elim (λz=>z.2) λz=>z.elim⟩,.ofFz (t.rp sub)⟩
    ·rw[Nh (Ne.symm hj)] at ej;obtain⟨v,Fj,k1,k2,k3⟩:=se.slot j sl ej;refine⟨v,Fj,k1,λb z=>?_,k3.go (λ_ _ _ e=>e) λb o _ n z=>n (sub b z).1⟩;have:=k2 b z;rw[g1 b λh=>by rw[lab b h] at this;cases this;exact hj rfl];exact this
   ·rw[g1 b λh=>by rw[lab b h] at z;cases z];exact z
   ·by_cases h:F' b
    ·rw[g2 b h] at z;cases z
    ·rw[g1 b h] at z;exact z
   ·by_cases h:F' b
    ·rw[g2 b h] at z;cases z
    ·rw[g1 b h] at z;exact z
  ·exact⟨g,se,.refl g H⟩
 ·exact⟨g,se,.refl g H⟩
theorem SE.frz1{g:Gh}{ρ:Ro}{i:Nat}(se:SE K g ρ σ H)(e:ρ[i]?=PU (PU ⟨PY,k,d⟩)):SE K (g.off i) (ρ.set i (PU ⟨PY,.fz,d⟩)) σ H/\Evo g H (g.off i) H fu:=by
 obtain⟨v,F0,e1,e2,e3⟩:=se.slot i _ e;have r:Rp K H (Sg ((g.off i).plus fu)) d v:=e3.rp λb z=>((ar b).mp z).elim (λz=>⟨(mh z).1,λz2=>(mh z).2 (e2 b z2)⟩) λz=>z.elim
 have:=qW (ρ':=ρ.set i (PU ⟨PY,.fz,d⟩)) (F:=fu) se (λ_ z=>z.elim) (by simp) λj sl e4=>(by
  by_cases hj:j=i
  ·subst hj
   have hlt:j<ρ.length:=by
    have:=(MZ.mp e4).1;simpa using this
   rw[Nd hlt] at e4;cases e4;exact .inr ⟨v,e1,rfl,r⟩
  ·rw[Nh (Ne.symm hj)] at e4;exact .inl ⟨hj,e4⟩)
 rw[aZ λ_ z=>z] at this;exact⟨this,nG λ_ z=>z.elim⟩
theorem SE.frzN{H:Hp}:∀(is:List Nat) {g:Gh} {ρ:Ro},SE K g ρ σ H->∃g',SE K g' (frzN is ρ) σ H/\Evo g H g' H fu
 |[],g,ρ,se=>⟨g,se,.refl g H⟩
 |i::is,g,ρ,se=>by
  unfold J.frzN;by_cases hi:1000<=i
  ·rw[if_pos hi];obtain⟨g1,s1,e1⟩:=se.frzI (i-1000);obtain⟨g2,s2,e2⟩:=SE.frzN is s1;exact⟨g2,s2,kQ e1 e2⟩
  rw[if_neg hi];split
  ·rename_i k d e;obtain⟨s1,e1⟩:=se.frz1 e;obtain⟨g2,s2,e2⟩:=SE.frzN is s1;exact⟨g2,s2,kQ e1 e2⟩
  ·exact SE.frzN is se
inductive BP where
 |nm (i:Nat)
 |ix (b:BP) (e:IE)
 |fld (b:BP) (f:Str)
noncomputable def BP.slot:BP->Nat
 |.nm i=>i
 |.ix b _=>b.slot
 |.fld b _=>b.slot
noncomputable def qX(Γ:Nat->Option Fn):BP->Ro->Option (Ow×D×(D->D))
 |.nm i,ρ=>mi ρ[i]?
 |.ix b e,ρ=>xN (qX Γ b ρ) (aj Γ e ρ)
 |.fld b f,ρ=>PV
mutual
inductive ME where
 |p (e:IE)
 |mv (i:Nat)
 |fz (i:Nat)
 |io (f:Nat) (as:MAs)
 |fn (f:Nat) (as:jx)
 |blt (x:Str) (as:jx)
 |tup (k:Ow) (as:jx)
 |lst (k:Ow) (as:jx)
 |bin (op:Qd) (as:jx)
 |cmp (op:Ql) (as:jx)
 |ix (as:jx)
 |slh (as:jx)
 |ifx (t:MT) (a b:ME)
 |comp (r:Ow) (cap:List (Option Nat)) (tg:IT) (it:MI) (ts:MO) (elt:ME)
 |mut (m:Str) (b:BP) (as:gg)
 |mutM (m:Str) (i:Nat) (a:ME)
 |mutMs (m:Str) (i:Nat) (as:jx)
 |sdf (i:Nat) (k b:IE)
inductive MI where
 |p (it:II)
 |e (a:ME)
 |enm (a:ME)
 |rng (a:ME)
inductive MAs where
 |nil
 |ref (i:Nat) (r:MAs)
 |val (a:ME) (r:MAs)
inductive jx where
 |fin (a:ME) (r:gg)
 |cons (a:ME) (r:jx)
inductive MT where
 |p (e:IE)
 |cmp (op:Ql) (as:jx)
 |not (t:MT)
 |bool (op:BoolOp) (ts:Jw)
 |tru (a:ME)
 |vw (is:List Nat) (e:IE)
inductive Jw where
 |one (t:MT)
 |cons (t:MT) (r:Jw)
inductive MO where
 |non
 |som (t:MT)
end
noncomputable def oS(f:List KD->Option KD)(a:Option (List KD×Ro)):MR:=match a with
 |some (kds,ρ)=>(match f kds with|some (kd,d)=>PU (kd,d,ρ)|none=>PV)
 |none=>PV
noncomputable def BY(op:Ql)(a:Option (List KD×Ro)):Option (Bool×Ro):=match a with
 |some ([x,y],ρ)=>(match cu op x.2 y.2 with|some b=>PU (b,ρ)|none=>PV)
 |_=>PV
noncomputable def HV(a:Option KD)(ρ:Ro):MR:=match a with|some (kd,d)=>PU (kd,d,ρ)|none=>PV
noncomputable def Ma(a:Option Bool)(ρ:Ro):Option (Bool×Ro):=match a with|some b=>PU (b,ρ)|none=>PV
noncomputable def Ex(op:BoolOp)(a:Option (Bool×Ro))(r:Ro->Option (Bool×Ro)):Option (Bool×Ro):=match a with
 |some (x,ρ)=>if(op==.And)=x then r ρ else PU (x,ρ)
 |none=>PV
structure GG where
 fn:Nat->Option Fn
 fm:Nat->Option Fm
mutual
noncomputable def ba(Γ:GG):ME->Ro->MR
 |.p e,ρ=>HV (aj Γ.fn e ρ) ρ
 |.mv i,ρ=>u9 i ρ
 |.fz i,ρ=>va i ρ
 |.io f as,ρ=>Ej (Γ.fm f) (dw Γ as ρ)
 |.fn f as,ρ=>(match Γ.fn f with|some φ=>oS (qN φ) (bC Γ as ρ)|none=>PV)
 |.blt x as,ρ=>PV
 |.tup k as,ρ=>oS (λkds=>il k (PU kds)) (bC Γ as ρ)
 |.lst k as,ρ=>oS (λkds=>ik k (PU kds)) (bC Γ as ρ)
 |.bin op as,ρ=>oS (f2 (dZ op)) (bC Γ as ρ)
 |.cmp op as,ρ=>PV
 |.ix as,ρ=>oS (f2 Jv) (bC Γ as ρ)
 |.slh as,ρ=>PV
 |.ifx t a b,ρ=>PV
 |.comp r cap tg it ts elt,ρ=>gO r (dA Γ it ρ) (gh cap tg (lE Γ ts) (ba Γ elt)) cap
 |.mut m b as,ρ=>lD m b.slot (qX Γ.fn b ρ) (aW Γ.fn as ρ) ρ
 |.mutM m i a,ρ=>pv m i ρ[i]? (ba Γ a ρ)
 |.mutMs m i as,ρ=>PV
 |.sdf i k b,ρ=>PV
noncomputable def dA(Γ:GG):MI->Ro->IR
 |.p it,ρ=>Ek (d6 Γ.fn it ρ) ρ
 |.e a,ρ=>PV
 |.enm a,ρ=>PV
 |.rng a,ρ=>Gg (iu (PU (.sh,.int 0))) (ba Γ a ρ)
noncomputable def dw(Γ:GG):MAs->Ro->Option (List RA×Ro)
 |.nil,ρ=>PU ([],ρ)
 |.ref i r,ρ=>sQ i ρ[i]? (dw Γ r ρ)
 |.val a r,ρ=>sR (ba Γ a ρ) (dw Γ r)
noncomputable def bC(Γ:GG):jx->Ro->Option (List KD×Ro)
 |.fin a r,ρ=>gu (ba Γ a ρ) (aW Γ.fn r)
 |.cons a r,ρ=>gI (ba Γ a ρ) (bC Γ r)
noncomputable def bh(Γ:GG):MT->Ro->Option (Bool×Ro)
 |.p e,ρ=>Ma (bG Γ.fn e ρ) ρ
 |.vw is e,ρ=>PV
 |.cmp op as,ρ=>BY op (bC Γ as ρ)
 |.not t,ρ=>PV
 |.bool op ts,ρ=>PV
 |.tru a,ρ=>PV
noncomputable def HW(Γ:GG)(op:BoolOp):Jw->Ro->Option (Bool×Ro)
 |.one t,ρ=>bh Γ t ρ
 |.cons t r,ρ=>Ex op (bh Γ t ρ) (HW Γ op r)
noncomputable def lE(Γ:GG):MO->Ro->Option (Bool×Ro)
 |.non,ρ=>PU (PX,ρ)
 |.som t,ρ=>bh Γ t ρ
end
section
theorem sW{Γ:GG}:ba Γ (.p e) ρ=HV (aj Γ.fn e ρ) ρ:=rfl
theorem Ey:ba Γ (.mv i) ρ=u9 i ρ:=rfl
theorem Ez:ba Γ (.fz i) ρ=va i ρ:=rfl
theorem qY{Γ:GG}:ba Γ (.io f as) ρ=Ej (Γ.fm f) (dw Γ as ρ):=rfl
theorem qZ{Γ:GG}:ba Γ (.fn f as) ρ=(match Γ.fn f with|some φ=>oS (qN φ) (bC Γ as ρ)|none=>PV):=rfl
theorem Av:ba Γ (.tup k as) ρ=oS (λkds=>il k (PU kds)) (bC Γ as ρ):=rfl
theorem Aw:ba Γ (.lst k as) ρ=oS (λkds=>ik k (PU kds)) (bC Γ as ρ):=rfl
theorem Ax:ba Γ (.bin op as) ρ=oS (f2 (dZ op)) (bC Γ as ρ):=rfl
theorem EA:ba Γ (.ix as) ρ=oS (f2 Jv) (bC Γ as ρ):=rfl
theorem pw:ba Γ (.comp r cap tg it ts elt) ρ=gO r (dA Γ it ρ) (gh cap tg (lE Γ ts) (ba Γ elt)) cap:=rfl
theorem nJ{Γ:GG}:ba Γ (.mut m b as) ρ=lD m b.slot (qX Γ.fn b ρ) (aW Γ.fn as ρ) ρ:=rfl
theorem xQ:ba Γ (.mutM m i a) ρ=pv m i ρ[i]? (ba Γ a ρ):=rfl
end
theorem vd{f:Ro->MR}(h:∀ρ,f ρ=PV):bB X f e:=λρ kd d ρ' hh=>by rw[h] at hh;cases hh
theorem pA{f:Ro->Option (Bool×Ro)}(h:∀ρ,f ρ=PV):e6 X f e:=λρ kd d hh=>by rw[h] at hh;cases hh
theorem BZ{f:Ro->IR}(h:∀ρ,f ρ=PV):iC X f tg e:=λρ bs ds ρ' hh=>by rw[h] at hh;cases hh
noncomputable def nK(f:P0->Option ME)(g:P0->Option IE):List P0->Option jx
 |[]=>PV
 |e::es=>if ag e then(match df g es with
  |some r=>(f e).map λa=>.fin a r
  |none=>(match f e,nK f g es with|some a,PU r=>PU (.cons a r)|_,_=>PV)) else PV
noncomputable def Ca(c:Cz)(f:P0->Option ME):List Bool->List P0->Option MAs
 |_,[]=>PU .nil
 |true::fl,.Name x _::es=>(match ef c x,Ca c f fl es with|some i,PU r=>PU (.ref i r)|_,_=>PV)
 |fl,e::es=>if ag e then(match f e,Ca c f fl.tail es with|some a,PU r=>PU (.val a r)|_,_=>PV) else PV
noncomputable def xR(c:Cz)(f:P0->Option ME)(it:Option II)(tg iter:P0):Option MI:=match it with
 |some it=>PU (.p it)
 |none=>match iter with
  |.Call (.Name x _) [a] [] _=>
   if x="range" then(if eK c.sc "range" && ag a then(f a).map .rng else PV)
   else if x="enumerate" then(if eK c.sc "enumerate" && ag a&&ju tg then(f a).map .enm else PV)
   else(f iter).map .e
  |_=>(f iter).map .e
noncomputable def KO(f:P0->Option MT):List P0->Option Jw
 |[]=>PV
 |[e]=>(f e).map .one
 |e::es=>match f e,KO f es with|some a,PU r=>PU (.cons a r)|_,_=>PV
noncomputable def Gi(c:Cz)(f:P0->Option IE):Nat->P0->Option BP
 |0,_=>PV
 |n+1,e=>match e with
  |.Name x _=>(ef c x).map .nm
  |.Subscript a b _=>if dq b then(match Gi c f n a,f b with|some p,PU e=>PU (.ix p e)|_,_=>PV) else PV
  |_=>PV
noncomputable def KP(m:Str)(b:P0)(ap cp:Pos):Bool:=mNames.contains m&&kG b&&(ap.endLine==cp.line)
noncomputable def KQ(fns:Nms)(c:Cz)(x:Str)(p:Pos):Option ME:=match fns.md p.line p.col with
 |none=>PV
 |some PX=>(ef c x).map .mv
 |some PY=>(ef c x).map .fz
noncomputable def KR(fns:Nms)(c:Cz)(fM:P0->Option ME)(fE:P0->Option IE)(x:Str)(as:List P0):Option ME:=match as with
 |[]=>PV
 |a::es=>if eK c.sc x&&(a::es).all ag then(match bz x fns.fns with
  |some i=>(match fns.io i with
   |some fl=>(Ca c fM fl (a::es)).map (.io i)
   |none=>(nK fM fE (a::es)).map (.fn i))
  |none=>(nK fM fE (a::es)).map (.blt x)) else PV
noncomputable def KS(c:Cz)(fM:P0->Option ME)(fE:P0->Option IE)(b:P0)(m:Str)(ap cp:Pos)(as:List P0):Option ME:=match as with
 |[]=>PV
 |e::es=>match es with
  |_::_=>PV
  |[]=>if KP m b ap cp&&ag e then(match fE e with
   |some e'=>(Gi c fE 6 b).map λp=>.mut m p (.cons e' .nil)
   |none=>(match b with|.Name x _=>(match ef c x,fM e with|some i,PU a=>PU (.mutM m i a)|_,_=>PV)|_=>PV)) else PV
noncomputable def KU(fns:Nms)(c:Cz)(fM:P0->Option ME)(fE:P0->Option IE)(g:P0)(as:List P0)(ks:List Keyword)(cp:Pos):Option ME:=match ks with
 |_::_=>PV
 |[]=>match g with
  |.Name x _=>KR fns c fM fE x as
  |.Attribute b m ap=>KS c fM fE b m ap cp as
  |_=>PV
noncomputable def vf{α:Type}(k:Ql->jx->α)(fM:P0->Option ME)(fE:P0->Option IE)(a:P0)(ops:List Ql)(bs:List P0):Option α:=match ops with
 |[]=>PV
 |op::ops=>match ops with
  |_::_=>PV
  |[]=>match bs with
   |[]=>PV
   |b::bs=>match bs with
    |_::_=>PV
    |[]=>if Qg op b then PV else(nK fM fE [a,b]).map (k op)
noncomputable def jN(f:P0->Option MT):List P0->Option MO
 |[]=>PU .non
 |[e]=>(f e).map .som
 |_=>PV
noncomputable def vg(fns:Nms)(c:Cz)(fM:Cz->P0->Option ME)(fE:Cz->P0->Option IE)(fT:Cz->P0->Option MT)(elt:P0)(gs:List Comprehension)(scope:Qe)(p:Pos):Option ME:=match gs with
 |[]=>PV
 |g::gs=>match gs with
  |_::_=>PV
  |[]=>if g.is_async=0 then(if d4 g.iter&&bO c scope then(match oz ⟨gG scope c.sc,aq scope,ij scope⟩ 4 g.target,xR c (fM c) (Ea c (fE c) g.target g.iter) g.target g.iter,jN (fT ⟨gG scope c.sc,aq scope,ij scope⟩) g.ifs,fM ⟨gG scope c.sc,aq scope,ij scope⟩ elt with
    |some t,PU it,PU ts,PU el=>PU (.comp ((fns.an p.line p.col).getD .fz) (aM c scope) t it ts el)|_,_,_,_=>PV) else PV) else PV
noncomputable def EB:P0->Option P0
 |.Slice PV (PU hi) PV _=>PU hi
 |_=>PV
theorem Ay(h:EB b=PU hi):∃p,b=.Slice PV (PU hi) PV p:=by
 unfold EB at h;split at h
 ·cases h;exact⟨_,rfl⟩
 ·cases h
mutual
noncomputable def cM(fns:Nms):Nat->Cz->P0->Option ME
 |0,_,_=>PV
 |n+1,c,e=>match cE fns n c e with
  |some ie=>PU (.p ie)
  |none=>match e with
   |.Name x p=>KQ fns c x p
   |.Call g as ks cp=>KU fns c (cM fns n c) (cE fns n c) g as ks cp
   |.Tuple es _ p=>(nK (cM fns n c) (cE fns n c) es).map (.tup (fns.kT p))
   |.List es p=>(nK (cM fns n c) (cE fns n c) es).map (.lst (fns.kL p))
   |.BinOp a op b _=>(nK (cM fns n c) (cE fns n c) [a,b]).map (.bin op)
   |.Compare a ops bs _=>vf ME.cmp (cM fns n c) (cE fns n c) a ops bs
   |.Subscript a b _=>if dq b then(nK (cM fns n c) (cE fns n c) [a,b]).map .ix else(match EB b with|some hi=>(nK (cM fns n c) (cE fns n c) [a,hi]).map .slh|none=>PV)
   |.IfExp t a b _=>match v7 fns n c t,cM fns n c a,cM fns n c b with|some t,PU a,PU b=>PU (.ifx t a b)|_,_,_=>PV
   |.ListComp elt gs scope p=>vg fns c (cM fns n) (cE fns n) (v7 fns n) elt gs scope p
   |_=>PV
noncomputable def v7(fns:Nms):Nat->Cz->P0->Option MT
 |0,_,_=>PV
 |n+1,c,e=>match cT fns n c e with
  |some ie=>(match fns.vw e.pos.line e.pos.col with|[]=>PU (.p ie)|i::is=>PU (.vw (i::is) ie))
  |none=>match e with
   |.Compare a ops bs _=>vf MT.cmp (cM fns n c) (cE fns n c) a ops bs
   |.UnaryOp op a _=>(match op with|.Not=>(v7 fns n c a).map .not|_=>PV)
   |.BoolOp op es _=>(KO (v7 fns n c) es).map (.bool op)
   |.Call f as ks p=>(cM fns n c (.Call f as ks p)).map .tru
   |.Subscript a b p=>(cM fns n c (.Subscript a b p)).map .tru
   |.Name x p=>(cM fns n c (.Name x p)).map .tru
   |.Constant k j p=>(cM fns n c (.Constant k j p)).map .tru
   |_=>PV
end
noncomputable def gP(fns:Nms)(Γ:GG):Str->Option (MW->Sp):=λx=>(bz x fns.fns).bind λi=>(Γ.fm i).map λφ=>λK=>BW K φ
noncomputable abbrev a7(fns:Nms)(Γ:GG):eZ:=cz fns Γ.fn (gP fns Γ)
section
variable {X:Cx} {c:Cz} (fns:Nms) (Γ:GG)
theorem nL(O:al X (cz fns Γ.fn fm) c){f:P0->Option ME}{fe:P0->Option IE}(hf:∀e a,f e=PU a->bB X (ba Γ a) e)(hE:∀e ie,fe e=PU ie->SndE X (aj Γ.fn ie) e){tg iter:P0}{it:MI}(h:xR c f (Ea c fe tg iter) tg iter=PU it):iC X (dA Γ it) tg iter:=by
 have pl:∀{it:MI},(f iter).map MI.e=PU it->iC X (dA Γ it) tg iter:=λh=>by
  obtain⟨a,ha,rfl⟩:=aX h
  (refine BZ λρ=>?_;rw[dA])
 unfold xR at h;split at h
 ·rename_i it' hit;cases h
  (rw[show dA Γ (.p it')=λρ=>Ek (d6 Γ.fn it' ρ) ρ by funext ρ;rw[dA]];exact(xG fns Γ.fn O hE hit).m)
 ·split at h
  ·rename_i x p a pos _;split at h
   ·rename_i hx;subst hx;split at h
    ·rename_i hg;rw[MX] at hg;obtain⟨a',ha,rfl⟩:=aX h
     (rw[show dA Γ (.rng a')=λρ=>Gg (iu (PU (.sh,.int 0))) (ba Γ a' ρ) by funext ρ;rw[dA]];exact HU O hg.1 hg.2 (hf _ _ ha))
    ·cases h
   ·split at h
    ·rename_i hx;subst hx;split at h
     ·rename_i hg;rw[MX,MX] at hg;obtain⟨a',ha,rfl⟩:=aX h
      (refine BZ λρ=>?_;rw[dA])
     ·cases h
    ·exact pl h
  ·exact pl h
theorem iG(f:List KD->Option KD)(fa:Ro->Option (List KD×Ro)):(λρ=>oS f (fa ρ))=λρ=>(fa ρ).bind λp=>(f p.1).map λq=>(q.1,q.2,p.2):=by
 funext ρ;unfold oS
 cases fa ρ with
 |none=>rfl
 |some p=>
  obtain⟨kds,ρ'⟩:=p;dsimp only[NO]
  cases f kds with
  |none=>rfl
  |some q=>rfl
theorem EC(h:SndE X (aj Γ.fn ie) e):bB X (ba Γ (.p ie)) e:=by
 have:=h.m
 rw[show(λρ=>(aj Γ.fn ie ρ).map λp=>(p.1,p.2,ρ))=ba Γ (.p ie) by funext ρ;rw[sW];unfold HV;cases aj Γ.fn ie ρ<;>rfl] at this
 exact this
theorem sX{f:P0->Option ME}{g:P0->Option IE}(hf:∀e a,f e=PU a->bB X (ba Γ a) e)(hg:∀e a,g e=PU a->SndE X (aj Γ.fn a) e):∀{es:List P0} {as:jx},nK f g es=PU as->pf X (bC Γ as) es
 |[],as,h=>by cases h
 |e::es,as,h=>by
  unfold nK at h;split at h
  ·rename_i hn;split at h
   ·rename_i r hr;obtain⟨a,ha,rfl⟩:=aX h
    rw[show bC Γ (.fin a r)=λρ=>gu (ba Γ a ρ) (aW Γ.fn r) by funext ρ;conv=>lhs;rw[bC]]
    exact Ei hn (hf _ _ ha) (cZ Γ.fn hg hr).1
   ·split at h
    ·rename_i a r ha hr;cases h
     rw[show bC Γ (.cons a r)=λρ=>gI (ba Γ a ρ) (bC Γ r) by funext ρ;conv=>lhs;rw[bC]]
     exact Ap hn (hf _ _ ha) (sX hf hg hr)
    ·cases h
  ·cases h
theorem xS{f:P0->Option ME}{g:P0->Option IE}(hf:∀e a,f e=PU a->bB X (ba Γ a) e)(hg:∀e a,g e=PU a->SndE X (aj Γ.fn a) e){a b:P0}{as:jx}(h:nK f g [a,b]=PU as):mf X (bC Γ as) a b:=by
 unfold nK at h;split at h
 ·rename_i hn;split at h
  ·rename_i r hr;obtain⟨a',ha,rfl⟩:=aX h;unfold df df at hr;split at hr
   ·split at hr
    ·rename_i b' r' hb' hr';cases hr;cases hr'
     rw[show bC Γ (.fin a' (.cons b' .nil))=λρ=>gu (ba Γ a' ρ) λρ=>gp (aj Γ.fn b' ρ) (PU []) by
      funext ρ;simp only[bC,aW]
      try rfl]
     exact En (hf _ _ ha) (hg _ _ hb')
    ·cases hr
   ·cases hr
  ·split at h
   ·rename_i a' r ha hr;cases h;unfold nK at hr;split at hr
    ·split at hr
     ·rename_i r' hr';cases hr';obtain⟨b',hb,rfl⟩:=aX hr
      rw[show bC Γ (.cons a' (.fin b' .nil))=λρ=>gI (ba Γ a' ρ) λρ=>gu (ba Γ b' ρ) λ_=>PU [] by
       funext ρ;simp only[bC,aW]
       try rfl]
      exact Au (hf _ _ ha) (hf _ _ hb)
     ·rename_i q;exact absurd q (by simp[df])
    ·cases hr
   ·cases h
 ·cases h
theorem ED(O:al X Γt c){f:P0->Option ME}(hf:∀e a,f e=PU a->bB X (ba Γ a) e):∀{fl:List Bool} {es:List P0} {as:MAs},Ca c f fl es=PU as->jw X (dw Γ as) es
 |fl,[],as,h=>by
  have:as=.nil:=by
   unfold Ca at h;cases h;rfl
  subst this;rw[show dw Γ .nil=λρ=>PU ([],ρ) by funext ρ;rw[dw]];exact HL
 |fl,e::es,as,h=>by
  have val:∀{fl':List Bool} {as:MAs},(if ag e then(match f e,Ca c f fl' es with|some a,PU r=>PU (MAs.val a r)|_,_=>PV) else PV)=PU as->jw X (dw Γ as) (e::es):=λh=>by
   split at h
   ·rename_i hn;split at h
    ·rename_i a r ha hr;cases h
     rw[show dw Γ (.val a r)=λρ=>sR (ba Γ a ρ) (dw Γ r) by funext ρ;conv=>lhs;rw[dw]]
     exact HN hn (hf _ _ ha) (ED O hf hr)
    ·cases h
   ·cases h
  unfold Ca at h;split at h
  ·rename_i q;cases q
  ·rename_i fl' x p es' q;cases q;split at h
   ·rename_i i r hi hr;cases h
    rw[show dw Γ (.ref i r)=λρ=>sQ i ρ[i]? (dw Γ r ρ) by funext ρ;conv=>lhs;rw[dw]]
    exact HM O hi (ED O hf hr)
   ·cases h
  ·rename_i fl' e' es' q;cases q;exact val h
theorem aO(a:Evo g H g1 H1 (λ_=>False))(b:Evo g1 H1 g2 H2 F2):Evo g H g2 H2 F2:=by
 have t:=a.trans (F1:=λ_=>False) (g2:=g2) (H2:=H2) (F2:=F2) (by rw[aZ λ_ z=>z];exact b);have e1:g2.minus (λ_=>False)=g2:=by funext c;exact bH λz=>z
 rw[e1] at t;exact t.drop λc z=>.inr z
theorem EE(O:al X Γt c){f:P0->Option IE}(hf:∀e a,f e=PU a->SndE X (aj Γ.fn a) e):∀(n:Nat) {e:P0} {b:BP},Gi c f n e=PU b->vc X b.slot (qX Γ.fn b) e
 |0,e,b,h=>by cases h
 |n+1,e,b,h=>by
  unfold Gi at h;split at h
  ·rename_i x p;obtain⟨i,hi,rfl⟩:=aX h;exact Es O hi p
  ·rename_i a b' p;split at h
   ·rename_i hp;split at h
    ·rename_i q e' hq he;cases h;exact Et O (EE O hf n hq) (hf _ _ he) hp
    ·cases h
   ·cases h
  ·cases h
theorem EF{m:Str}{ap cp:Pos}(h:KP m b ap cp=PX):m∈mNames/\kG b=PX/\(ap.endLine==cp.line)=PX:=by
 simp only[KP,MX] at h;exact⟨by simpa using h.1.1,h.1.2,h.2⟩
theorem KW{x:Str}(O:al X (a7 fns Γ) c)(h:KQ fns c x p=PU a):bB X (ba Γ a) (.Name x p):=by
 unfold KQ at h;split at h
 ·cases h
 ·obtain⟨i,hi,rfl⟩:=aX h
  (rw[show ba Γ (.mv i)=u9 i from funext λ_=>rfl];exact HR O hi p)
 ·obtain⟨i,hi,rfl⟩:=aX h
  (rw[show ba Γ (.fz i)=va i from funext λ_=>rfl];exact HS O hi p)
theorem HX(O:al X (a7 fns Γ) c){fM:P0->Option ME}(hM:∀e a,fM e=PU a->bB X (ba Γ a) e){x:Str}{p pos:Pos}{a':P0}{es:List P0}{fl:List Bool}{i:Nat}{a:ME}(h:(Ca c fM fl (a'::es)).map (.io i)=PU a)(h1:eK c.sc x=PX)(h2:ag a'=PX)(h3:es.all ag=PX)(hi:bz x fns.fns=PU i):bB X (ba Γ a) (.Call (.Name x p) (a'::es) [] pos):=by
 obtain⟨as,ha,rfl⟩:=aX h
 first
  |(exact vd λ_=>rfl)
  |(cases hφ:Γ.fm i with
   |none=>
    intro ρ kd d ρ' hh;rw[qY,hφ] at hh;cases hh
   |some φ=>
    rw[show ba Γ (.io i as)=λρ=>Ej (PU φ) (dw Γ as ρ) by funext ρ;rw[qY,hφ]];refine KN O (φ:=φ) ?_ h1 h2 h3 (ED Γ O hM ha);show gP fns Γ x=_;unfold gP;rw[hi,NO,hφ];rfl)
theorem KY(O:al X (a7 fns Γ) c){fM:P0->Option ME}{fE:P0->Option IE}(hM:∀e a,fM e=PU a->bB X (ba Γ a) e)(hE:∀e ie,fE e=PU ie->SndE X (aj Γ.fn ie) e){x:Str}{p:Pos}{as:List P0}{pos:Pos}{a:ME}(h:KR fns c fM fE x as=PU a):bB X (ba Γ a) (.Call (.Name x p) as [] pos):=by
 cases as with
 |nil=>cases h
 |cons a' es=>
  dsimp only[KR] at h;split at h
  ·rename_i hg;rw[MX,N9,MX] at hg;split at h
   ·rename_i i hi;split at h
    ·rename_i fl hfl;exact HX fns Γ O hM h hg.1 hg.2.1 hg.2.2 hi
    ·obtain⟨as,ha,rfl⟩:=aX h
     first
     |(exact vd λ_=>rfl)
     |cases hφ:Γ.fn i with
      |none=>
       intro ρ kd d ρ' hh;rw[qZ,hφ] at hh;cases hh
      |some φ=>
       rw[show ba Γ (.fn i as)=λρ=>oS (qN φ) (bC Γ as ρ) by funext ρ;rw[qZ,hφ],iG];refine(KM O (φ:=φ) ?_ hg.1 hg.2.1 hg.2.2).m (sX Γ hM hE ha);show(bz x fns.fns).bind Γ.fn=_;rw[hi];exact hφ
   ·obtain⟨as,ha,rfl⟩:=aX h;exact vd λ_=>rfl
  ·cases h
theorem KZ(O:al X (a7 fns Γ) c){fM:P0->Option ME}{fE:P0->Option IE}(hM:∀e a,fM e=PU a->bB X (ba Γ a) e)(hE:∀e ie,fE e=PU ie->SndE X (aj Γ.fn ie) e){b:P0}{m:Str}{ap cp:Pos}{as:List P0}{a:ME}(h:KS c fM fE b m ap cp as=PU a):bB X (ba Γ a) (.Call (.Attribute b m ap) as [] cp):=by
 cases as with
 |nil=>cases h
 |cons e es=>cases es with
  |cons _ _=>cases h
  |nil=>
   dsimp only[KS] at h;split at h
   ·rename_i hk;rw[MX] at hk;obtain⟨h1,h2,h3⟩:=EF hk.1;split at h
    ·rename_i e' he;obtain⟨p,hp,rfl⟩:=aX h
     (rw[show ∀m,ba Γ (.mut m p (.cons e' .nil))=λρ=>lD m p.slot (qX Γ.fn p ρ) (gp (aj Γ.fn e' ρ) (PU [])) ρ by intro m;funext ρ;rw[nJ,aW,aW]];exact Ev h1 (EE Γ O hE _ hp) (hE _ _ he) h2 hk.2 h3)
    ·split at h
     ·split at h
      ·rename_i i a' hi ha;cases h
       (rw[show ∀m,ba Γ (.mutM m i a')=λρ=>pv m i ρ[i]? (ba Γ a' ρ) by intro m;exact funext λ_=>rfl];exact Ew O h1 hi (hM _ _ ha) h2 hk.2 h3)
      ·cases h
     ·cases h
   ·cases h
theorem K0(O:al X (a7 fns Γ) c){fM:P0->Option ME}{fE:P0->Option IE}(hM:∀e a,fM e=PU a->bB X (ba Γ a) e)(hE:∀e ie,fE e=PU ie->SndE X (aj Γ.fn ie) e){g:P0}{as:List P0}{ks:List Keyword}{pos:Pos}{a:ME}(h:KU fns c fM fE g as ks pos=PU a):bB X (ba Γ a) (.Call g as ks pos):=by
 cases ks with
 |cons _ _=>cases h
 |nil=>
  dsimp only[KU] at h;split at h
  ·exact KY fns Γ O hM hE h
  ·exact KZ fns Γ O hM hE h
  ·cases h
theorem sY{α:Type}{k:Ql->jx->α}{fM:P0->Option ME}{fE:P0->Option IE}{a:P0}{ops:List Ql}{bs:List P0}{r:α}(h:vf k fM fE a ops bs=PU r):∃op b as,ops=[op]/\bs=[b]/\Qg op b=PY/\nK fM fE [a,b]=PU as/\r=k op as:=by
 cases ops with
 |nil=>cases h
 |cons op ops=>cases ops with
  |cons _ _=>cases h
  |nil=>cases bs with
   |nil=>cases h
   |cons b bs=>cases bs with
    |cons _ _=>cases h
    |nil=>
     dsimp only[vf] at h;split at h
     ·cases h
     ·rename_i hm;obtain⟨as,ha,rfl⟩:=aX h;exact⟨op,b,as,rfl,rfl,by simpa using hm,ha,rfl⟩
theorem sZ{fM:Cz->P0->Option ME}{fE:Cz->P0->Option IE}{fT:Cz->P0->Option MT}{p:Pos}(h:vg fns c fM fE fT elt gs scope p=PU a):∃tg iter ifs t it ts el,gs=[⟨tg,iter,ifs,0⟩]/\d4 iter=PX/\bO c scope=PX/\oz ⟨gG scope c.sc,aq scope,ij scope⟩ 4 tg=PU t/\xR c (fM c) (Ea c (fE c) tg iter) tg iter=PU it/\jN (fT ⟨gG scope c.sc,aq scope,ij scope⟩) ifs=PU ts/\fM ⟨gG scope c.sc,aq scope,ij scope⟩ elt=PU el/\a=.comp ((fns.an p.line p.col).getD .fz) (aM c scope) t it ts el:=by
 cases gs with
 |nil=>cases h
 |cons g gs=>cases gs with
  |cons _ _=>cases h
  |nil=>
   dsimp only[vg] at h;split at h
   ·rename_i h0;split at h
    ·rename_i hn;rw[MX] at hn;split at h
     ·rename_i t it ts el ht hit hts hel;cases h
      cases g with
      |mk tg iter ifs as=>
       subst h0;exact⟨tg,iter,ifs,t,it,ts,el,rfl,hn.1,hn.2,ht,hit,hts,hel,rfl⟩
     ·cases h
    ·cases h
   ·cases h
theorem EG(O:al X Γt c){op:Ql}{as:jx}{x b:P0}{p:Pos}(hm:Qg op b=PY)(h:mf X (bC Γ as) x b):e6 X (bh Γ (.cmp op as)) (.Compare x [op] [b] p):=by
  first
    |(refine pA λρ=>?_;rw[bh];done)
    | (have:=Eo (pos:=p) O hm h
       have e:bh Γ (.cmp op as)=λρ=>((bC Γ as ρ).bind λp=>(match p.1 with|[x,y]=>(cu op x.2 y.2).map λb=>(b,p.2)|_=>PV)):=by
         funext ρ;rw[bh];unfold BY
         cases bC Γ as ρ with
         |none=>rfl
         |some p=>
           obtain⟨kds,ρ'⟩:=p;dsimp only[NO]
           match kds with
           |[]=>rfl
           |[_]=>rfl
           |[x,y]=>dsimp only;cases cu op x.2 y.2<;>rfl
           |_::_::_::_=>rfl
       rw[e];exact this)
theorem iW{f:P0->Option ME}(hM:∀e a,f e=PU a->bB X (ba Γ a) e){e:P0}{t:MT}(h:(f e).map MT.tru=PU t)(hp:∀whole,isTrue e X.env whole=(do let v <- whole;standAt e.pos;holding [v] (truthy v))):e6 X (bh Γ t) e:=by
 obtain⟨a',ha,rfl⟩:=aX h
 (refine pA λρ=>?_;rw[bh])
theorem pB{f:P0->Option MT}(hf:∀e t,f e=PU t->e6 X (bh Γ t) e){o:List P0}{io:MO}(h:jN f o=PU io):kR X (lE Γ io) o:=by
 unfold jN at h;split at h
 ·cases h;have e:lE Γ .non=λρ=>PU (PX,ρ):=by funext ρ;rw[lE]
  rw[e];exact El
 ·obtain⟨a,ha,rfl⟩:=aX h;have e:lE Γ (.som a)=bh Γ a:=by funext ρ;rw[lE]
  rw[e];exact Em (hf _ _ ha)
 ·cases h
theorem c8:∀n:Nat,(∀X c,al X (a7 fns Γ) c->∀e a,cM fns n c e=PU a->bB X (ba Γ a) e)/\(∀X c,al X (a7 fns Γ) c->∀e t,v7 fns n c e=PU t->e6 X (bh Γ t) e)
 |0=>⟨λX c O e a h=>by (cases(show(PV:Option ME)=PU a from h)),λX c O e a h=>by (cases(show(PV:Option MT)=PU a from h))⟩
 |n+1=>by
  obtain⟨ihM,ihT⟩:=c8 n;have pure:=bR (fm:=gP fns Γ) fns Γ.fn n;refine⟨λX c O e a h=>?_,λX c O e a h=>?_⟩
  ·have hE:=pure.1 X c O;have hM:=ihM X c O;have hT:=ihT X c O
   replace h:(match cE fns n c e with|some ie=>PU (ME.p ie)|none=>_)=PU a:=h
   split at h
   ·rename_i ie hi;cases h;exact EC Γ (hE _ _ hi)
   ·cases e with
    |Name x p=>exact KW fns Γ O h
    |Call g as ks pos=>exact K0 fns Γ O hM hE h
    |Tuple es k p=>
     obtain⟨as,ha,rfl⟩:=aX (show(nK (cM fns n c) (cE fns n c) es).map (.tup (fns.kT p))=PU a from h)
     (rw[show ∀k,ba Γ (.tup k as)=λρ=>oS (λkds=>il k (PU kds)) (bC Γ as ρ) by intro k;exact funext λ_=>rfl,iG];exact n_tup.m (sX Γ hM hE ha))
    |List es p=>
     obtain⟨as,ha,rfl⟩:=aX (show(nK (cM fns n c) (cE fns n c) es).map (.lst (fns.kL p))=PU a from h)
     (rw[show ∀k,ba Γ (.lst k as)=λρ=>oS (λkds=>ik k (PU kds)) (bC Γ as ρ) by intro k;exact funext λ_=>rfl,iG];exact n_lst.m (sX Γ hM hE ha))
    |BinOp x op y p=>
     obtain⟨as,ha,rfl⟩:=aX (show(nK (cM fns n c) (cE fns n c) [x,y]).map (.bin op)=PU a from h)
     (rw[show ∀op,ba Γ (.bin op as)=λρ=>oS (f2 (dZ op)) (bC Γ as ρ) by intro k;exact funext λ_=>rfl,iG];exact n_bin.m (xS Γ hM hE ha))
    |Compare x ops bs p=>
     obtain⟨op,b,as,rfl,rfl,hm,ha,rfl⟩:=sY (show vf ME.cmp (cM fns n c) (cE fns n c) x ops bs=PU a from h);exact vd λ_=>rfl
    |Subscript x b p=>
     dsimp only at h;split at h
     ·rename_i hp;obtain⟨as,ha,rfl⟩:=aX h
      (rw[show ba Γ (.ix as)=λρ=>oS (f2 Jv) (bC Γ as ρ) by exact funext λ_=>rfl,iG];exact(KL O hp).m (xS Γ hM hE ha))
     ·split at h
      ·rename_i hi hhi;obtain⟨p2,rfl⟩:=Ay hhi;obtain⟨as,ha,rfl⟩:=aX h;exact vd λ_=>rfl
      ·cases h
    |IfExp t x b p=>
     dsimp only at h;split at h
     ·rename_i t' a' b' ht ha hb;cases h;exact vd λ_=>rfl
     ·cases h
    |ListComp elt gs scope p=>
     obtain⟨tg,iter,ifs,t,it,ts,el,rfl,hn1,hn2,ht,hit,hts,hel,rfl⟩:=sZ fns (show vg fns c (cM fns n) (cE fns n) (v7 fns n) elt gs scope p=PU a from h);have CO:=fZ O hn2
     (rw[show ∀r cap,ba Γ (.comp r cap t it ts el)=λρ=>gO r (dA Γ it ρ) (gh cap t (lE Γ ts) (ba Γ el)) cap by intro r cap;exact funext λ_=>rfl];exact At O hn2 hn1 (nL fns Γ O hM hE hit) ht (λC s H ex=>pB Γ (ihT _ _ (CO C s H ex)) hts) (λC s H ex=>ihM _ _ (CO C s H ex) _ _ hel))
    |_=>cases h
  ·have hE:=pure.1 X c O;have hM:=ihM X c O;have hT:=ihT X c O
   replace h:(match cT fns n c e with|some ie=>(match fns.vw e.pos.line e.pos.col with|[]=>PU (MT.p ie)|i::is=>PU (MT.vw (i::is) ie))|none=>_)=PU a:=h
   split at h
   ·rename_i ie hi;split at h
    ·cases h;have:=(pure.2 X c O _ _ hi).m
     rw[show(λρ=>(bG Γ.fn ie ρ).map λp=>(p,ρ))=bh Γ (.p ie) by funext ρ;rw[bh];unfold Ma;cases bG Γ.fn ie ρ<;>rfl] at this
     exact this
    ·rename_i i is _;cases h
     (refine pA λρ=>?_;rw[bh])
   ·cases e with
    |Compare x ops bs p=>
     obtain⟨op,b,as,rfl,rfl,hm,ha,rfl⟩:=sY (show vf MT.cmp (cM fns n c) (cE fns n c) x ops bs=PU a from h);exact EG Γ O hm (xS Γ hM hE ha)
    |UnaryOp op x p=>cases op with
     |Not=>
      obtain⟨t,ht,rfl⟩:=aX (show(v7 fns n c x).map .not=PU a from h)
      (refine pA λρ=>?_;rw[bh])
     |_=>cases h
    |BoolOp op es p=>
     obtain⟨ts,ht,rfl⟩:=aX (show(KO (v7 fns n c) es).map (.bool op)=PU a from h)
     (refine pA λρ=>?_;rw[bh])
    |Call f as ks p=>exact iW Γ hM (show(cM fns n c (.Call f as ks p)).map .tru=PU a from h) (λ_=>rfl)
    |Subscript x b p=>exact iW Γ hM (show(cM fns n c (.Subscript x b p)).map .tru=PU a from h) (λ_=>rfl)
    |Name x p=>exact iW Γ hM (show(cM fns n c (.Name x p)).map .tru=PU a from h) (λ_=>rfl)
    |Constant k j p=>exact iW Γ hM (show(cM fns n c (.Constant k j p)).map .tru=PU a from h) (λ_=>rfl)
    |_=>cases h
end
end J
namespace J
open PySem PySem.Spec L2
inductive Res where
 |nx (ρ:Ro)|rt (kd:Kd) (d:D) (ρ:Ro)|ct (ρ:Ro)|bk (ρ:Ro)
noncomputable def PinOk(pn:List Nat)(σ σ':L2.St):Prop:=∀i∈pn,σ'[i]?=σ[i]?
noncomputable def EndM(K:MW)(pn:List Nat)(g:Gh)(H:Hp)(σ:L2.St)(Dn:di):Res->Prop
 |.nx ρ'=>∀σ' g' H',Evo g H g' H' fu->SE K g' ρ' σ' H'->PinOk pn σ σ'->Dn.nx σ' H'
 |.rt kd d ρ'=>∀v σ' g' H' F,Evo g H g' H' F->SE K (g'.plus F) ρ' σ' H'->PinOk pn σ σ'->VR1 K H' g' F kd d v F->Dn.rt v H'
 |.ct ρ'=>∀σ' g' H',Evo g H g' H' fu->SE K g' ρ' σ' H'->PinOk pn σ σ'->Dn.ct σ' H'
 |.bk ρ'=>∀σ' g' H',Evo g H g' H' fu->SE K g' ρ' σ' H'->PinOk pn σ σ'->Dn.bk σ' H'
noncomputable def qe(X:Cx)(st:List P9):TS:=λDn σ H=>∀pins s,Inv X pins σ H s->P4 (P5 X.prog X.w) X.A (execs st X.env) (SP X pins Dn) X.xe s
noncomputable def Gj(X:Cx)(st:P9):TS:=λDn σ H=>∀pins s,Inv X pins σ H s->P4 (P5 X.prog X.w) X.A (exec st X.env) (SP X pins Dn) X.xe s
theorem bS:PSs X st (qe X st):=λpins s σ H D I h=>h pins s I
theorem EH:PS X st (Gj X st):=λpins s σ H D I h=>h pins s I
theorem bP{t:TS}(p:PS X st t){Dn:di}{σ:L2.St}{H:Hp}(h:t Dn σ H):Gj X st Dn σ H:=λpins s I=>p pins s σ H Dn I h
theorem dM{t:TS}(p:PSs X st t){Dn:di}{σ:L2.St}{H:Hp}(h:t Dn σ H):qe X st Dn σ H:=λpins s I=>p pins s σ H Dn I h
noncomputable def SndS(X:Cx)(pn:List Nat)(f:Ro->Option Res)(st:P9):Prop:=∀ρ r,f ρ=PU r->∀g σ H Dn,SE X.K g ρ σ H->EndM X.K pn g H σ Dn r->Gj X st Dn σ H
noncomputable def SndB(X:Cx)(pn:List Nat)(f:Ro->Option Res)(st:List P9):Prop:=∀ρ r,f ρ=PU r->∀g σ H Dn,SE X.K g ρ σ H->EndM X.K pn g H σ Dn r->qe X st Dn σ H
section
variable {K:MW} {H H' H1:Hp} {g g' g1:Gh} {F F1 F2:Pr} {ρ:Ro} {σ σ' σ1:L2.St} {pn:List Nat}
theorem PinOk.refl:PinOk pn σ σ:=λ_ _=>rfl
theorem PinOk.trans(a:PinOk pn σ σ1)(b:PinOk pn σ1 σ2):PinOk pn σ σ2:=λi h=>(b i h).trans (a i h)
theorem PinOk.set{i:Nat}(h:i∉pn):PinOk pn σ (σ.set i v):=λj hj=>Nh λz=>h (by rw[z];exact hj)
theorem EndM.from(h:EndM K pn g H σ Dn r)(ev:Evo g H g1 H1 fu)(pk:PinOk pn σ σ1):EndM K pn g1 H1 σ1 Dn r:=by
 cases r with
 |nx ρ'=>exact λσ' g' H' e s p=>h σ' g' H' (aO ev e) s (pk.trans p)
 |rt kd d ρ'=>exact λv σ' g' H' F e s p r=>h v σ' g' H' F (aO ev e) s (pk.trans p) r
 |ct ρ'=>exact λσ' g' H' e s p=>h σ' g' H' (aO ev e) s (pk.trans p)
 |bk ρ'=>exact λσ' g' H' e s p=>h σ' g' H' (aO ev e) s (pk.trans p)
theorem HY{i:Nat}{S:Pr}(ev:Evo g H g1 H1 F)(se:SE K (g1.plus F) ρ σ H1)(hF:∀b,F b↔F1 b\/F2 b)(dj:∀b,F1 b->¬F2 b)(hS:∀b,Sx g1 F b->S b)(t:Tr K H1 S d k v F1) :
  Evo g H (g1.give F1 i) H1 F2/\SE K ((g1.give F1 i).plus F2) (ρ.set i (PU ⟨PY,k,d⟩)) (σ.set i (PU v)) H1/\∀b,Sx (g1.give F1 i) F2 b↔Sx g1 F b:=by
 have n1:∀b,F1 b->g1 b=PV:=λb z=>(ev.tmp b ((hF b).mpr (.inl z))).1
 have hs:∀b,Sx (g1.give F1 i) F2 b↔Sx g1 F b:=λb=>by
  unfold Sx;rw[hF b];constructor
  ·rintro (z|z)
   ·exact(give_S.mp z).imp id .inl
   ·exact .inr (.inr z)
  ·rintro (z|z|z)
   ·exact .inl (give_S.mpr (.inl z))
   ·exact .inl (give_S.mpr (.inr z))
   ·exact .inr z
 have hp:∀b,Sg ((g1.give F1 i).plus F2) b↔Sx g1 F b:=λb=>(ar b).trans (hs b);have sub:∀b,Sg ((g1.give F1 i).plus F2) b->Sg (g1.plus F) b:=λb z=>(ar b).mpr ((hp b).mp z);refine⟨⟨ev.keep,λb=>⟨λe=>?_,λe=>?_⟩,λb j e=>?_,λb z=>?_,ev.dom⟩,⟨λj sl e=>?_,λb z=>se.mu b (sub b z),by simp[se.len]⟩,hs⟩
 ·have:=(ev.out b).mp e;rw[bF (λz=>by rw[n1 b z] at this;cases this)];exact this
 ·by_cases z:F1 b
  ·rw[iF z] at e;cases e
  ·rw[bF z] at e;exact(ev.out b).mpr e
 ·by_cases z:F1 b
  ·exact(ev.tmp b ((hF b).mpr (.inl z))).2
  ·rw[bF z] at e;exact ev.new b j e
 ·have:=ev.tmp b ((hF b).mpr (.inr z));exact⟨by rw[bF λz1=>dj b z1 z];exact this.1,this.2⟩
 ·by_cases hj:j=i
  ·subst hj
   have hlt:j<ρ.length:=by
    have:=(MZ.mp e).1;simpa using this
   rw[Nd hlt] at e;cases e;refine⟨v,F1,Nd (by rw[<- se.len];exact hlt),λb z=>cx (iF z) (dj b z),t.go (λ_ _ _ e=>e) λb o _ n z=>n (hS b ((hp b).mp z))⟩
  ·rw[Nh (Ne.symm hj)] at e⊢;obtain⟨w,Fj,e1,e2,e3⟩:=se.slot j sl e;refine⟨w,Fj,e1,λb z=>?_,e3.go (λ_ _ _ e=>e) λb o _ n z=>n (sub b z)⟩;have q:=bM (e2 b z);have nF:¬F b:=λz2=>by rw[(ev.tmp b z2).1] at q;cases q
   refine cx ?_ λz2=>nF ((hF b).mpr (.inr z2));rw[bF λz2=>nF ((hF b).mpr (.inl z2))];exact q
noncomputable def HZ:Kd->Ow
 |.fr k=>k
 |_=>.fz
theorem VR1.tr(hb:bX kd=PY)(h:VR1 K H g F kd d v F):Tr K H (Sx g F) d (HZ kd) v F:=by
 cases kd with
 |sh=>
  have e:F=fu:=by funext b;exact propext ⟨h.1 b,λz=>z.elim⟩
  rw[show HZ .sh=.fz from rfl];have:=Tr.fz h.2;rw[e] at this⊢;exact this
 |fr k=>exact h
 |bo i k=>cases hb
end
noncomputable def eP:P0->Bool
 |.ListComp ..|.SetComp ..|.DictComp ..=>PY
 |_=>PX
theorem f9{n:Nat}(h:eP e=PX):swapsWith e t n env=pure PY:=by
 cases e<;>first|rfl|cases h
noncomputable def tf:P0->Bool
 |.Tuple ..=>PY
 |_=>PX
theorem gQ{k:Nat}{n:Nat}:swapsWithSole [.Tuple es k tp] e n env=pure PY:=by
 cases e<;>rfl
theorem kS{k:Nat}(h:tf e=PX):swappedStores [.Tuple es k tp] e env=pure PV:=by
 cases e<;>first|rfl|cases h
noncomputable def q0(pn:List Nat)(i:Nat)(a:MR):Option Res:=match a with
 |some (kd,d,ρ1)=>if bX (eI kd d)=PX\/i∈pn then PV else PU (.nx (ρ1.set i (PU ⟨PY,HZ (eI kd d),d⟩)))
 |none=>PV
section
variable {X:Cx} {Γ:eZ} {c:Cz} {pn:List Nat}
theorem kU{g g1:Gh}{σ:L2.St}{i:Nat}{Dn:di}(h:q0 pn i (PU (kd,d,ρ1))=PU r)(q:EndM K pn g H σ Dn r)(ev:Evo g H g1 H1 F)(se:SE K (g1.plus F) ρ1 σ H1)(vr:VR1 K H1 g1 F kd d v F):Dn.nx (σ.set i (PU v)) H1:=by
 unfold q0 at h;dsimp only at h;split at h
 ·cases h
 ·rename_i hb;cases h;rw[not_or] at hb;have vr1:=vr.im se.mu;obtain⟨c1,c2,_⟩:=HY (i:=i) (F2:=fu) ev se (λb=>⟨.inl,λz=>z.elim id λz=>z.elim⟩) (λ_ _ z=>z) (λ_ z=>z) (vr1.tr (by simpa using hb.1));exact q _ _ H1 c1 (by rw[aZ λ_ z=>z] at c2;exact c2) (PinOk.set hb.2)
theorem H9(O:al X Γ c){f:Ro->MR}{x:Str}{i:Nat}{e:P0}{p pos:Pos}(hl:nr c x=PX)(hi:bz x c.N=PU i)(hn:eP e=PX)(hf:bB X f e):SndS X pn (λρ=>q0 pn i (f ρ)) (.Assign [.Name x p] e pos):=by
 intro ρ r h g σ H Dn se q;have l:=i4 O hl
 cases hf':f ρ with
 |none=>dsimp only at h;rw[hf'] at h;cases h
 |some w=>
  obtain⟨kd,d,ρ1⟩:=w;dsimp only at h;rw[hf'] at h;exact bP (ki (i:=i) (by rw[O.N];exact O.nd) (by rw[O.N];exact bf hi) l.1 aF (f9 hn) l.2) (hf ρ kd d ρ1 hf' g σ H _ se λv g1 H1 F ev se1 vr=>kU h q ev se1 vr)
noncomputable def EI:List Nat->wv
 |[]=>C8
 |i::is=>ww (kh i) (EI is)
noncomputable def lF:List Nat->List D->List Ow->Ow->Ro->Ro
 |i::is,d::ds,es,r,ρ=>lF is ds es.tail r (ρ.set i (PU ⟨PY,es.headD r,d⟩))
 |_,_,_,_,ρ=>ρ
theorem iH{H H1:Hp}{Q:L2.St->Hp->Prop}:∀{is:List Nat} {ds:List D} {es:List Ow} {r:Ow} {vs:List V} {g1:Gh} {F S:Pr} {ρ:Ro} {σ:L2.St},is.length=ds.length->(∀i∈is,i∉pn)->Evo g H g1 H1 F->SE K (g1.plus F) ρ σ H1->(∀b,Sx g1 F b->S b)->TrL K H1 S ds es r vs F->PinOk pn σ0 σ->
  (∀g2 σ2,Evo g H g2 H1 fu->SE K g2 (lF is ds es r ρ) σ2 H1->PinOk pn σ0 σ2->Q σ2 H1)->EI is vs σ H1 Q
 |[],[],es,r,vs,g1,F,S,ρ,σ,hl,hp,ev,se,hS,t,pk,q=>by
  unfold TrL at t;have e:F=fu:=by funext b;exact propext ⟨t.2 b,λz=>z.elim⟩
  subst e;exact⟨t.1,q g1 σ ev (by rw[aZ λ_ z=>z] at se;exact se) pk⟩
 |[],_::_,_,_,_,_,_,_,_,_,hl,_,_,_,_,_,_,_=>by simp at hl
 |_::_,[],_,_,_,_,_,_,_,_,hl,_,_,_,_,_,_,_=>by simp at hl
 |i::is,d::ds,es,r,vs,g1,F,S,ρ,σ,hl,hp,ev,se,hS,t,pk,q=>by
  unfold TrL at t;obtain⟨y,ys,F1,F2,rfl,hF,dj,t1,t2⟩:=t;obtain⟨c1,c2,c3⟩:=HY (i:=i) ev se hF dj hS t1;exact⟨y,ys,rfl,iH (by simpa using hl) (λj hj=>hp j (Ng _ hj)) c1 c2 (λb z=>hS b ((c3 b).mp z)) t2 (pk.trans (PinOk.set (hp i Nm))) q⟩
noncomputable def fL(kd:Kd)(ds:List D):Option (List Ow×Ow):=match kd with
 |.sh=>PU ([],.fz)
 |.fr (.own es r)=>PU (es,r)
 |.fr .fz=>PU ([],.fz)
 |.bo _ _=>if zL ds=PX then PU ([],.fz) else PV
theorem VR1.parts{H:Hp}{F:Pr}(hh:hd=.tup\/hd=.lst)(hk:fL kd ds=PU (es,r))(m:MuOk H (Sx g F))(h:VR1 K H g F kd (.nd hd ds) v F):∃a o xs F',v=.ref a/\H a=PU o/\fD K o hd xs/\(∀b,F' b->F b)/\TrL K H (Sx g F) ds es r xs F':=by
 have fl:∀{d:List D} {xs:List V},RpL K H (Sx g F) d xs->TrL K H (Sx g F) d [] .fz xs fu:=λh=>.ofFlat (λe z=>by cases z) h
 cases kd with
 |sh=>
  cases hk;obtain⟨a,o,xs,rfl,_,g1,q1,rl⟩:=h.2.nd;exact⟨a,o,xs,fu,rfl,g1,q1,λ_ z=>z.elim,fl rl⟩
 |fr k=>
  cases k with
  |fz=>
   cases hk;obtain⟨a,o,xs,rfl,_,g1,q1,rl⟩:=(Tr.fz_inv h).2.nd;exact⟨a,o,xs,fu,rfl,g1,q1,λ_ z=>z.elim,fl rl⟩
  |own es' r'=>
   cases hk;have h':Tr K H (Sx g F) (.nd hd ds) (.own es r) v F:=h;unfold Tr at h';obtain⟨a,o,xs,F',rfl,g1,q1,_,_,hF,t⟩:=h';exact⟨a,o,xs,F',rfl,g1,q1,λb z=>(hF b).mpr (.inr z),t⟩
 |bo i k=>
  simp only[fL] at hk;split at hk
  ·rename_i hi;cases hk;obtain⟨a,o,xs,rfl,_,g1,q1,rl⟩:=h.rd.nd;exact⟨a,o,xs,fu,rfl,g1,q1,λ_ z=>z.elim,fl (rl.im m hi)⟩
  ·cases hk
noncomputable def xT(pn:List Nat)(is:List Nat)(a:MR):Option Res:=match a with
 |some (kd,.nd .tup ds,ρ1)=>(match fL kd ds with|some (es,r)=>if is.length=ds.length/\(is.all λi=>!pn.contains i)=PX then PU (.nx (lF is ds es r ρ1)) else PV|none=>PV)
 |some (kd,.nd .lst ds,ρ1)=>(match fL kd ds with|some (es,r)=>if is.length=ds.length/\(is.all λi=>!pn.contains i)=PX then PU (.nx (lF is ds es r ρ1)) else PV|none=>PV)
 |_=>PV
noncomputable def vh(c:Cz):List P0->Option (List Nat)
 |[]=>PU []
 |.Name x _::r=>if nr c x then(match bz x c.N,vh c r with|some i,PU is=>PU (i::is)|_,_=>PV) else PV
 |_=>PV
theorem nM(O:al X Γ c):∀{es:List P0} {is:List Nat},vh c es=PU is->C6 X es (EI is)/\(Qi es X.env).length=is.length/\(Qi es X.env).findIdx? (·.1)=PV
 |[],is,h=>by cases h;exact⟨r8,rfl,rfl⟩
 |e::es,is,h=>by
  cases e with
  |Name x p=>
   unfold vh at h;split at h
   ·rename_i hl;split at h
    ·rename_i i is' hi his;cases h;have l:=i4 O hl;obtain⟨g1,g2,g3⟩:=nM O his;refine⟨oG (r6 (i:=i) (by rw[O.N];exact O.nd) (by rw[O.N];exact bf hi) l.1 l.2) g1,?_,?_⟩
     ·show(Qi es X.env).length+1=_;rw[g2];rfl
     ·show((PY,assign (.Name x p) X.env)::Qi es X.env).findIdx? (·.1)=PV;rw[NE];simp[g3]
    ·cases h
   ·cases h
  |_=>cases h
theorem Ia(O:al X Γ c){f:Ro->MR}{es:List P0}{is:List Nat}{k:Nat}{e:P0}{tp pos:Pos}(hf:bB X f e)(h1:vh c es=PU is)(hn:tf e=PX):SndS X pn (λρ=>xT pn is (f ρ)) (.Assign [.Tuple es k tp] e pos):=by
 intro ρ r h g σ H Dn se q;obtain⟨g1,g2,g3⟩:=nM O h1
 have pin:(is.all λi=>!pn.contains i)=PX->∀i∈is,i∉pn:=λh i hi=>by
  have:=Ny.mp h i hi;simpa using this
 dsimp only[xT] at h;split at h
 ·rename_i kd ds ρ1 he;split at h
  ·rename_i ks r0 hk;split at h
   ·rename_i hl;cases h;refine bP (mP aF (qk O.calm g1 g2 g3) gQ (kS hn)) (hf ρ _ _ _ he g σ H _ se λv g' H1 F ev se1 vr=>?_);obtain⟨a,o,xs,F',rfl,ga,qa,sF,t⟩:=vr.parts (.inl rfl) hk λb z=>se1.mu b ((ar b).mpr z);cases(show o=_ from qa);refine⟨a,xs,rfl,.of ga,by rw[t.len,hl.1],iH hl.1 (pin hl.2) (ev.drop sF) (se1.drop sF λb z=>(ev.tmp b z).1) (λb z=>z.imp id (sF b)) t PinOk.refl λg2 σ2 e2 s2 p2=>q σ2 g2 H1 e2 s2 p2⟩
   ·cases h
  ·cases h
 ·rename_i kd ds ρ1 he;split at h
  ·rename_i ks r0 hk;split at h
   ·rename_i hl;cases h;refine bP (mP aF (DD O.calm g1 g2 g3) gQ (kS hn)) (hf ρ _ _ _ he g σ H _ se λv g' H1 F ev se1 vr=>?_);obtain⟨a,o,xs,F',rfl,ga,qa,sF,t⟩:=vr.parts (.inr rfl) hk λb z=>se1.mu b ((ar b).mpr z);cases(show o=_ from qa);refine⟨a,xs,rfl,.of ga,by rw[t.len,hl.1],iH hl.1 (pin hl.2) (ev.drop sF) (se1.drop sF λb z=>(ev.tmp b z).1) (λb z=>z.imp id (sF b)) t PinOk.refl λg2 σ2 e2 s2 p2=>q σ2 g2 H1 e2 s2 p2⟩
   ·cases h
  ·cases h
 ·cases h
noncomputable def xV(a:MR):Option Res:=match a with
 |some (kd,d,ρ1)=>if bX (eI kd d)=PX then PV else PU (.rt (eI kd d) d ρ1)
 |none=>PV
theorem Ib{f:Ro->MR}(hf:bB X f e):SndS X pn (λρ=>xV (f ρ)) (.Return (PU e) pos):=by
 intro ρ r h g σ H Dn se q;dsimp only[xV] at h;split at h
 ·rename_i kd d ρ1 he;split at h
  ·cases h
  ·cases h;exact bP (wu aF) (hf ρ _ _ _ he g σ H _ se λv g1 H1 F ev se1 vr=>q v σ g1 H1 F ev se1 PinOk.refl (vr.im se1.mu))
 ·cases h
noncomputable def vi(a:MR):Option Res:=match a with
 |some (_,_,ρ1)=>PU (.nx ρ1)
 |none=>PV
theorem Ic{f:Ro->MR}(hn:eP e=PX)(hf:bB X f e):SndS X pn (λρ=>vi (f ρ)) (.Expr e pos):=by
 intro ρ r h g σ H Dn se q;dsimp only[vi] at h;split at h
 ·rename_i kd d ρ1 he;cases h;refine bP (rZ aF (f9 hn)) (hf ρ _ _ _ he g σ H _ se λv g1 H1 F ev se1 vr=>q σ g1 H1 (ev.drop λ_ z=>z.elim) ?_ PinOk.refl);have:=se1.drop (F2:=fu) (λ_ z=>z.elim) λb z=>(ev.tmp b z).1;rw[aZ λ_ z=>z] at this;exact this
 ·cases h
theorem Ie{x:Str}{j:Nat}:SndS X pn (λρ=>PU (.nx ρ)) (.Expr (.Constant (.str x) j pos) pos'):=by
 intro ρ r h g σ H Dn se q;cases h;exact bP C4 (q σ g H (.refl g H) se PinOk.refl)
noncomputable def vj(t:Option (Bool×Ro))(a b:Ro->Option Res):Option Res:=match t with
 |some (PX,ρ)=>a ρ
 |some (PY,ρ)=>b ρ
 |none=>PV
theorem Ig{ft:Ro->Option (Bool×Ro)}(ht:e6 X ft t)(ha:SndB X pn fa a)(hb:SndB X pn fb b):SndS X pn (λρ=>vj (ft ρ) fa fb) (.If t a b pos):=by
 intro ρ r h g σ H Dn se q;dsimp only[vj] at h;split at h
 ·rename_i ρ1 e;exact bP (jo fq bS bS) (ht ρ _ _ e g σ H _ se λg1 H1 ev se1=>wP (ha ρ1 r h g1 σ H1 Dn se1 (q.from ev PinOk.refl)))
 ·rename_i ρ1 e;exact bP (jo fq bS bS) (ht ρ _ _ e g σ H _ se λg1 H1 ev se1=>m9 (hb ρ1 r h g1 σ H1 Dn se1 (q.from ev PinOk.refl)))
 ·cases h
noncomputable def gw(a:Option Res)(b:Ro->Option Res):Option Res:=match a with
 |some (.nx ρ)=>b ρ
 |r=>r
theorem Cb:SndB X pn (λρ=>PU (.nx ρ)) []:=by
 intro ρ r h g σ H Dn se q;cases h;exact dM jG (q σ g H (.refl g H) se PinOk.refl)
theorem q5{fa fb:Ro->Option Res}(ha:SndS X pn fa s)(hb:SndB X pn fb st):SndB X pn (λρ=>gw (fa ρ) fb) (s::st):=by
 intro ρ r h g σ H Dn se q;dsimp only at h;refine dM (fA EH bS) ?_
 cases e:fa ρ with
 |none=>rw[e] at h;cases h
 |some ra=>
  rw[e] at h
  cases ra with
  |nx ρ1=>exact ha ρ _ e g σ H _ se λσ1 g1 H1 ev se1 pk=>hb ρ1 r h g1 σ1 H1 Dn se1 (q.from ev pk)
  |rt kd d ρ1=>cases h;exact ha ρ _ e g σ H _ se q
  |ct ρ1=>cases h;exact ha ρ _ e g σ H _ se q
  |bk ρ1=>cases h;exact ha ρ _ e g σ H _ se q
theorem EJ:SndS X pn (λρ=>PU (.ct ρ)) (.Continue pos):=by
 intro ρ r h g σ H Dn se q;cases h;exact bP oF (q σ g H (.refl g H) se PinOk.refl)
theorem EK:SndS X pn (λρ=>PU (.nx ρ)) (.Pass pos):=by
 intro ρ r h g σ H Dn se q;cases h;exact bP zq (q σ g H (.refl g H) se PinOk.refl)
end
noncomputable def pC(c:Cz)(x y a:Str)(px py:Pos):Bool:=decide (a≠"__debug__")&&decide (c.sc.names.lookup x=PU .local)&&decide (c.sc.names.lookup y=PU .local)&&decide (x≠y)&&(py.line==px.line)&&decide (c.sc.kind=.function)
theorem xW{env:Env}{x y a:Str}{px py pt pa pt2:Pos}{kt k2}(hx:env.scope.names.lookup x=PU .local)(hy:env.scope.names.lookup y=PU .local)(hxy:x≠y)(hl:(py.line==px.line)=PX)(hk:env.scope.kind=.function)(ha:a≠"__debug__")(hs:ag be=PX) :
  swappedStores [.Tuple [.Name x px,.Name y py] kt pt] (.Tuple [.Name a pa,be] k2 pt2) env=pure (PU [x,y]):=by
 have e1:env.kindOf x=PU .local:=hx;have e2:env.kindOf y=PU .local:=hy;have e3:env.blockKind=.function:=by unfold Env.blockKind;rw[hk];rfl
 have e4:([x,y]:List Str).eraseDups.length=2:=by
  have:(y==x)=PY:=beq_eq_false_iff_ne.mpr (Ne.symm hxy);simp[List.eraseDups_cons,this]
 have hl':py.line=px.line:=eq_of_beq hl;unfold swappedStores;have e0:(Expr.Name x px).pos=px:=rfl;simp only[e0,List.head?_cons,OD,Option.getD_some,NF,O4,Nr,List.filterMap_nil,e1,e2,e3,hl',beq_self_eq_true,Bool.and_self,if_true]
 rw[if_neg (by decide),if_neg (by cases be<;>first|(cases hs;done)|simp),if_neg (by rw[e4];decide),if_neg (c:=[Expr.Name a pa,be].all (foldedForSure 8)=PX) (λz=>Bool.noConfusion (show PY=PX from z)),if_neg (c:=[Expr.Name a pa,be].all (constantsAlone 8)=PX) (λz=>ha (eq_of_beq (OE.mp (show((a==("__debug__":Str))&&_)=PX from z)).1))]
noncomputable def xX(pn:List Nat)(i j:Nat)(a:Option (List KD))(ρ:Ro):Option Res:=match a with
 |some [x,y]=>if(oy x.1 x.2=PX/\oy y.1 y.2=PX)/\i≠j/\i∉pn/\j∉pn then PU (.nx (lF [i,j] [x.2,y.2] [] .fz ρ)) else PV
 |_=>PV
section
variable {X:Cx} {Γ:eZ} {c:Cz} {pn:List Nat}
theorem Ih(O:al X Γ c){fa:Ro->Option (List KD)}{x y a:Str}{be:P0}{px py pt pa pt2 pos:Pos}{kt k2}{i j:Nat}(ha:fF X fa [.Name a pa,be])(hi:bz x c.N=PU i)(hj:bz y c.N=PU j)(hp:pC c x y a px py=PX)(hs:ag be=PX) :
  SndS X pn (λρ=>xX pn i j (fa ρ) ρ) (.Assign [.Tuple [.Name x px,.Name y py] kt pt] (.Tuple [.Name a pa,be] k2 pt2) pos):=by
 intro ρ r h g σ H Dn se q;simp only[pC,MX,decide_eq_true_eq] at hp;obtain⟨⟨⟨⟨⟨h0,h1⟩,h2⟩,h3⟩,h4⟩,h5⟩:=hp;rw[<- O.sc] at h1 h2 h5;dsimp only[xX] at h;split at h
 ·rename_i k1 k2 he;split at h
  ·rename_i hh;cases h;refine bP (Db (i:=i) (j:=j) O.calm (by rw[O.N];exact O.nd) (by rw[O.N];exact bf hi) (by rw[O.N];exact bf hj) hh.2.1 h1 h2 ee (xW h1 h2 h3 h4 h5 h0 hs)) ?_;refine ha ρ _ he g σ H _ se λvs H1 s1 r1=>?_;have rl:=r1.sh (by simp[hh.1.1,hh.1.2]) se.mu s1;obtain⟨v,ys,rfl,rv,rl2⟩:=rl.cons_inv;obtain⟨w,zs,rfl,rw',rl3⟩:=rl2.cons_inv;cases rl3.nil_inv;refine⟨v,w,rfl,?_⟩
   have run:=iH (pn:=pn) (K:=X.K) (g:=g) (H:=H) (H1:=H1) (σ0:=σ) (Q:=λσ' H'=>Dn.nx σ' H') (is:=[i,j]) (ds:=[k1.2,k2.2]) (es:=[]) (r:=.fz) (vs:=[v,w]) (g1:=g) (F:=fu) (S:=Sg g) (ρ:=ρ) (σ:=σ) rfl (λz hz=>by
     rcases M7.mp hz with rfl|hz
     ·exact hh.2.2.1
     ·rw[Pn.mp hz];exact hh.2.2.2) ⟨λb o _ e=>s1 b o e,λ_=>Iff.rfl,λb i e=>.inl ⟨i,e⟩,λ_ z=>z.elim,λb o e=>⟨o,s1 b o e⟩⟩ (by rw[aZ λ_ z=>z];exact se.same s1) (λb z=>z.elim id λz=>z.elim) (.ofFz (.cons rv (.cons rw' .nil))) PinOk.refl λg2 σ2 e2 s2 p2=>q σ2 g2 H1 e2 s2 p2
   obtain⟨_,_,e1,_,_,e2,_,z⟩:=run;cases e1;cases e2;exact z
  ·cases h
 ·cases h
end
end J
namespace J
open PySem PySem.Spec L2
open Classical in
noncomputable def Gh.lend(g:Gh)(bs:List Nat):Gh:=λb=>if ∃i∈bs,g b=PU (PU i) then PU PV else g b
open Classical in
noncomputable def Gh.unlend(g' g:Gh)(bs:List Nat):Gh:=λb=>if ∃i∈bs,g b=PU (PU i) then g b else g' b
noncomputable def clrN:List Nat->Ro->Ro
 |[],ρ=>ρ
 |i::is,ρ=>clrN is (ρ.set i PV)
noncomputable def q8:List Nat->Ro->Ro->Ro
 |[],_,ρ'=>ρ'
 |i::is,ρ,ρ'=>q8 is ρ (ρ'.set i (ρ[i]?).join)
section
variable {K:MW} {H H' H1:Hp} {g g' g1:Gh} {F:Pr} {ρ ρ':Ro} {σ σ':L2.St} {bs:List Nat}
theorem q9(b:P1):Sg (g.lend bs) b↔Sg g b:=by
 unfold Gh.lend Sg;dsimp only;by_cases h:∃i∈bs,g b=PU (PU i)
 ·rw[if_pos h];obtain⟨i,_,e⟩:=h;simp[e]
 ·rw[if_neg h]
theorem iI{j:Nat}(h:g.lend bs b=PU (PU j)):g b=PU (PU j)/\j∉bs:=by
 unfold Gh.lend at h;split at h
 ·cases h
 ·rename_i n;exact⟨h,λz=>n ⟨j,z,h⟩⟩
theorem tj{i:Nat}(hi:i∈bs)(h:g b=PU (PU i)):g.lend bs b=PU PV:=by
 unfold Gh.lend;rw[if_pos ⟨i,hi,h⟩]
theorem jO(h:∀i∈bs,g b≠PU (PU i)):g.lend bs b=g b:=by
 unfold Gh.lend;rw[if_neg λ⟨i,hi,e⟩=>h i hi e]
theorem kW:∀{is:List Nat} {ρ:Ro},(clrN is ρ).length=ρ.length
 |[],_=>rfl
 |i::is,ρ=>by unfold clrN;rw[kW];simp
theorem jf:∀{is:List Nat} {ρ:Ro} {j:Nat} {sl:Sl},(clrN is ρ)[j]?=PU (PU sl)->ρ[j]?=PU (PU sl)/\j∉is
 |[],_,_,_,h=>⟨h,by simp⟩
 |i::is,ρ,j,sl,h=>by
  unfold clrN at h;obtain⟨h1,h2⟩:=jf h
  have hne:j≠i:=λz=>by
   subst z
   have hlt:j<ρ.length:=by
    have:=(MZ.mp h1).1;simpa using this
   rw[Nd hlt] at h1;cases h1
  rw[Nh (Ne.symm hne)] at h1;exact⟨h1,by simp[hne,h2]⟩
theorem tq:∀{is:List Nat} {ρ ρ':Ro},(q8 is ρ ρ').length=ρ'.length
 |[],_,_=>rfl
 |i::is,ρ,ρ'=>by unfold q8;rw[tq];simp
theorem pD:∀{is:List Nat} {ρ ρ':Ro} {j:Nat} {sl:Sl},(q8 is ρ ρ')[j]?=PU (PU sl)->(j∈is/\ρ[j]?=PU (PU sl))\/(j∉is/\ρ'[j]?=PU (PU sl))
 |[],_,_,_,_,h=>.inr ⟨by simp,h⟩
 |i::is,ρ,ρ',j,sl,h=>by
  unfold q8 at h;rcases pD h with⟨h1,h2⟩|⟨h1,h2⟩
  ·exact .inl ⟨Ng _ h1,h2⟩
  ·by_cases hj:j=i
   ·subst hj
    have hlt:j<ρ'.length:=by
     have:=(MZ.mp h2).1;simpa using this
    rw[Nd hlt] at h2;refine .inl ⟨Nm,?_⟩;have:(ρ[j]?).join=PU sl:=by simpa using h2
    cases q:ρ[j]? with
    |none=>rw[q] at this;cases this
    |some o=>rw[q] at this;have:o=PU sl:=this;rw[this]
   ·rw[Nh (Ne.symm hj)] at h2;exact .inr ⟨by simp[hj,h1],h2⟩
theorem SE.clrN(h:SE K g ρ σ H)(is:List Nat):SE K g (clrN is ρ) σ H:=⟨λi sl e=>h.slot i sl (jf e).1,h.mu,by rw[kW];exact h.len⟩
theorem SE.lend(h:SE K g ρ σ H)(bs:List Nat):SE K (g.lend bs) (J.clrN bs ρ) σ H:=by
 refine⟨λi sl e=>?_,λb z=>h.mu b ((q9 b).mp z),by rw[kW];exact h.len⟩;obtain⟨e1,hn⟩:=jf e;obtain⟨v,F,q1,q2,q3⟩:=h.slot i sl e1;refine⟨v,F,q1,λb z=>?_,q3.go (λ_ _ _ e=>e) λb o _ n z=>n ((q9 b).mp z)⟩;have:=q2 b z;rw[jO λj hj e=>by rw[this] at e;cases e;exact hn hj];exact this
theorem mj(h:∃i∈bs,g b=PU (PU i)):g'.unlend g bs b=g b:=by unfold Gh.unlend;rw[if_pos h]
theorem dC(h:¬∃i∈bs,g b=PU (PU i)):g'.unlend g bs b=g' b:=by unfold Gh.unlend;rw[if_neg h]
theorem dX(h:SE K g ρ σ H)(ev:Evo (g.lend bs) H g' H' F)(se:SE K (g'.plus F) ρ' σ' H')(pk:PinOk bs σ σ') :
  Evo g H (g'.unlend g bs) H' F/\SE K ((g'.unlend g bs).plus F) (q8 bs ρ ρ') σ' H'/\∀b,Sg (g'.unlend g bs) b->Sg g' b:=by
 have ho:∀b,(∃i∈bs,g b=PU (PU i))->g' b=PU PV:=λb ⟨i,hi,e⟩=>(ev.out b).mp (tj hi e)
 have sub:∀b,Sg (g'.unlend g bs) b->Sg g' b:=λb z=>by
  by_cases q:∃i∈bs,g b=PU (PU i)
  ·rw[Sg,ho b q];simp
  ·rw[Sg,dC q] at z;exact z
 have subp:∀b,Sg ((g'.unlend g bs).plus F) b->Sg (g'.plus F) b:=λb z=>(ar b).mpr (((ar b).mp z).imp (sub b) id);have hFn:∀b,F b->¬∃i∈bs,g b=PU (PU i):=λb z q=>by have:=ho b q;rw[(ev.tmp b z).1] at this;cases this
 refine⟨⟨λb o n e=>ev.keep b o (λi q=>n i (iI q).1) e,λb=>⟨λe=>?_,λe=>?_⟩,λb j e=>?_,λb z=>?_,ev.dom⟩,⟨λj sl e=>?_,λb z=>se.mu b (subp b z),by rw[tq];exact se.len⟩,sub⟩
 ·have n:¬∃i∈bs,g b=PU (PU i):=λ⟨i,_,q⟩=>by rw[e] at q;cases q
  rw[dC n];exact(ev.out b).mp (by rw[jO λi hi q=>n ⟨i,hi,q⟩];exact e)
 ·by_cases q:∃i∈bs,g b=PU (PU i)
  ·rw[mj q] at e;exact e
  ·rw[dC q] at e;have:=(ev.out b).mpr e;rw[jO λi hi z=>q ⟨i,hi,z⟩] at this;exact this
 ·by_cases q:∃i∈bs,g b=PU (PU i)
  ·obtain⟨i,_,q⟩:=q;exact .inl ⟨i,q⟩
  ·rw[dC q] at e;exact(ev.new b j e).imp (λ⟨j,z⟩=>⟨j,(iI z).1⟩) id
 ·have t:=ev.tmp b z;exact⟨by rw[dC (hFn b z)];exact t.1,t.2.imp (λ⟨j,z⟩=>⟨j,(iI z).1⟩) id⟩
 ·rcases pD e with⟨hj,e1⟩|⟨hj,e1⟩
  ·obtain⟨v,Fj,q1,q2,q3⟩:=h.slot j sl e1;refine⟨v,Fj,by rw[pk j hj];exact q1,λb z=>?_,q3.go (λb o hb e=>ev.keep b o (λi q=>?_) e) λb o e n z=>?_⟩
   ·have:∃i∈bs,g b=PU (PU i):=⟨j,hj,q2 b z⟩;exact cx (by rw[mj this];exact q2 b z) λz2=>hFn b z2 this
   ·obtain⟨q,hn⟩:=iI q;rcases hb with hb|hb
    ·exact hb (by rw[Sg,q];simp)
    ·rw[q2 b hb] at q;cases q;exact hn hj
   ·have gn:g b=PV:=by
     cases q:g b with
     |none=>rfl
     |some x=>exact absurd (by rw[Sg,q];simp) n
    obtain⟨f1,f2⟩:=ev.froz e (by rw[jO λi _ z=>by rw[gn] at z;cases z];exact gn);rcases(ar b).mp z with z|z
    ·exact sub b z f1
    ·exact f2 z
  ·obtain⟨v,Fj,q1,q2,q3⟩:=se.slot j sl e1;refine⟨v,Fj,q1,λb z=>?_,q3.go (λ_ _ _ e=>e) λb o _ n z=>n (subp b z)⟩;have q:=bM (q2 b z);refine cx ?_ λz2=>by rw[(ev.tmp b z2).1] at q;cases q
   rw[dC λz2=>by rw[ho b z2] at q;cases q];exact q
theorem VR1.unlend(hb:bX kd=PY)(sub:∀b,Sg g b->Sg g' b)(h:VR1 K H g' F kd d v F):VR1 K H g F kd d v F:=by
 have k2:∀b,Sx g F b->Sx g' F b:=λb z=>z.imp (sub b) id
 cases kd with
 |sh=>exact⟨h.1,h.2.weak k2⟩
 |fr k=>exact Tr.go (λ_ _ _ e=>e) (λb o _ n z=>n (k2 b z)) h
 |bo i k=>cases hb
theorem tu{s:Src}(hp:s.P K g H1)(hf:s.from g H bs)(ev:Evo (g.lend bs) H1 gi Hi fu):s.P K gi Hi:=by
 have fz:∀b o,H1 b=PU o->¬Sg g b->Hi b=PU o/\¬Sg gi b:=λb o e n=>by
  have n':g.lend bs b=PV:=by
   cases q:g.lend bs b with
   |none=>rfl
   |some x=>exact absurd ((q9 b).mp (by rw[Sg,q];simp)) n
  obtain⟨f1,f2⟩:=ev.froz e n';exact⟨ev.keep b o (λi q=>by rw[n'] at q;cases q) e,λz=>z f1⟩
 refine Src.mono (g:=g) (H:=H1) (λb o e n=>(fz b o e n).2) (λb o hb e=>?_) (λa e=>hf.from_t e) hp;rcases hb with hb|hb
 ·exact(fz b o e hb).1
 ·rcases hf.from_l hb with hf|⟨i,hm,hf⟩
  ·exact(fz b o e (by rw[Sg,hf];simp)).1
  ·exact ev.keep b o (λj q=>by rw[tj hm hf] at q;cases q) e
end
noncomputable def cA(pn fg:List Nat)(tg:IT)(fb:Ro->Option Res):List D->Ro->Option Res
 |[],ρ=>PU (.nx (clrN fg ρ))
 |d::ds,ρ=>match nA tg d with
  |some ps=>if(ps.all λp=>!pn.contains p.1)=PX then(match fb (setAll ps (clrN fg ρ)) with
   |some (.nx ρ2)=>cA pn fg tg fb ds ρ2
   |some (.ct ρ2)=>cA pn fg tg fb ds ρ2
   |some (.bk ρ2)=>PU (.nx (clrN fg ρ2))
   |some (.rt k d ρ2)=>PU (.rt k d ρ2)
   |none=>PV) else PV
  |none=>PV
noncomputable def tw(J:It)(g:TG)(tb:TS):TS:=λD σ H1=>∃W:Nat->Nat->L2.St->Hp->Prop,(∃m,W 0 m σ H1)/\∀i m σ H,W i m σ H->
 (J.stop i H/\D.nx σ H)\/(J.go i H/\∃N:L2.St->Hp->Prop,(∀σ' H',N σ' H'->∃m',m'<m/\W (i+1) m' σ' H')/\∀x H',J.yld i H x H'->g x σ H' λσ2 H2=>tb { D with nx:=N,ct:=N,bk:=D.nx } σ2 H2)
section
variable {X:Cx} {Γ:eZ} {c:Cz} {pn:List Nat}
theorem pE{ps:List (Nat×D)}(h:RpP K H S ps vs)(hp:(ps.all λp=>!pn.contains p.1)=PX):PinOk pn σ (i8 vs σ):=λi hi=>jM h λp hp' z=>by
 have:=Ny.mp hp p hp';rw[z] at this;simp[hi] at this
theorem pF(O:al X Γ c){fg:List Nat}{fb:Ro->Option Res}{tg:P0}{t:IT}{n:Nat}{body:List P9}(htg:oz c n tg=PU t)(hb:SndB X pn fb body){jj:It}{src:Src}{ds:List D}{g g0:Gh}{bs:List Nat}{H H1:Hp}{Dn:di}{ρ:Ro}{σ:L2.St}{r:Res}
  (se:SE X.K (g.lend bs) ρ σ H1) (jt:iq X.K jj src ds) (sp:src.P X.K g H1) (sf:src.from g H bs) (h:cA pn fg t fb ds ρ=PU r) (q:EndM X.K pn (g.lend bs) H1 σ Dn r) :
  tw jj (wG X tg) (qe X body) Dn σ H1:=by
 refine⟨λi m σ' H'=>m=ds.length-i/\i<=ds.length/\∃ρ' g',SE X.K g' ρ' σ' H'/\Evo (g.lend bs) H1 g' H' fu/\PinOk pn σ σ'/\cA pn fg t fb (ds.drop i) ρ'=PU r,
  ⟨ds.length,by simp,NG _,ρ,g.lend bs,se,.refl _ _,PinOk.refl,by simpa using h⟩,?_⟩
 rintro i m σ' H' ⟨rfl,hi',ρ',g',se',ev',pk',hrest⟩
 obtain⟨j1,j2⟩:=jt i g' H' (tu sp sf ev') se'.mu;by_cases hlt:i<ds.length
 ·have hd:ds[i]?=PU ds[i]:=Na hlt;obtain⟨go,yl⟩:=j2 _ hd;rw[N4 hlt] at hrest;unfold cA at hrest;split at hrest
  ·rename_i ps hps;split at hrest
   ·rename_i hpn;refine .inr ⟨go,λσ2 H2=>ds.length-(i+1)=ds.length-(i+1)/\i+1<=ds.length/\∃ρ' g',SE X.K g' ρ' σ2 H2/\Evo (g.lend bs) H1 g' H2 fu/\PinOk pn σ σ2/\cA pn fg t fb (ds.drop (i+1)) ρ'=PU r,λσ2 H2 hN=>⟨ds.length-(i+1),by lia,hN⟩,λx H2 hy=>?_⟩;obtain⟨s2,rx⟩:=yl x H2 hy;refine sA (o9 O n htg) (iy hps rx λvs hvs=>?_);have se2:=SE.setAll hvs ((se'.clrN fg).same s2);have ev2:Evo (g.lend bs) H1 g' H2 fu:=aO ev' (c5 s2 (λ_ z=>z.elim) λ_ z=>z.elim);have pk2:=pk'.trans (pE (σ:=σ') hvs hpn);split at hrest
    ·rename_i ρ2 hbody;exact hb _ _ hbody g' _ H2 _ se2 λσ4 g4 H4 ev4 se4 pk4=>⟨rfl,hlt,ρ2,g4,se4,aO ev2 ev4,pk2.trans pk4,hrest⟩
    ·rename_i ρ2 hbody;exact hb _ _ hbody g' _ H2 _ se2 λσ4 g4 H4 ev4 se4 pk4=>⟨rfl,hlt,ρ2,g4,se4,aO ev2 ev4,pk2.trans pk4,hrest⟩
    ·rename_i ρ2 hbody;cases hrest;exact hb _ _ hbody g' _ H2 _ se2 λσ4 g4 H4 ev4 se4 pk4=>q σ4 g4 H4 (aO ev2 ev4) (se4.clrN fg) (pk2.trans pk4)
    ·rename_i k d ρ2 hbody;cases hrest;exact hb _ _ hbody g' _ H2 _ se2 λv σ4 g4 H4 F4 ev4 se4 pk4 r4=>q v σ4 g4 H4 F4 (aO ev2 ev4) se4 (pk2.trans pk4) r4
    ·cases hrest
   ·cases hrest
  ·cases hrest
 ·have e:i=ds.length:=by lia
  subst e;rw[PJ] at hrest;cases hrest;exact .inl ⟨j1 (M8 _),q σ' g' H' ev' (se'.clrN fg) pk'⟩
noncomputable def mn(bs:List Nat)(ρ:Ro)(r:Option Res):Option Res:=match r with
 |some (.nx ρ')=>PU (.nx (q8 bs ρ ρ'))
 |some (.rt k d ρ')=>if bX k=PX then PV else PU (.rt k d (q8 bs ρ ρ'))
 |_=>PV
noncomputable def mq(pn fg:List Nat)(tg:IT)(fb:List Nat->Ro->Option Res)(it:IR):Option Res:=match it with
 |some (bs,ds,ρ)=>mn bs ρ (cA (pn++bs) fg tg (fb (pn++bs)) ds (clrN bs ρ))
 |none=>PV
theorem PinOk.left{a b:List Nat}(h:PinOk (a++b) σ σ'):PinOk a σ σ':=λi hi=>h i (N3 _ hi)
theorem PinOk.right{a b:List Nat}(h:PinOk (a++b) σ σ'):PinOk b σ σ':=λi hi=>h i (Nj _ hi)
theorem EL(O:al X Γ c)(hp:PassesOwn (P5 X.prog X.w) X.A X.env X.xe){fg:List Nat}{fi:Ro->IR}{fb:List Nat->Ro->Option Res}{tg iter:P0}{t:IT}{n:Nat}{body:List P9}{pos:Pos}(htg:oz c n tg=PU t)(hi:iC X fi tg iter)(hb:∀pn,SndB X pn (fb pn) body)(hs:d4 iter=PX) :
  SndS X pn (λρ=>mq pn fg t fb (fi ρ)) (.For tg iter body [] pos):=by
 intro ρ r h g σ H Dn se q;dsimp only[mq] at h;split at h
 ·rename_i bs ds ρ0 hit;refine bP (wy hp O.calm w6 w8 bS (eA hs)) (hi ρ bs ds ρ0 hit g σ H _ se λjj src g1 H1 ev1 se1 jt sp sf=>?_);have q1:=q.from ev1 PinOk.refl;show tw jj (wG X tg) (qe X body) Dn σ H1;unfold mn at h;split at h
  ·rename_i ρ' hf;cases h;refine pF (g0:=g1) O htg (hb _) (se1.lend bs) jt sp sf hf λσ' g' H' ev se' pk=>?_;obtain⟨c1,c2,_⟩:=dX (F:=fu) se1 ev (by rw[aZ λ_ z=>z];exact se') pk.right;exact q1 σ' _ H' c1 (by rw[aZ λ_ z=>z] at c2;exact c2) pk.left
  ·rename_i k d ρ' hf;split at h
   ·cases h
   ·rename_i hk;cases h;refine pF (g0:=g1) O htg (hb _) (se1.lend bs) jt sp sf hf λv σ' g' H' F ev se' pk vr=>?_;obtain⟨c1,c2,c3⟩:=dX se1 ev se' pk.right;exact q1 v σ' _ H' F c1 c2 pk.left (vr.unlend (by simpa using hk) c3)
  ·cases h
 ·cases h
noncomputable def gR(fg:List Nat)(ft:Ro->Option (Bool×Ro))(fb:Ro->Option Res):Nat->Ro->Option Res
 |0,_=>PV
 |n+1,ρ=>match ft (clrN fg ρ) with
  |some (PY,ρ1)=>PU (.nx ρ1)
  |some (PX,ρ1)=>(match fb ρ1 with
   |some (.nx ρ2)=>gR fg ft fb n ρ2
   |some (.ct ρ2)=>gR fg ft fb n ρ2
   |some (.bk ρ2)=>PU (.nx (clrN fg ρ2))
   |some (.rt k d ρ2)=>PU (.rt k d ρ2)
   |none=>PV)
  |none=>PV
theorem Ii(hp:PassesOwn (P5 X.prog X.w) X.A X.env X.xe){fg:List Nat}{ft:Ro->Option (Bool×Ro)}{fb:Ro->Option Res}{t:P0}{body:List P9}{pos:Pos}(ht:e6 X ft t)(hb:SndB X pn fb body)(n:Nat):SndS X pn (gR fg ft fb n) (.While t body [] pos):=by
 intro ρ r h g σ H Dn se q;refine bP (oH hp fq bS) ⟨λm σ' H'=>∃ρ' g',SE X.K g' ρ' σ' H'/\Evo g H g' H' fu/\PinOk pn σ σ'/\gR fg ft fb m ρ'=PU r,⟨n,ρ,g,se,.refl g H,PinOk.refl,h⟩,?_⟩
 rintro m σ' H' ⟨ρ',g',se',ev',pk',hr⟩
 cases m with
 |zero=>cases hr
 |succ m=>
  unfold gR at hr;split at hr
  ·rename_i ρ1 e;cases hr
   exact ht _ _ _ e g' σ' H' _ (se'.clrN fg) λg1 H1 ev1 se1=>by
    rw[if_neg (by decide)];exact q σ' g1 H1 (aO ev' ev1) se1 pk'
  ·rename_i ρ1 e;refine ht _ _ _ e g' σ' H' _ (se'.clrN fg) λg1 H1 ev1 se1=>?_;rw[if_pos rfl];refine⟨λσ2 H2=>∃ρ2 g2,SE X.K g2 ρ2 σ2 H2/\Evo g H g2 H2 fu/\PinOk pn σ σ2/\gR fg ft fb m ρ2=PU r,λσ2 H2 hN=>⟨m,NR m,hN⟩,?_⟩;have ev2:=aO ev' ev1;split at hr
   ·rename_i ρ2 hbody;exact hb _ _ hbody g1 σ' H1 _ se1 λσ4 g4 H4 ev4 se4 pk4=>⟨ρ2,g4,se4,aO ev2 ev4,pk'.trans pk4,hr⟩
   ·rename_i ρ2 hbody;exact hb _ _ hbody g1 σ' H1 _ se1 λσ4 g4 H4 ev4 se4 pk4=>⟨ρ2,g4,se4,aO ev2 ev4,pk'.trans pk4,hr⟩
   ·rename_i ρ2 hbody;cases hr;exact hb _ _ hbody g1 σ' H1 _ se1 λσ4 g4 H4 ev4 se4 pk4=>q σ4 g4 H4 (aO ev2 ev4) (se4.clrN fg) (pk'.trans pk4)
   ·rename_i k d ρ2 hbody;cases hr;exact hb _ _ hbody g1 σ' H1 _ se1 λv σ4 g4 H4 F4 ev4 se4 pk4 r4=>q v σ4 g4 H4 F4 (aO ev2 ev4) se4 (pk'.trans pk4) r4
   ·cases hr
  ·cases hr
theorem Ij{f:Ro->Option Res}(is:List Nat)(h:SndS X pn f st):SndS X pn (λρ=>f (frzN is ρ)) st:=by
 intro ρ r hr g σ H Dn se q;obtain⟨g',s1,e1⟩:=SE.frzN is se;exact h _ r hr g' σ H Dn s1 (q.from e1 PinOk.refl)
noncomputable def K1(op:Qd)(i j:Int):Option D:=match op with
 |.Add=>PU (.int (i+j))
 |.BitOr=>PU (.int (Builtin.bitOr i j))
 |_=>PV
noncomputable def Az(op:Qd)(x y:D):Option D:=match x with
 |.int i=>(match y with|.int j=>K1 op i j|_=>PV)
 |_=>PV
noncomputable def jy:D->Option V
 |.int i=>PU (.int i)
 |.str x=>PU (.str x)
 |.bl b=>PU (.bl b)
 |.non=>PU .non
 |_=>PV
theorem xY(h:jy d=PU v):Rp K H S d v:=by
 cases d<;>first|(cases h;unfold Rp;rfl)|cases h
theorem pG(h:jy d=PU v)(r:Rp K H S d u):u=v:=by
 cases d<;>first|(cases h;unfold Rp at r;exact r)|cases h
theorem vk(h:Az op x y=PU z):∃u v w,jy x=PU u/\jy y=PU v/\jy z=PU w:=by
 cases x with
 |int i=>cases y with
  |int j=>cases op<;>first|(cases h;exact⟨_,_,_,rfl,rfl,rfl⟩)|(obtain⟨_,e⟩:=w9 h;cases e;exact⟨_,_,_,rfl,rfl,rfl⟩)|cases h
  |_=>cases h
 |_=>cases h
noncomputable def K2(op:Qd):V->V->Hp->VK->Prop:=λx y H Q=>∃dx dy dz u,jy dx=PU x/\jy dy=PU y/\Az op dx dy=PU dz/\jy dz=PU u/\Q u H
theorem EM(op:Qd):L0 X op (K2 op):=by
 intro pins s σ H x y v u Q I rx ry h;obtain⟨dx,dy,dz,w,hx,hy,hd,hz,q⟩:=h
 cases dx with
 |int i=>cases dy with
  |int j=>cases op with
   |Add=>cases hd;cases hx;cases hy;cases hz;exact zt pins s σ H _ _ v u Q I rx ry ⟨_,_,rfl,rfl,q⟩
   |BitOr=>cases hd;cases hx;cases hy;cases hz;exact Dp pins s σ H _ _ v u Q I rx ry ⟨_,_,rfl,rfl,q⟩
   |_=>cases hd
  |_=>cases hd
 |_=>cases hd
noncomputable def xZ(pn:List Nat)(i:Nat)(op:Qd)(o:Option (Option Sl))(a:MR):Option Res:=match o,a with
 |some (PU s),PU (ky,dy,ρ1)=>if i∈pn then PV else(match Az op s.d dy with|some dz=>PU (.nx (ρ1.set i (PU (Gb dz))))|none=>PV)
 |_,_=>PV
theorem Ik(O:al X Γ c){f:Ro->MR}{x:Str}{i:Nat}{op:Qd}{e:P0}{p pos:Pos}(hl:nr c x=PX)(hi:bz x c.N=PU i)(hf:bB X f e):SndS X pn (λρ=>xZ pn i op ρ[i]? (f ρ)) (.AugAssign (.Name x p) op e pos):=by
 intro ρ r h g σ H Dn se q;have l:=i4 O hl;dsimp only[xZ] at h;split at h
 ·rename_i sl ky dy ρ1 hs he;split at h
  ·cases h
  ·rename_i hp;split at h
   ·rename_i dz hd;cases h;obtain⟨ux,uy,uz,ax,ay,az⟩:=vk hd;obtain⟨v,F0,e1,e2,e3⟩:=se.slot i _ hs;have ev:=pG ax e3.rd;subst ev;refine bP (Dc (i:=i) (by rw[O.N];exact O.nd) (by rw[O.N];exact bf hi) l.1 aF (EM op) l.2) ⟨_,e1,hf ρ _ _ _ he g σ H _ se λy g1 H1 F ev1 se1 r1=>?_⟩;have ey:=pG ay r1.rd;subst ey;refine⟨_,_,dz,uz,ax,ay,hd,az,?_⟩;have se2:=se1.drop (F2:=fu) (λ_ z=>z.elim) λb z=>(ev1.tmp b z).1;rw[aZ λ_ z=>z] at se2;exact q _ g1 H1 (ev1.drop λ_ z=>z.elim) (se2.set i (xY az)) (PinOk.set hp)
   ·cases h
 ·cases h
end
end J
namespace J
open PySem PySem.Spec L2
section
variable {X:Cx} {Γ:eZ} {c:Cz} {pn:List Nat}
end
end J
namespace J
open PySem PySem.Spec L2
section
variable {K:MW} {H:Hp} {S S':Pr}
end
section
variable {K:MW} {H H0:Hp} {g:Gh}
end
end J
namespace J
open PySem PySem.Spec L2
end J
namespace J
open PySem PySem.Spec L2
theorem mr(b:List P9)(env:Env):∀a:List P9,execs (a++b) env=(execs a env >>= λf=>match f with|.next=>execs b env|f=>pure f)
 |[]=>by
  show execs b env=((pure .next:Sem Flow) >>= _)
  rw[pure_bind]
 |st::a=>by
  show execs (st::(a++b)) env=_;rw[execs_cons,execs_cons,bind_assoc];congr 1;funext f
  cases f with
  |next=>exact mr b env a
  |_=>rw[pure_bind]
theorem tz{a b:List P9}{σ:L2.St}(h:qe X a { Dn with nx:=λσ H=>qe X b Dn σ H } σ H):qe X (a++b) Dn σ H:=by
 intro pins s I;rw[mr];refine P3 (bx (h pins s I) λf s1 q=>?_)
 cases f with
 |next=>
  obtain⟨σ',H',I',q⟩:=q;exact q pins s1 I'
 |_=>exact P7 q
section
variable {X:Cx} {Γ:eZ} {c:Cz} {pn:List Nat}
end
end J
namespace J
open PySem PySem.Spec L2
section
variable {X:Cx} {Γ:eZ} {c:Cz}
end
section
variable {X:Cx} {Γ:eZ} {c:Cz}
end
end J
namespace J
open PySem PySem.Spec L2
theorem nN{κ:Type}[DecidableEq κ]{v:V}:∀(kvs:List (κ×V)) (k:κ) (j:Nat),(kvs.map (·.1)).Nodup->kvs.findIdx? (λkv=>decide (kv.1=k))=PU j->(kvs.map (λkv=>if kv.1=k then(kv.1,v) else kv)).map (·.2)=(kvs.map (·.2)).set j v
 |[],k,j,_,h=>by simp at h
 |(a,b)::r,k,j,hn,h=>by
  rw[NE] at h;rw[Nu,NB] at hn;by_cases e:a=k
  ·subst e;simp at h;subst h
   have:r.map (λkv=>if kv.1=a then(kv.1,v) else kv)=r:=by
    conv=>rhs;rw[<- List.map_id r]
    refine NP λkv hk=>?_;rw[if_neg λz=>hn.1 (NK.mpr ⟨kv,hk,z⟩)];rfl
   simp[this]
  ·simp only[e,decide_false] at h;obtain⟨j',h',rfl⟩:=aX (by simpa using h);have:=nN (v:=v) r k j' hn.2 h';simp only[Nu,e,if_false,Pp,this]
theorem tD{κ:Type}[DecidableEq κ]{v:V}(kvs:List (κ×V))(k:κ):(kvs.map (λkv=>if kv.1=k then(kv.1,v) else kv)).map (·.1)=kvs.map (·.1):=by
 rw[Nl];refine NP λkv _=>?_;simp only[Function.comp]
 split<;>rfl
theorem c9{κ:Type}[DecidableEq κ]{kvs:List (κ×V)}{k:κ}:(kvs.any λkv=>decide (kv.1=k))=(kvs.findIdx? λkv=>decide (kv.1=k)).isSome:=by
 rw[Pg]
theorem jg{α β:Type}{f:α->β}:∀{l:List α},(l.map f).Nodup->l.Nodup
 |[],_=>.nil
 |a::l,h=>by
  rw[Nu,NB] at h;exact NB.mpr ⟨λz=>h.1 (List.mem_map_of_mem z),jg h.2⟩
theorem AA{H:Hp}{t:Nat}{ks:List DK}{xs:List V}{k:DK}{y v:V}(g:H a=PU o)(q:fD K o (.dic t ks) xs)(h:lA d=PU k)(r:Rp K H S d y)(hk:uU t k=PX)(hz:xs.length<sizeLine) :
  (∀j,bN ks k=PU j->ks.Nodup->∃o':Nat->HO,DPut H a y v (λe=>upd H a (o' e))/\∀e,(∀xs,o' e≠.tup xs)/\fD K (o' e) (.dic t ks) (xs.set j v))/\(bN ks k=PV->∃o':Nat->HO,DPut H a y v (λe=>upd H a (o' e))/\∀e,(∀xs,o' e≠.tup xs)/\fD K (o' e) (.dic t (ks++[k])) (xs++[v])):=by
 rcases q with⟨rfl,kvs,rfl,e1,e2⟩|⟨m,rfl,kvs,ep,rfl,e1,e2⟩
 ·rcases kE h r with⟨x,rfl,rfl⟩|⟨ys,b,rfl,rfl,gb⟩
  ·have e3:bN ks (.inl x)=kvs.findIdx? λkv=>decide (kv.1=x):=by
    unfold bN;rw[e1,Of];congr 1;funext p;simp[Sum.inl.injEq]
   have hl:kvs.length<sizeLine:=by rw[e2] at hz;simpa using hz
   have dp:=DPut.k (k:=x) (v:=v) g hl;refine⟨λj hj hn=>⟨λ_=>.dK (dl kvs x v),dp,λ_=>⟨(λxs h=>by cases h),.inl ⟨rfl,_,rfl,?_,?_⟩⟩⟩,λhj=>⟨λ_=>.dK (dl kvs x v),dp,λ_=>⟨(λxs h=>by cases h),.inl ⟨rfl,_,rfl,?_,?_⟩⟩⟩⟩
   ·rw[e3] at hj;unfold dl;rw[c9,hj,if_pos (by rfl),e1];have:=congrArg (Oz (Sum.inl:aS->DK)) (tD (v:=v) kvs x);simp only[Nl] at this⊢;exact this.symm
   ·rw[e3] at hj;unfold dl;rw[c9,hj,if_pos (by rfl),e2]
    have hn':(kvs.map (·.1)).Nodup:=by
     rw[e1] at hn;have:kvs.map (λp=>(Sum.inl p.1:DK))=(kvs.map (·.1)).map Sum.inl:=by rw[Nl];rfl
     rw[this] at hn;exact jg hn
    exact(nN kvs x j hn' hj).symm
   ·rw[e3] at hj;unfold dl;rw[c9,hj,if_neg (by simp),e1];simp
   ·rw[e3] at hj;unfold dl;rw[c9,hj,if_neg (by simp),e2];simp
  ·cases hk
 ·rcases kE h r with⟨x,rfl,rfl⟩|⟨ys,b,rfl,rfl,gb⟩
  ·cases hk
  ·have e3:bN ks (.inr ys)=kvs.findIdx? λkv=>decide (kv.1=ys):=by
    unfold bN;rw[e1,Of];congr 1;funext p;simp[Sum.inr.injEq]
   have hl:kvs.length<sizeLine:=by rw[e2] at hz;simpa using hz
   have dp:=DPut.t (k:=ys) (v:=v) g (gb m hk) hl;refine⟨λj hj hn=>⟨λe=>.dT m e (dl kvs ys v),dp,λe=>⟨(λxs h=>by cases h),.inr ⟨m,rfl,_,e,rfl,?_,?_⟩⟩⟩,λhj=>⟨λe=>.dT m e (dl kvs ys v),dp,λe=>⟨(λxs h=>by cases h),.inr ⟨m,rfl,_,e,rfl,?_,?_⟩⟩⟩⟩
   ·rw[e3] at hj;unfold dl;rw[c9,hj,if_pos (by rfl),e1];have:=congrArg (Oz (Sum.inr:List (aS ⊕ List aS)->DK)) (tD (v:=v) kvs ys);simp only[Nl] at this⊢;exact this.symm
   ·rw[e3] at hj;unfold dl;rw[c9,hj,if_pos (by rfl),e2]
    have hn':(kvs.map (·.1)).Nodup:=by
     rw[e1] at hn;have:kvs.map (λp=>(Sum.inr p.1:DK))=(kvs.map (·.1)).map Sum.inr:=by rw[Nl];rfl
     rw[this] at hn;exact jg hn
    exact(nN kvs ys j hn' hj).symm
   ·rw[e3] at hj;unfold dl;rw[c9,hj,if_neg (by simp),e1];simp
   ·rw[e3] at hj;unfold dl;rw[c9,hj,if_neg (by simp),e2];simp
section
variable {K:MW} {H:Hp} {S:Pr}
theorem TrL.setAt:∀{ds:List D} {es:List Ow} {r:Ow} {xs:List V} {F F2:Pr} {j:Nat} {d:D} {v:V},TrL K H S ds es r xs F->j<ds.length->Tr K H S d (es.getD j r) v F2->(∀b,F b->¬F2 b)->∃F3:Pr,(∀b,F3 b->F b\/F2 b)/\TrL K H S (ds.set j d) es r (xs.set j v) F3
 |[],_,_,_,_,_,_,_,_,_,hj,_,_=>by simp at hj
 |d0::ds,es,r,xs,F,F2,0,d,v,h,hj,t,dj=>by
  unfold TrL at h;obtain⟨y,ys,F1,F3,rfl,hF,dj1,h1,h2⟩:=h;refine⟨λb=>F2 b\/F3 b,λb z=>z.elim .inr λz=>.inl ((hF b).mpr (.inr z)),?_⟩;show TrL K H S (d::ds) es r (v::ys) _;unfold TrL
  exact⟨v,ys,F2,F3,rfl,λb=>Iff.rfl,λb z1 z2=>dj b ((hF b).mpr (.inr z2)) z1,by cases es<;>simpa using t,h2⟩
 |d0::ds,es,r,xs,F,F2,j+1,d,v,h,hj,t,dj=>by
  unfold TrL at h;obtain⟨y,ys,F1,F3,rfl,hF,dj1,h1,h2⟩:=h
  have eg:es.tail.getD j r=es.getD (j+1) r:=by cases es<;>simp
  obtain⟨F4,a1,a2⟩:=TrL.setAt (j:=j) (d:=d) (v:=v) (F2:=F2) h2 (by simpa using hj) (by rw[eg];exact t) λb z=>dj b ((hF b).mpr (.inr z));refine⟨λb=>F1 b\/F4 b,λb z=>z.elim (λz=>.inl ((hF b).mpr (.inl z))) λz=>(a1 b z).imp (λz=>(hF b).mpr (.inr z)) id,?_⟩;show TrL K H S (d0::ds.set j d) es r (y::ys.set j v) _;unfold TrL;refine⟨y,_,F1,F4,rfl,λb=>Iff.rfl,λb z1 z2=>?_,h1,a2⟩;rcases a1 b z2 with z|z
  ·exact dj1 b z1 z
  ·exact dj b ((hF b).mpr (.inl z1)) z
end
noncomputable def lG(es:List Ow)(r:Ow)(hd:Hd)(ds:List D)(dx:D)(x:KD):Option (Hd×List D):=match hd with
 |.lst=>(match dx with|.int z=>(match kn ds.length z with|some j=>if dc (es.getD j r) x=PX then PU (.lst,ds.set j x.2) else PV|none=>PV)|_=>PV)
 |.dic t ks=>(match lA dx with
  |some k=>if uU t k=PX/\ds.length<100000 then(match bN ks k with
   |some j=>if dc (es.getD j r) x=PX/\ks.Nodup/\j<ds.length then PU (.dic t ks,ds.set j x.2) else PV
   |none=>if es.length<=ds.length/\dc r x=PX then PU (.dic t (ks++[k]),ds++[x.2]) else PV) else PV
  |none=>PV)
 |_=>PV
noncomputable def vm(i:Nat)(fp:Ro->Option (Ow×D×(D->D)))(fk:Ro->Option KD)(a:MR):Option Res:=match a with
 |some (kd,d,ρ1)=>(match fp ρ1,fk ρ1,ρ1[i]? with
  |some (.own es r,.nd hd ds,up),PU (_,dx),PU (PU ⟨PY,k,_⟩)=>(match lG es r hd ds dx (eI kd d,d) with
   |some (hd',ds')=>PU (.nx (ρ1.set i (PU ⟨PY,k,up (.nd hd' ds')⟩)))
   |none=>PV)
  |_,_,_=>PV)
 |none=>PV
theorem vn{n:Nat}:swapsWithSole [.Subscript o b sp] e n env=pure PY:=by
 cases e<;>rfl
theorem AB:swappedStores [.Subscript o b sp] e env=pure PV:=by
 cases e<;>rfl
section
variable {X:Cx} {Γ:eZ} {c:Cz} {pn:List Nat}
theorem ya{H H0:Hp}{g g0:Gh}{ρ:Ro}{i:Nat}{up:D->D}{xs:List V}{x:KD}{Dn:di}(hpd:lG es r hd ds dx x=PU (hd',ds'))(nd:nH K H g F ρ σ i k es r hd ds up a o xs F')(ev:Evo g0 H0 g H F)(se:SE K (g.plus F) ρ σ H)(vr:VR1 K H g F x.1 x.2 v F)(ry:Rp K H S dx y)(q:EndM K pn g0 H0 σ Dn (.nx (ρ.set i (PU ⟨PY,k,up (.nd hd' ds')⟩)))) :
  (∃z j,hd=.lst/\y=.int z/\o=.lst xs/\H a=PU o/\kn xs.length z=PU j/\Dn.nx σ (upd H a (.lst (xs.set j v))))\/((∃t ks,hd=.dic t ks)/\∃F4,DPut H a y v F4/\∀e,Dn.nx σ (F4 e)):=by
 have hF:∀b,F b->g b=PV:=λb z=>(ev.tmp b z).1;have mm:MuOk H (Sx g F):=λb z=>se.mu b ((ar b).mpr z);have sub:∀(F2:Pr),(∀b,F2 b->F b)->∀b,Sg (g.give F2 i) b->Sg (g.plus F) b:=λF2 s2 b z=>(ar b).mpr ((give_S.mp z).imp id (s2 b))
 have fin:∀{kc:Ow},dc kc x=PX->∃F2:Pr,(∀b,F2 b->F b)/\Tr K H (Sg (g.give F2 i)) x.2 kc v F2/\(∀b,F' b->¬F2 b):=λ{kc} hf=>by
  obtain⟨F2,a1,a2⟩:=VR1.fit (p:=x) hf mm hF (λb z=>z) vr;refine⟨F2,a1,a2 _ λb z=>?_,λb z1 z2=>by have:=nd.lab b z1;rw[hF b (a1 b z2)] at this;cases this⟩;exact(give_S.mp z).elim (λz=>.inr (.inl z)) λz=>.inr (.inr (.inl z))
 have out:∀{o':HO} {F2:Pr},(∀b,F2 b->F b)->SE K (g.give F2 i) (ρ.set i (PU ⟨PY,k,up (.nd hd' ds')⟩)) σ (upd H a o')->Dn.nx σ (upd H a o'):=λ{o' F2} s2 s=>q σ _ _ (ev.give s2 nd.own) s PinOk.refl;unfold lG at hpd;split at hpd
 ·split at hpd
  ·rename_i z;split at hpd
   ·rename_i j hj;split at hpd
    ·rename_i hf;cases hpd;obtain⟨F2,b1,b2,b3⟩:=fin hf;have ho:o=.lst xs:=nd.ok;have hlen:=nd.kids.len;have hj':j<ds.length:=(mX hj).2.1;obtain⟨F3,c1,c2⟩:=(nd.kids.go (S':=Sg (g.give F2 i)) (λ_ _ _ e=>e) λb o _ n z=>n (sub F2 b1 b z)).setAt hj' b2 b3;exact .inl ⟨z,j,rfl,ry.int,ho,nd.at_,by rw[hlen];exact hj,out b1 (nd.put (.lst (xs.set j v)) .lst _ _ F2 F3 rfl rfl (λxs h=>by cases h) b1 c1 c2)⟩
    ·cases hpd
   ·cases hpd
  ·cases hpd
 ·rename_i t ks;split at hpd
  ·rename_i kk hk;split at hpd
   ·rename_i hfk;have hlen:=nd.kids.len;obtain⟨p1,p2⟩:=AA (v:=v) nd.at_ nd.ok hk ry hfk.1 (by rw[hlen];exact M6 hfk.2 (bd (M8 _)));split at hpd
    ·rename_i j hj;split at hpd
     ·rename_i hf;cases hpd;obtain⟨o',d1,d2⟩:=p1 j hj hf.2.1;obtain⟨F2,b1,b2,b3⟩:=fin hf.1;obtain⟨F3,c1,c2⟩:=(nd.kids.go (S':=Sg (g.give F2 i)) (λ_ _ _ e=>e) λb o _ n z=>n (sub F2 b1 b z)).setAt hf.2.2 b2 b3;exact .inr ⟨⟨t,ks,rfl⟩,_,d1,λe=>out b1 (nd.put (o' e) (.dic t ks) _ _ F2 F3 rfl (d2 e).2 (d2 e).1 b1 c1 c2)⟩
     ·cases hpd
    ·rename_i hj;split at hpd
     ·rename_i hf;cases hpd;obtain⟨o',d1,d2⟩:=p2 hj;obtain⟨F2,b1,b2,b3⟩:=fin hf.2;have c2:=TrL.snoc2 hf.1 (nd.kids.go (S':=Sg (g.give F2 i)) (λ_ _ _ e=>e) λb o _ n z=>n (sub F2 b1 b z)) b2 b3;exact .inr ⟨⟨t,ks,rfl⟩,_,d1,λe=>out b1 (nd.put (o' e) (.dic t (ks++[kk])) _ _ F2 _ rfl (d2 e).2 (d2 e).1 b1 (λb z=>z) c2)⟩
     ·cases hpd
   ·cases hpd
  ·cases hpd
 ·cases hpd
theorem Il(O:al X Γ c){f:Ro->MR}{i:Nat}{fp:Ro->Option (Ow×D×(D->D))}{fk:Ro->Option KD}{b k e:P0}{sp pos:Pos}(hf:bB X f e)(hp:vc X i fp b)(hk:SndE X fk k)(hpl:dq k=PX)(hn:eP e=PX):SndS X pn (λρ=>vm i fp fk (f ρ)) (.Assign [.Subscript b k sp] e pos):=by
 intro ρ r h g σ H Dn se q;dsimp only[vm] at h;split at h
 ·rename_i kd d ρ1 he;split at h
  ·rename_i es r0 hd ds up kx dx kk d0 ep ek ei;split at h
   ·rename_i hd' ds' hpd;cases h
    have mu:hd.mu=PX:=by
     cases hd with
     |tup=>simp[lG] at hpd
     |_=>rfl
    have core:∀v g1 H1 F,Evo g H g1 H1 F->SE X.K (g1.plus F) ρ1 σ H1->VR1 X.K H1 g1 F kd d v F->∀v1 H2 w Fi k' d',Same H1 H2->ρ1[i]?=PU (PU ⟨PY,k',d'⟩)->σ[i]?=PU (PU w)->(∀b,Fi b->(g1.plus F) b=PU (PU i))->FP X.K H2 (Sg (g1.plus F)) k' w Fi (.own es r0) (.nd hd ds) v1 up->∀y H3,Same H2 H3->VR X.K (g1.plus F) H2 H3 kx dx y->
      ∃a o xs F',v1=.ref a/\nH X.K H3 g1 F ρ1 σ i kk es r0 hd ds up a o xs F'/\((∃z j,hd=.lst/\y=.int z/\o=.lst xs/\H3 a=PU o/\kn xs.length z=PU j/\Dn.nx σ (upd H3 a (.lst (xs.set j v))))\/((∃t ks,hd=.dic t ks)/\∃F4,DPut H3 a y v F4/\∀e,Dn.nx σ (F4 e))):=by
     intro v g1 H1 F ev se1 vr v1 H2 w Fi k' d' s2 ei' ew lb fp1 y H3 s3 ry;rw[ei] at ei';cases ei';have u8:=s2.trans s3;have se3:=se1.same u8;have ev3:Evo g H g1 H3 F:=⟨λb o n e=>u8 _ _ (ev.keep b o n e),ev.out,ev.new,ev.tmp,λb o e=>let ⟨o',q1⟩:=ev.dom b o e;⟨o',u8 _ _ q1⟩⟩;obtain⟨a,o,xs,F',rfl,nd⟩:=FP.node se3 (λb z=>(ev.tmp b z).1) ei ew lb (fp1.same s3) mu;exact⟨a,o,xs,F',rfl,nd,ya (x:=(eI kd d,d)) hpd nd ev3 se3 ((vr.im se1.mu).go u8 λ_ _ _ z=>z) ry.rd q⟩
    cases hd with
    |lst=>
     refine bP (mP aF (C9 aF aF wH (by intro v;cases k<;>first|rfl|cases hpl)) vn AB) ?_
     refine hf ρ _ _ _ he g σ H _ se λv g1 H1 F ev se1 vr=>hp ρ1 _ _ _ ep (g1.plus F) σ H1 _ se1 λv1 H2 w Fi k' d' s2 ei' ew lb fp1=>hk ρ1 _ _ ek (g1.plus F) σ H2 _ (se1.same s2) λy H3 s3 ry=>?_;obtain⟨a,o,xs,F',rfl,nd,fin⟩:=core v g1 H1 F ev se1 vr v1 H2 w Fi k' d' s2 ei' ew lb fp1 y H3 s3 ry;rcases fin with⟨z,j,_,rfl,rfl,g3,hj,fin⟩|⟨⟨t,ks,z⟩,_⟩
     ·exact⟨a,xs,z,j,rfl,rfl,g3,hj,fin⟩
     ·cases z
    |dic t ks=>
     refine bP (zI (by have:=O.tab.units;lia) aF aF aF (f9 hn)) ?_;refine hf ρ _ _ _ he g σ H _ se λv g1 H1 F ev se1 vr=>hp ρ1 _ _ _ ep (g1.plus F) σ H1 _ se1 λv1 H2 w Fi k' d' s2 ei' ew lb fp1=>hk ρ1 _ _ ek (g1.plus F) σ H2 _ (se1.same s2) λy H3 s3 ry=>?_;obtain⟨a,o,xs,F',rfl,nd,fin⟩:=core v g1 H1 F ev se1 vr v1 H2 w Fi k' d' s2 ei' ew lb fp1 y H3 s3 ry;rcases fin with⟨z,j,zz,_⟩|⟨_,H4,d1,fin⟩
     ·cases zz
     ·exact⟨a,H4,rfl,d1,fin⟩
    |tup=>cases mu
    |obj c ns=>simp[lG] at hpd
   ·cases h
  ·cases h
 ·cases h
end
end J
namespace J
open PySem PySem.Spec L2
mutual
inductive IS where
 |asg (i:Nat) (a:ME)
 |unp (is:List Nat) (a:ME)
 |aug (i:Nat) (op:Qd) (a:ME)
 |put (b:BP) (k:IE) (a:ME)
 |putF (c:Str) (b:BP) (f:Str) (a:ME)
 |putM (i:Nat) (as:jx)
 |par (i j:Nat) (es:gg)
 |ret (a:ME)
 |retN
 |ifs (t:MT) (a b:bZ)
 |fo (fg:List Nat) (tg:IT) (it:MI) (b:bZ)
 |wh (fg:List Nat) (t:MT) (b:bZ)
 |pas
 |brk
 |cnt
 |exp (a:ME)
 |pre (is:List Nat) (s:IS)
 |fap (i x:Nat) (v:Int)
 |stk
inductive bZ where
 |nil
 |cons (s:IS) (r:bZ)
end
mutual
noncomputable def dh(Γ:GG)(N:Nat):IS->List Nat->Ro->Option Res
 |.asg i a,pn,ρ=>q0 pn i (ba Γ a ρ)
 |.unp is a,pn,ρ=>xT pn is (ba Γ a ρ)
 |.aug i op a,pn,ρ=>xZ pn i op ρ[i]? (ba Γ a ρ)
 |.put b k a,_,ρ=>vm b.slot (qX Γ.fn b) (aj Γ.fn k) (ba Γ a ρ)
 |.putF c b f a,_,ρ=>PV
 |.putM i as,_,ρ=>PV
 |.par i j es,pn,ρ=>xX pn i j (aW Γ.fn es ρ) ρ
 |.ret a,_,ρ=>xV (ba Γ a ρ)
 |.retN,_,ρ=>PV
 |.ifs t a b,pn,ρ=>vj (bh Γ t ρ) (aP Γ N a pn) (aP Γ N b pn)
 |.fo fg tg it b,pn,ρ=>mq pn fg tg (aP Γ N b) (dA Γ it ρ)
 |.wh fg t b,pn,ρ=>gR fg (bh Γ t) (aP Γ N b pn) N ρ
 |.pas,_,ρ=>PU (.nx ρ)
 |.brk,_,ρ=>PV
 |.cnt,_,ρ=>PU (.ct ρ)
 |.exp a,_,ρ=>vi (ba Γ a ρ)
 |.pre is s,pn,ρ=>dh Γ N s pn (frzN is ρ)
 |.fap i x v,pn,ρ=>PV
 |.stk,_,_=>PV
noncomputable def aP(Γ:GG)(N:Nat):bZ->List Nat->Ro->Option Res
 |.nil,_,ρ=>PU (.nx ρ)
 |.cons s r,pn,ρ=>gw (dh Γ N s pn ρ) (aP Γ N r pn)
end
section
theorem AC{N:Nat}:dh Γ N (.asg i a) pn ρ=q0 pn i (ba Γ a ρ):=rfl
theorem tE{N:Nat}:dh Γ N (.unp is a) pn ρ=xT pn is (ba Γ a ρ):=rfl
theorem AD{N:Nat}:dh Γ N (.aug i op a) pn ρ=xZ pn i op ρ[i]? (ba Γ a ρ):=rfl
theorem AE{Γ:GG}{N:Nat}:dh Γ N (.put b k a) z0 ρ=vm b.slot (qX Γ.fn b) (aj Γ.fn k) (ba Γ a ρ):=rfl
theorem AF{Γ:GG}{N:Nat}:dh Γ N (.par i j es) pn ρ=xX pn i j (aW Γ.fn es ρ) ρ:=rfl
theorem AG{N:Nat}:dh Γ N (.ret a) z0 ρ=xV (ba Γ a ρ):=rfl
theorem nO{N:Nat}:dh Γ N (.ifs t a b) pn ρ=vj (bh Γ t ρ) (aP Γ N a pn) (aP Γ N b pn):=rfl
theorem nP{N:Nat}:dh Γ N (.fo fg tg it b) pn ρ=mq pn fg tg (aP Γ N b) (dA Γ it ρ):=rfl
theorem EN{N:Nat}:dh Γ N (.wh fg t b) pn ρ=gR fg (bh Γ t) (aP Γ N b pn) N ρ:=rfl
theorem AH{N:Nat}:dh Γ N (.cnt) z0 ρ=PU (.ct ρ):=rfl
theorem tF{N:Nat}:dh Γ N (.exp a) z0 ρ=vi (ba Γ a ρ):=rfl
theorem AI{N:Nat}:dh Γ N (.pre is s) pn ρ=dh Γ N s pn (frzN is ρ):=rfl
end
theorem yb{f:Ro->Option Res}(h:∀ρ,f ρ=PV):SndS X pn f e:=λρ r hh=>by rw[h] at hh;cases hh
structure An where
 fg:Nat->List Nat:=λ_=>[]
 pz:Nat->List Nat:=λ_=>[]
 fa:Nat->Bool:=λ_=>PY
 sk:Nat->Bool:=λ_=>PY
noncomputable def pH(f:P9->Option IS):List P9->Option bZ
 |[]=>PU .nil
 |s::r=>match f s,pH f r with|some a,PU b=>PU (.cons a b)|_,_=>PV
noncomputable def rc:P9->Nat
 |.Assign _ _ p=>p.line
 |.AugAssign _ _ _ p=>p.line
 |.Return _ p=>p.line
 |.Expr _ p=>p.line
 |.If _ _ _ p=>p.line
 |.For _ _ _ _ p=>p.line
 |.While _ _ _ p=>p.line
 |.Raise _ _ p=>p.line
 |.Try _ _ _ _ p=>p.line
 |.Delete _ p=>p.line
 |_=>0
noncomputable def tG:P0->Bool
 |.ListComp _ gs _ _=>(match gs with|[]=>PY|g::gs=>(match gs with|[]=>g.is_async==0|_::_=>PY))
 |_=>PY
noncomputable def Cc(l:List Nat)(s:Option IS):Option IS:=match l,s with
 |[],s=>s
 |l,PU s=>PU (.pre l s)
 |_,PV=>PV
noncomputable def Cd:P0->Bool
 |.Constant (.str _) _ _=>PX
 |_=>PY
noncomputable def Ce(f:Str):List (Str×List Str)->Option Str
 |[]=>PV
 |(c,fs)::r=>if f∈fs then PU c else Ce f r
noncomputable def Cf(fns:Nms)(f:Str):Option Str:=match Ce f fns.cls with
 |some c=>(match fns.cls.lookup c with|some fs=>if f∈fs then PU c else PV|none=>PV)
 |none=>PV
noncomputable def vo(e:P0):Option (Str×Pos):=match e with|.Name x p=>PU (x,p)|_=>PV
theorem nQ{p:Str×Pos}(h:vo e=PU p):e=.Name p.1 p.2:=by
 cases e with
 |Name x q=>cases h;rfl
 |_=>cases h
noncomputable def K3(es:List P0):Option ((Str×Pos)×Str×Pos):=match es with
 |[]=>PV
 |a::es=>match es with
  |[]=>PV
  |b::es=>match es with
   |_::_=>PV
   |[]=>(vo a).bind λx=>(vo b).map λy=>(x,y)
theorem EO{p:(Str×Pos)×Str×Pos}(h:K3 es=PU p):es=[.Name p.1.1 p.1.2,.Name p.2.1 p.2.2]:=by
 cases es with
 |nil=>cases h
 |cons a es=>cases es with
  |nil=>cases h
  |cons b es=>cases es with
   |cons _ _=>cases h
   |nil=>
    obtain⟨x,e1,h⟩:=NY.mp (show(vo a).bind _=PU p from h);obtain⟨y,e2,rfl⟩:=aX h;rw[nQ e1,nQ e2]
noncomputable def Im(e:P0):Option ((Str×Pos)×P0):=match e with
 |.Tuple vs _ _=>(match vs with
  |[]=>PV
  |a::vs=>match vs with
   |[]=>PV
   |b::vs=>match vs with
    |_::_=>PV
    |[]=>(vo a).map λx=>(x,b))
 |_=>PV
theorem AJ{p:(Str×Pos)×P0}(h:Im e=PU p):∃k q,e=.Tuple [.Name p.1.1 p.1.2,p.2] k q:=by
 cases e with
 |Tuple vs k q=>cases vs with
  |nil=>cases h
  |cons a vs=>cases vs with
   |nil=>cases h
   |cons b vs=>cases vs with
    |cons _ _=>cases h
    |nil=>
     obtain⟨x,e1,rfl⟩:=aX (show(vo a).map _=PU p from h);exact⟨k,q,by rw[nQ e1]⟩
 |_=>cases h
noncomputable def Io(fns:Nms)(m:Nat)(c:Cz)(es:List P0)(e:P0):Option IS:=(K3 es).bind λt=>(Im e).bind λv=>
 if pC c t.1.1 t.2.1 v.1.1 t.1.2 t.2.2&&ag v.2 then(bz t.1.1 c.N).bind λi=>(bz t.2.1 c.N).bind λj=>(df (cE fns (m+1) c) [.Name v.1.1 v.1.2,v.2]).map λes=>.par i j es else PV
theorem AK{m:Nat}{c:Cz}(h:Io fns m c es e=PU a):∃x y z w px py pz k p i j ies,es=[.Name x px,.Name y py]/\e=.Tuple [.Name z pz,w] k p/\(pC c x y z px py&&ag w)=PX/\bz x c.N=PU i/\bz y c.N=PU j/\df (cE fns (m+1) c) [.Name z pz,w]=PU ies/\a=.par i j ies:=by
 obtain⟨t,e1,h⟩:=NY.mp (show(K3 es).bind _=PU a from h);obtain⟨v,e2,h⟩:=NY.mp h;obtain⟨k,q,e3⟩:=AJ e2;by_cases hp:(pC c t.1.1 t.2.1 v.1.1 t.1.2 t.2.2&&ag v.2)=PX
 ·rw[if_pos hp] at h;obtain⟨i,h1,h⟩:=NY.mp h;obtain⟨j,h2,h⟩:=NY.mp h;obtain⟨ies,h3,e4⟩:=aX h;exact⟨_,_,_,_,_,_,_,k,q,i,j,ies,EO e1,e3,hp,h1,h2,h3,e4⟩
 ·rw[if_neg hp] at h;cases h
noncomputable def Cg(fns:Nms)(m:Nat)(c:Cz)(b k e:P0):Option IS:=match b with
 |.Name z _=>(match ef c z,nK (cM fns (m+1) c) (cE fns (m+1) c) [e,k] with|some i,PU as=>PU (.putM i as)|_,_=>PV)
 |_=>PV
noncomputable def Gk(fns:Nms)(m:Nat)(c:Cz)(ts:List P0)(e:P0):Option IS:=match ts with
 |[]=>PV
 |t::ts=>match ts with
  |_::_=>PV
  |[]=>match t with
   |.Name x _=>if nr c x&&(eP e||tG e) then(match bz x c.N,cM fns (m+1) c e with|some i,PU a=>PU (.asg i a)|_,_=>PV) else PV
   |.Tuple es _ _=>if tf e then(match vh c es,cM fns (m+1) c e with|some is,PU a=>PU (.unp is a)|_,_=>PV) else Io fns m c es e
   |.Subscript b k _=>if dq k&&eP e then(match Gi c (cE fns (m+1) c) 6 b,cE fns (m+1) c k,cM fns (m+1) c e with|some b,PU k,PU a=>PU (.put b k a)|_,_,_=>Cg fns m c b k e) else PV
   |.Attribute b z _=>if eP e then(match Cf fns z,Gi c (cE fns (m+1) c) 6 b,cM fns (m+1) c e with|some cl,PU b,PU a=>PU (.putF cl b z a)|_,_,_=>PV) else PV
   |_=>PV
noncomputable def K4(fns:Nms)(m:Nat)(c:Cz)(t:P0)(op:Qd)(e:P0):Option IS:=match t with
 |.Name x _=>if nr c x then(match bz x c.N,cM fns (m+1) c e with|some i,PU a=>PU (.aug i op a)|_,_=>PV) else PV
 |_=>PV
noncomputable def Ip(c:Cz)(tg iter:P0)(body:List P9):Option IS:=PV
noncomputable def Mb(fns:Nms)(an:An)(m:Nat)(c:Cz)(rec:List P9->Option bZ)(tg iter:P0)(body els:List P9)(p:Pos):Option IS:=match els with
 |_::_=>PV
 |[]=>if an.fa p.line then Ip c tg iter body else if d4 iter then(match oz c 4 tg,xR c (cM fns (m+1) c) (Ea c (cE fns (m+1) c) tg iter) tg iter,rec body with|some t,PU it,PU b=>PU (.fo (an.fg p.line) t it b)|_,_,_=>PV) else PV
noncomputable def Gm(fns:Nms)(an:An)(m:Nat)(c:Cz)(rec:List P9->Option bZ):P9->Option IS
 |.Assign ts e _=>Gk fns m c ts e
 |.AugAssign t op e _=>K4 fns m c t op e
 |.Return e _=>(match e with|some e=>(cM fns (m+1) c e).map .ret|none=>PU .retN)
 |.Expr e _=>if Cd e then PU .pas else if eP e then(cM fns (m+1) c e).map .exp else PV
 |.If t a b _=>(match v7 fns (m+1) c t,rec a,rec b with|some t,PU a,PU b=>PU (.ifs t a b)|_,_,_=>PV)
 |.For tg iter body els p=>Mb fns an m c rec tg iter body els p
 |.While t body els p=>(match els with|_::_=>PV|[]=>(match v7 fns (m+1) c t,rec body with|some t,PU b=>PU (.wh (an.fg p.line) t b)|_,_=>PV))
 |.Pass _=>PU .pas
 |.Break _=>PU .brk
 |.Continue _=>PU .cnt
 |_=>PV
noncomputable def cS(fns:Nms)(an:An)(m:Nat)(c:Cz):Nat->P9->Option IS
 |0,_=>PV
 |n+1,s=>if an.sk (rc s)=PX then PU .stk else Cc (an.pz (rc s)) (Gm fns an m c (pH (cS fns an m c n)) s)
noncomputable abbrev cB(fns:Nms)(an:An)(m:Nat)(c:Cz)(n:Nat):List P9->Option bZ:=pH (cS fns an m c n)
section
variable {X:Cx} {c:Cz} (fns:Nms) (Γ:GG)
theorem vp{x:Str}{n:Nat}:∃b:Bool,swapsWith (.ListComp elt [⟨tg,iter,ifs,0⟩] scope cp) (PU (.Name x p)) n env=pure b:=⟨_,rfl⟩
theorem EQ(O:al X (a7 fns Γ) c){m i:Nat}{x:Str}{e:P0}{a:ME}{p pos:Pos}(hl:nr c x=PX)(hi:bz x c.N=PU i)(hc:tG e=PX)(ha:cM fns (m+1) c e=PU a):SndS X pn (λρ=>q0 pn i (ba Γ a ρ)) (.Assign [.Name x p] e pos):=by
 have hs:∃elt tg iter ifs scope cp,e=.ListComp elt [⟨tg,iter,ifs,0⟩] scope cp:=by
  cases e with
  |ListComp elt gs scope cp=>cases gs with
   |nil=>cases hc
   |cons g gs=>cases gs with
    |cons _ _=>cases hc
    |nil=>
     cases g with
     |mk tg iter ifs as=>
      have h0:as=0:=eq_of_beq (show(as==0)=PX from hc);subst h0;exact⟨_,_,_,_,_,_,rfl⟩
  |_=>cases hc
 obtain⟨elt,tg,iter,ifs,scope,cp,rfl⟩:=hs;have l:=i4 O hl;have hf:=(c8 fns Γ (m+1)).1 X c O _ _ ha;intro ρ r h g σ H Dn se q
 cases hf':ba Γ a ρ with
 |none=>dsimp only at h;rw[hf'] at h;cases h
 |some w=>
  obtain⟨kd,d,ρ1⟩:=w;dsimp only at h;rw[hf'] at h;obtain⟨b,hb⟩:=vp (elt:=elt) (tg:=tg) (iter:=iter) (ifs:=ifs) (scope:=scope) (cp:=cp) (p:=p) (x:=x) (n:=pos.line) (env:=X.env)
  cases b with
  |false=>exact bP (ki (i:=i) (by rw[O.N];exact O.nd) (by rw[O.N];exact bf hi) l.1 aF hb l.2) (hf ρ kd d ρ1 hf' g σ H _ se λv g1 H1 F ev se1 vr=>kU h q ev se1 vr)
  |true=>
   have fin:∀{hck:bO c scope=PX} {hns:d4 iter=PX},iZ (wI X tg iter) (λv σ H Q=>∀C s H0 ex,wG (aV X (aq scope) scope C s H0 ex) tg v σ H Q) (λσ H Q=>∀C s H0 ex,Gc (aV X (aq scope) scope C s H0 ex) ifs σ H Q) (λσ H Q=>∀C s H0 ex,wE (aV X (aq scope) scope C s H0 ex) elt σ H Q) (aM c scope) σ H (λv H1=>kh i v σ H1 Dn.nx)->Gj X (.Assign [.Name x p] (.ListComp elt [⟨tg,iter,ifs,0⟩] scope cp) pos) Dn σ H:=λ{hck hns} ht=>
    bP (w5 (N':=aq scope) (cap:=aM c scope) O.calm (gH O hck) w6
     (λC s H0 ex pins s' σ' H' v u Q' I r hh=>w8 pins s' σ' H' v u Q' I r (hh C s H0 ex)) (λC s H0 ex pins s' σ' H' Q' I hh=>hh C s H0 ex pins s' I) (λC s H0 ex pins s' σ' H' Q' I hh=>hh C s H0 ex pins s' I) (eA hns)
     (by rw[O.N];exact O.nd) (by rw[O.N];exact bf hi) l.1 l.2 hb) ht
   have post:∀v g' H' F,Evo g H g' H' F->SE X.K (g'.plus F) ρ1 σ H'->VR1 X.K H' g' F kd d v F->kh i v σ H' Dn.nx:=λv g1 H1 F ev se1 vr=>kU h q ev se1 vr
   cases hce:cE fns m c (.ListComp elt [⟨tg,iter,ifs,0⟩] scope cp) with
   |some ie=>
    have ha2:PU (ME.p ie)=PU a:=by rw[<- ha];show _=(match cE fns m c _ with|some ie=>PU (ME.p ie)|none=>_);rw[hce]
    cases ha2
    cases m with
    |zero=>cases(show(PV:Option IE)=PU _ from hce)
    |succ m=>
     have hie:HI fns c (cE fns m) (cT fns m) elt [⟨tg,iter,ifs,0⟩] scope cp=PU ie:=hce;unfold HI at hie;dsimp only at hie;rw[if_pos rfl] at hie;split at hie
     ·rename_i hn;rw[MX] at hn;split at hie
      ·rename_i t it ts el ht hit hts hel;cases hie;have pure:=bR (fm:=gP fns Γ) fns Γ.fn m;have CO:=fZ O hn.2
       have hv:aj Γ.fn (.comp ((fns.an cp.line cp.col).getD Ow.fz) (aM c scope) t it ts el) ρ=PU (kd,d)/\ρ1=ρ:=by
        rw[sW] at hf';unfold HV at hf';split at hf'
        ·rename_i e';cases hf';exact⟨e',rfl⟩
        ·cases hf'
       obtain⟨hv,rfl⟩:=hv;rw[pc] at hv
       exact fin (hck:=hn.2) (hns:=hn.1) (xx O hn.2 (xG fns Γ.fn O (pure.1 X c O) hit) ht (λC s H ex=>sO Γ.fn (pure.2 _ _ (CO C s H ex)) hts) (λC s H ex=>pure.1 _ _ (CO C s H ex) _ _ hel) hv se λv H' s ⟨F,h1,h2⟩=>
        post v g H' F (c5 s h1 λb z=>eN se.mu (h1 b z)) (se.plus s h1 h2.dom) h2)
      ·cases hie
     ·cases hie
   |none=>
    have ha2:vg fns c (cM fns m) (cE fns m) (v7 fns m) elt [⟨tg,iter,ifs,0⟩] scope cp=PU a:=by
     replace ha:(match cE fns m c (.ListComp elt [⟨tg,iter,ifs,0⟩] scope cp) with|some ie=>PU (ME.p ie)|none=>vg fns c (cM fns m) (cE fns m) (v7 fns m) elt [⟨tg,iter,ifs,0⟩] scope cp)=PU a:=ha
     rw[hce] at ha;exact ha
    obtain⟨tg',iter',ifs',t,it,ts,el,hq,hn1,hn2,ht,hit,hts,hel,rfl⟩:=sZ fns ha2;cases hq;have pure:=bR (fm:=gP fns Γ) fns Γ.fn m;have CO:=fZ O hn2;rw[pw] at hf'
    first|(cases hf';done)|exact fin (hck:=hn2) (hns:=hn1) (sU O hn2 (nL fns Γ O ((c8 fns Γ m).1 X c O) (pure.1 X c O) hit) ht (λC s H ex=>pB Γ ((c8 fns Γ m).2 _ _ (CO C s H ex)) hts) (λC s H ex=>(c8 fns Γ m).1 _ _ (CO C s H ex) _ _ hel) hf' se post)
theorem gT{f:P9->Option IS}{N:Nat}(hf:∀s a,f s=PU a->∀pn,SndS X pn (dh Γ N a pn) s):∀{st:List P9} {b:bZ},pH f st=PU b->∀pn,SndB X pn (aP Γ N b pn) st
 |[],b,h,pn=>by
  cases h;rw[show aP Γ N .nil pn=λρ=>PU (.nx ρ) by funext ρ;rw[aP]];exact Cb
 |s::st,b,h,pn=>by
  unfold pH at h;split at h
  ·rename_i a r ha hr;cases h
   rw[show aP Γ N (.cons a r) pn=λρ=>gw (dh Γ N a pn ρ) (aP Γ N r pn) by funext ρ;conv=>lhs;rw[aP]]
   exact q5 (hf s a ha pn) (gT hf hr pn)
  ·cases h
theorem K5(O:al X (a7 fns Γ) c){m N:Nat}{ts:List P0}{e:P0}{pos:Pos}{a:IS}(h:Gk fns m c ts e=PU a)(pn:List Nat):SndS X pn (dh Γ N a pn) (.Assign ts e pos):=by
 have hM:=(c8 fns Γ (m+1)).1 X c O;have hE:=(bR (fm:=gP fns Γ) fns Γ.fn (m+1)).1 X c O
 cases ts with
 |nil=>cases h
 |cons t ts=>cases ts with
  |cons _ _=>cases h
  |nil=>cases t with
   |Name x p=>
    dsimp only[Gk] at h;split at h
    ·rename_i hl;rw[MX,Oa] at hl;split at h
     ·rename_i i a' hi ha;cases h;rw[show dh Γ N (.asg i a') pn=λρ=>q0 pn i (ba Γ a' ρ) from funext λ_=>rfl];rcases hl.2 with hc|hc
      ·exact H9 O hl.1 hi hc (hM _ _ ha)
      ·exact EQ fns Γ O hl.1 hi hc ha
     ·cases h
    ·cases h
   |Tuple es k p=>
    dsimp only[Gk] at h;split at h
    ·rename_i hn;split at h
     ·rename_i is a' his ha;cases h
      (rw[show dh Γ N (.unp is a') pn=λρ=>xT pn is (ba Γ a' ρ) from funext λ_=>rfl];exact Ia O (hM _ _ ha) his hn)
     ·cases h
    ·obtain⟨x,y,z,w,px,py,pz,k2,p2,i,j,ies,rfl,rfl,hp,h1,h2,h3,rfl⟩:=AK h;rw[MX] at hp
     (rw[show dh Γ N (.par i j ies) pn=λρ=>xX pn i j (aW Γ.fn ies ρ) ρ from funext λ_=>rfl];exact Ih O (cZ Γ.fn hE h3).1 h1 h2 hp.1 hp.2)
   |Subscript b k p=>
    dsimp only[Gk] at h;split at h
    ·rename_i hn;rw[MX] at hn;split at h
     ·rename_i b' k' a' hb hk ha;cases h
      (rw[show dh Γ N (.put b' k' a') pn=λρ=>vm b'.slot (qX Γ.fn b') (aj Γ.fn k') (ba Γ a' ρ) from funext λ_=>rfl];exact Il O (hM _ _ ha) (EE Γ O hE _ hb) (hE _ _ hk) hn.1 hn.2)
     ·unfold Cg at h;split at h
      ·split at h
       ·rename_i i as hi has;cases h;exact yb λ_=>rfl
       ·cases h
      ·cases h
    ·cases h
   |Attribute b z p=>
    dsimp only[Gk] at h;split at h
    ·rename_i hn;split at h
     ·rename_i cl b' a' hcl hb ha;cases h
      have hok:∀C,OB X.K Qh cl=PU (PU (.ref C))->Cls X.K C/\mS X.K C z:=λC hC=>by
       unfold Cf at hcl;split at hcl
       ·split at hcl
        ·rename_i fs hfs;split at hcl
         ·rename_i hz;cases hcl;obtain⟨h1,h2⟩:=O.tab.cf cl fs C hfs hC;exact⟨h1,h2 z hz⟩
         ·cases hcl
        ·cases hcl
       ·cases hcl
      exact yb λ_=>rfl
     ·cases h
    ·cases h
   |_=>cases h
theorem K6(O:al X (a7 fns Γ) c){m N:Nat}{t:P0}{op:Qd}{e:P0}{pos:Pos}{a:IS}(h:K4 fns m c t op e=PU a)(pn:List Nat):SndS X pn (dh Γ N a pn) (.AugAssign t op e pos):=by
 have hM:=(c8 fns Γ (m+1)).1 X c O
 cases t with
 |Name x p=>
  dsimp only[K4] at h;split at h
  ·rename_i hl;split at h
   ·rename_i i a' hi ha;cases h
    (rw[show ∀op,dh Γ N (.aug i op a') pn=λρ=>xZ pn i op ρ[i]? (ba Γ a' ρ) by intro op;exact funext λ_=>rfl];exact Ik O hl hi (hM _ _ ha))
   ·cases h
  ·cases h
 |_=>cases h
theorem ER(O:al X Γt c)(hp:PassesOwn (P5 X.prog X.w) X.A X.env X.xe){N:Nat}{tg iter:P0}{body:List P9}{pos:Pos}{a:IS}(h:Ip c tg iter body=PU a)(pn:List Nat):SndS X pn (dh Γ N a pn) (.For tg iter body [] pos):=by cases h
theorem jz(O:al X (a7 fns Γ) c)(hp:PassesOwn (P5 X.prog X.w) X.A X.env X.xe){an:An}{m N:Nat}:∀(n:Nat) {s:P9} {a:IS},cS fns an m c n s=PU a->∀pn,SndS X pn (dh Γ N a pn) s
 |0,s,a,h,pn=>by cases h
 |n+1,s,a,h,pn=>by
  have hM:=(c8 fns Γ (m+1)).1 X c O;have hT:=(c8 fns Γ (m+1)).2 X c O;have hE:=(bR (fm:=gP fns Γ) fns Γ.fn (m+1)).1 X c O;have hB:∀{st:List P9} {b:bZ},pH (cS fns an m c n) st=PU b->∀pn,SndB X pn (aP Γ N b pn) st:=λh=>gT Γ (λs a h=>jz O hp n h) h
  have main:∀{a:IS},Gm fns an m c (pH (cS fns an m c n)) s=PU a->SndS X pn (dh Γ N a pn) s:=λ{a} h=>by
   cases s with
   |Assign ts e pos=>exact K5 fns Γ O h pn
   |AugAssign t op e pos=>exact K6 fns Γ O h pn
   |Return e pos=>cases e with
    |some e=>
     obtain⟨a',ha,rfl⟩:=aX (show(cM fns (m+1) c e).map .ret=PU a from h)
     (rw[show dh Γ N (.ret a') pn=λρ=>xV (ba Γ a' ρ) from funext λ_=>rfl];exact Ib (hM _ _ ha))
    |none=>
     cases h;exact yb λ_=>rfl
   |Expr e pos=>
    dsimp only[Gm] at h;split at h
    ·rename_i hd;cases h;rw[show dh Γ N .pas pn=λρ=>PU (.nx ρ) from funext λ_=>rfl];unfold Cd at hd;split at hd
     ·exact Ie
     ·cases hd
    ·split at h
     ·rename_i hn;obtain⟨a',ha,rfl⟩:=aX h
      (rw[show dh Γ N (.exp a') pn=λρ=>vi (ba Γ a' ρ) from funext λ_=>rfl];exact Ic hn (hM _ _ ha))
     ·cases h
   |If t x y pos=>
    dsimp only[Gm] at h;split at h
    ·rename_i t' a' b' ht ha hb;cases h
     (rw[show dh Γ N (.ifs t' a' b') pn=λρ=>vj (bh Γ t' ρ) (aP Γ N a' pn) (aP Γ N b' pn) by exact funext λ_=>rfl];exact Ig (hT _ _ ht) (hB ha pn) (hB hb pn))
    ·cases h
   |For tg iter body els pos=>cases els with
    |cons _ _=>cases h
    |nil=>
     dsimp only[Gm,Mb] at h;split at h
     ·exact ER Γ O hp h pn
     ·split at h
      ·rename_i hn;split at h
       ·rename_i t' it' b' ht hit hb;cases h
        (rw[show ∀fg,dh Γ N (.fo fg t' it' b') pn=λρ=>mq pn fg t' (aP Γ N b') (dA Γ it' ρ) by intro fg;exact funext λ_=>rfl];exact EL O hp ht (nL fns Γ O hM hE hit) (hB hb) hn)
       ·cases h
      ·cases h
   |While t body els pos=>cases els with
    |cons _ _=>cases h
    |nil=>
     dsimp only[Gm] at h;split at h
     ·rename_i t' b' ht hb;cases h
      (rw[show ∀fg,dh Γ N (.wh fg t' b') pn=gR fg (bh Γ t') (aP Γ N b' pn) N by intro fg;exact funext λ_=>rfl];exact Ii hp (hT _ _ ht) (hB hb pn) N)
     ·cases h
   |Pass pos=>
    cases h
    (rw[show dh Γ N .pas pn=λρ=>PU (.nx ρ) from funext λ_=>rfl];exact EK)
   |Break pos=>
    cases h;exact yb λ_=>rfl
   |Continue pos=>
    cases h
    (rw[show dh Γ N .cnt pn=λρ=>PU (.ct ρ) from funext λ_=>rfl];exact EJ)
   |_=>cases h
  unfold cS at h;by_cases hk:an.sk (rc s)=PX
  ·rw[if_pos hk] at h;cases h;exact yb λρ=>rfl
  rw[if_neg hk] at h;unfold Cc at h;split at h
  ·exact main h
  ·rename_i a' ha _;cases h
   (rw[show ∀l,dh Γ N (.pre l a') pn=λρ=>dh Γ N a' pn (frzN l ρ) by intro l;exact funext λ_=>rfl];exact Ij _ (main ha))
  ·cases h
end
end J
namespace J
open PySem PySem.Spec L2
noncomputable def Le{α:Type}(a b:Option α):Prop:=∀r,a=PU r->b=PU r
theorem Le.refl{α:Type}(a:Option α):Le a a:=λ_ h=>h
structure TabF(P:Program)(w:World)(K:MW)(mg:Str->Option Value)(base:Heap)(Γ:eZ)(k:Nat):Prop where
 fn:∀x φ,Γ.fn x=PU φ->(∃f fd ps,FnOk P w K mg base oP k f fd ps (v6 K φ)/\mg x=PU (.ref f)/\NC K (.ref f)=PX/\Binds K fd ps []/\(x==("__debug__":Str))=PY)\/
  False
 cf:∀c fs C,Γ.cf c=PU fs->OB K Qh c=PU (PU (.ref C))->Cls K C/\∀a∈fs,mS K C a
 fm:∀x sp,Γ.fm x=PU sp->∃f fd ps,FnOk P w K mg base oP k f fd ps (sp K)/\mg x=PU (.ref f)/\NC K (.ref f)=PX/\Binds K fd ps []/\(x==("__debug__":Str))=PY
 bl:∀x∈aR,mg x=PV
 cst:∀x d,Γ.cst x=PU d->∃u v,mg x=PU u/\RelV v u/\(∀H S,Rp K H S d v)/\(x==("__debug__":Str))=PY
noncomputable def gU(k:Nat)(ks:List nC):Ro:=ks.map Ge++M3 (k-ks.length) PV
noncomputable def yc(d:D):nC:=(.fz,d)
noncomputable def gW(r:Option Res):Option KD:=match r with
 |some (.rt kd d _)=>if bX kd=PX then PV else PU (kd,d)
 |some (.nx _)=>PU (.sh,.non)
 |_=>PV
noncomputable def cw(Γ:GG)(N m k:Nat)(body:bZ)(ds:List D):Option KD:=if ds.length=m then gW (aP Γ N body [] (gU k (ds.map yc))) else PV
noncomputable def outs(m:Nat)(pn:List Nat)(ρ:Ro):List (Option nC):=(M4 m).map λj=>if j∈pn then(match ρ[j]? with|some (PU ⟨PY,k,d⟩)=>PU (k,d)|_=>PV) else PV
noncomputable def tH(m:Nat)(pn:List Nat)(r:Option Res):Option (Kd×D×List (Option nC)):=match r with
 |some (.rt kd d ρ)=>if bX kd=PX then PV else PU (kd,d,outs m pn ρ)
 |some (.nx ρ)=>PU (.sh,.non,outs m pn ρ)
 |_=>PV
noncomputable def pI(Γ:GG)(N m k:Nat)(pn:List Nat)(body:bZ)(ks:List nC):Option (Kd×D×List (Option nC)):=if ks.length=m then tH m pn (aP Γ N body pn (gU k ks)) else PV
noncomputable def cF(fns:Nms)(an:An)(n:Nat)(N:List Str)(st:P9):Option bZ:=cB fns an n ⟨af st,N,λ_=>PX⟩ n (aH st)
theorem mt{vs:List V}{i:Nat}(h:i<vs.length):(cq N vs)[i]?=(vs.map PU)[i]?:=by
 unfold L2.cq;rw[Nz (by simpa using h)]
theorem nR{N:List Str}{ks:List nC}{vs:List V}(se:SE K g (ks.map Ge) (vs.map PU) H)(hl:ks.length<=N.length):SE K g (gU N.length ks) (cq N vs) H:=by
 have hv:ks.length=vs.length:=by simpa using se.len
 refine⟨λi sl e=>?_,se.mu,?_⟩
 ·unfold gU at e;by_cases hi:i<ks.length
  ·rw[Nz (by simpa using hi)] at e;obtain⟨v,F,q1,q2,q3⟩:=se.slot i sl e;exact⟨v,F,by rw[mt (by rw[<- hv];exact hi)];exact q1,q2,q3⟩
  ·rw[Nx (by simpa using hi),Os] at e
   split at e<;>cases e
 ·unfold gU L2.cq;simp only[ND,MY,N1]
  lia
theorem yd{ds:List D}{vs:List V}(r:RpL K H (Sg g) ds vs)(m:MuOk H (Sg g)):SE K g ((ds.map yc).map Ge) (vs.map PU) H:=by
 refine⟨λi sl e=>?_,m,by simp[r.len]⟩;rw[M0,M0] at e
 cases q:ds[i]? with
 |none=>rw[q] at e;cases e
 |some d=>
  rw[q] at e;cases e;obtain⟨v,e1,e2⟩:=r.getD q;exact⟨v,fu,by rw[M0,e1];rfl,λ_ z=>z.elim,.fz e2⟩
theorem tI{g:Gh}{i:Nat}:g.re (λ_=>PV) b≠PU (PU i):=λe=>by
 unfold Gh.re at e
 cases q:g b with
 |none=>rw[q] at e;cases e
 |some x=>cases x<;>(rw[q] at e;cases e)
theorem AL{g:Gh}(h:g b≠PV):g.re (λ_=>PV) b=PU PV:=by
 unfold Gh.re
 cases q:g b with
 |none=>exact absurd q h
 |some x=>cases x<;>rfl
theorem ge{K:MW}{g g':Gh}{H H':Hp}{F:Pr}(ev:Evo (g.re λ_=>PV) H g' H' F):Same H H'/\(∀b,F b->H b=PV)/\∀b,Sg g b->Sg g' b:=
 ⟨λb o e=>ev.keep b o (λi q=>tI q) e,λb z=>(ev.tmp b z).2.elim (λ⟨j,q⟩=>absurd q tI) id,λb z=>by rw[Sg,(ev.out b).mp (AL z)];simp⟩
section
variable {P:P6} {w:P8} {K:MW} {mg:Str->Option PZ} {base:Qa} {fns:Nms} {Γ:GG} {x qual:Str} {st:P9} {f:P1} {fd:Qk} {N ps:List Str} {k n M:Nat} {an:An} {body:bZ}
theorem tJ(F:Fun K x qual st f fd)(S:aA N ps (af st))(T:TabF P w K mg base (a7 fns Γ) k)(hc:cF fns an n N st=PU body) :
  FnOk P w K mg base oP (k+1) f fd ps (v6 K (cw Γ M ps.length N.length body)):=by
 have hN:ps.length<=N.length:=by
  have:=congrArg ON S.pre;rw[NN] at this
  lia
 refine F.ok S (λvs H Q E h=>?_) (λcdv A outer s H vs Q E hr h=>?_)
 ·obtain⟨ds,g,k',d,r,dm,hφ,q⟩:=h;unfold cw at hφ;split at hφ
  ·rename_i hl;rw[r.len,hl]
  ·cases hφ
 ·obtain⟨ds,g,k',d,r,dm,hφ,q⟩:=h;unfold cw at hφ;split at hφ
  ·rename_i hl
   have O:al (eJ oP P w K mg base N qual (af st) f cdv A outer s H E).nox (a7 fns Γ) ⟨af st,N,λ_=>PX⟩:=
    ⟨rfl,rfl,λ_ _=>rfl,rfl,S.nd,⟨λy φ hy=>by
     rcases T.fn y φ hy with⟨g,gd,qs,h1,h2,h3,h4,h5⟩|z
     ·exact .inl ⟨k,g,gd,qs,h1,hr,h2,h3,h4,h5⟩
     ·exact z.elim,T.cf,λy φ hy=>by
     obtain⟨g,gd,qs,h1,h2,h3,h4,h5⟩:=T.fm y φ hy;exact⟨k,g,gd,qs,h1,hr,h2,h3,h4,h5⟩,T.bl,(by have h:=hr.un;exact NA (Nq (Om (by decide:100<=200) _) (Oj (NV _ _) 200)) h),hr.gd,T.cst⟩⟩
   have m0:MuOk H (Sg (g.re λ_=>PV)):=λb z=>dm b ((lB b).mp z);have r0:RpL K H (Sg (g.re λ_=>PV)) ds vs:=r.weak λb z=>(lB b).mp z;have se:=nR (N:=N) (yd r0 m0) (by simpa[hl] using hN);have sb:SndB _ [] (aP Γ M body []) (aH st):=gT Γ (λs is h=>jz fns Γ O PassesOwn.never n h) hc [];refine⟨_,bS,?_⟩;unfold gW at hφ;split at hφ
   ·rename_i k2 d2 ρ2 hex;split at hφ
    ·cases hφ
    ·rename_i hb;cases hφ;refine sb _ _ hex _ (cq N vs) H _ se λv σ' g' H' F ev se' pk vr=>?_;obtain⟨p1,p2,p3⟩:=ge (K:=K) ev;exact q v H' p1 ⟨F,p2,vr.unlend (by simpa using hb) p3⟩
   ·rename_i ρ' hex;cases hφ;refine sb _ _ hex _ (cq N vs) H _ se λσ' g' H' ev se' pk=>?_;obtain⟨p1,p2,p3⟩:=ge (K:=K) ev;exact q .non H' p1 DI
   ·cases hφ
  ·cases hφ
theorem vq{m:Nat}{pn:List Nat}{ρ:Ro}{j:Nat}(h:((outs m pn ρ).map Gf)[j]?=PU (PU sl)):j<m/\j∈pn/\ρ[j]?=PU (PU sl):=by
 unfold outs at h;rw[M0,M0] at h;by_cases hj:j<m
 ·rw[Np hj] at h;simp only[OD,Option.some.injEq] at h;split at h
  ·rename_i hp;split at h
   ·rename_i k d e;cases h;exact⟨hj,hp,e⟩
   ·cases h
  ·cases h
 ·rw[NL (by simpa using hj)] at h;cases h
theorem ye{m:Nat}:(outs m pn ρ).length=m:=by simp[outs]
theorem AM(F:Fun K x qual st f fd)(S:aA N ps (af st))(T:TabF P w K mg base (a7 fns Γ) k)(hc:cF fns an n N st=PU body) :
  FnOk P w K mg base oP (k+1) f fd ps (BW K (pI Γ M ps.length N.length pn body)):=by
 have hN:ps.length<=N.length:=by
  have:=congrArg ON S.pre;rw[NN] at this
  lia
 refine F.ok S (λvs H Q E h=>?_) (λcdv A outer s H vs Q E hr h=>?_)
 ·obtain⟨ks,g,k',d,os,se,hφ,q⟩:=h;unfold pI at hφ;split at hφ
  ·rename_i hl;have:=se.len;simp only[MY] at this;rw[<- this,hl]
  ·cases hφ
 ·obtain⟨ks,g,k',d,os,se,hφ,q⟩:=h;unfold pI at hφ;split at hφ
  ·rename_i hl;have hv:ks.length=vs.length:=by simpa using se.len
   have O:al (eJ oP P w K mg base N qual (af st) f cdv A outer s H E).nox (a7 fns Γ) ⟨af st,N,λ_=>PX⟩:=
    ⟨rfl,rfl,λ_ _=>rfl,rfl,S.nd,⟨λy φ hy=>by
     rcases T.fn y φ hy with⟨g,gd,qs,h1,h2,h3,h4,h5⟩|z
     ·exact .inl ⟨k,g,gd,qs,h1,hr,h2,h3,h4,h5⟩
     ·exact z.elim,T.cf,λy φ hy=>by
     obtain⟨g,gd,qs,h1,h2,h3,h4,h5⟩:=T.fm y φ hy;exact⟨k,g,gd,qs,h1,hr,h2,h3,h4,h5⟩,T.bl,(by have h:=hr.un;exact NA (Nq (Om (by decide:100<=200) _) (Oj (NV _ _) 200)) h),hr.gd,T.cst⟩⟩
   have se0:=nR (N:=N) se (by rw[hl];exact hN);have sb:SndB _ pn (aP Γ M body pn) (aH st):=gT Γ (λs is h=>jz fns Γ O PassesOwn.never n h) hc pn
   have fin:∀{g':Gh} {H':Hp} {F:Pr} {σ':L2.St} {ρ':Ro},SE K (g'.plus F) ρ' σ' H'->PinOk pn (cq N vs) σ'->SE K (g'.plus F) ((outs ps.length pn ρ').map Gf) (vs.map PU) H':=λ{g' H' F σ' ρ'} s1 pk=>by
    refine⟨λj sl e=>?_,s1.mu,by simp[ye,<- hv,hl]⟩;obtain⟨h1,h2,h3⟩:=vq e;obtain⟨v,Fj,q1,q2,q3⟩:=s1.slot j sl h3;exact⟨v,Fj,by rw[<- q1,pk j h2,mt (by rw[<- hv,hl];exact h1)],q2,q3⟩
   refine⟨_,bS,?_⟩;unfold tH at hφ;split at hφ
   ·rename_i k2 d2 ρ2 hex;split at hφ
    ·cases hφ
    ·rename_i hb;cases hφ;exact sb _ _ hex _ (cq N vs) H _ se0 λv σ' g' H' F ev se' pk vr=>q v g' H' F ev (fin se' pk) vr
   ·rename_i ρ' hex;cases hφ;refine sb _ _ hex _ (cq N vs) H _ se0 λσ' g' H' ev se' pk=>q .non g' H' fu ev (fin (by rw[aZ λ_ z=>z];exact se') pk) ⟨λ_ z=>z,by unfold Rp;rfl⟩
   ·cases hφ
  ·cases hφ
end
noncomputable def fv{α:Type}(Γ:Nat->Option α)(i:Nat)(φ:α):Nat->Option α:=λj=>if j=i then PU φ else Γ j
noncomputable abbrev GG.addI(Γ:GG)(i:Nat)(φ:Fn):GG:=⟨fv Γ.fn i φ,Γ.fm⟩
noncomputable abbrev GG.addM(Γ:GG)(i:Nat)(φ:Fm):GG:=⟨Γ.fn,fv Γ.fm i φ⟩
theorem rf{φ ψ:Fn}(h:∀ds,Le (ψ ds) (φ ds)){vs:List V}{H:Hp}{Q:VK}{E:XK}(s:v6 K ψ vs H Q E):v6 K φ vs H Q E:=by
 obtain⟨ds,S,k,d,h1,h2,h3,h4⟩:=s;exact⟨ds,S,k,d,h1,h2,h ds _ h3,h4⟩
theorem ES{φ ψ:Fm}(h:∀ds,Le (ψ ds) (φ ds)){vs:List V}{H:Hp}{Q:VK}{E:XK}(s:BW K ψ vs H Q E):BW K φ vs H Q E:=by
 obtain⟨ks,g,kd,d,os,h1,h2,h3⟩:=s;exact⟨ks,g,kd,d,os,h1,h ks _ h2,h3⟩
section
variable {P:P6} {w:P8} {K:MW} {mg:Str->Option PZ} {base:Qa} {fns:Nms} {Γ:GG} {x qual:Str} {st:P9} {f:P1} {fd:Qk} {N ps:List Str} {k n M i:Nat} {an:An} {body:bZ}
theorem TabF.up(T:TabF P w K mg base (a7 fns Γ) k):TabF P w K mg base (a7 fns Γ) (k+1):=
  ⟨λy φ hy=>by
    rcases T.fn y φ hy with⟨g,gd,qs,h1,h2,h3,h4,h5⟩|z
    · exact .inl ⟨g,gd,qs,h1.mono (Oy k),h2,h3,h4,h5⟩
    · exact z.elim,T.cf,
   λy φ hy=>by obtain⟨g,gd,qs,h1,h2,h3,h4,h5⟩:=T.fm y φ hy;exact⟨g,gd,qs,h1.mono (Oy k),h2,h3,h4,h5⟩,T.bl,T.cst⟩
theorem TabF.addI{ψ:Fn}(T:TabF P w K mg base (a7 fns Γ) k)(F:Fun K x qual st f fd)(S:aA N ps (af st))(hm:mg x=PU (.ref f))(hb:Binds K fd ps [])(hd:(x==("__debug__":Str))=PY)
  (hi:fns.fns[i]?=PU x) (hc:cF fns an n N st=PU body) (hψ:∀ds,Le (ψ ds) (cw Γ M ps.length N.length body ds)):TabF P w K mg base (a7 fns (Γ.addI i ψ)) (k+1):=by
 refine⟨λy φ hy=>?_,T.cf,T.up.fm,T.bl,T.cst⟩;have hy:(bz y fns.fns).bind (fv Γ.fn i ψ)=PU φ:=hy
 cases hj:bz y fns.fns with
 |none=>rw[hj] at hy;cases hy
 |some j=>
  rw[hj] at hy;have hy':fv Γ.fn i ψ j=PU φ:=hy;unfold fv at hy';split at hy'
  ·rename_i e;subst e;cases hy'
   have hyx:y=x:=by
    have:=bf hj;rw[hi] at this;exact(Option.some.inj this).symm
   subst hyx;exact .inl ⟨f,fd,ps,(tJ (n:=n) (an:=an) (M:=M) F S T hc).imp λvs H Q E s=>rf hψ s,hm,F.kp,hb,hd⟩
  ·exact T.up.fn y φ (by show(bz y fns.fns).bind Γ.fn=_;rw[hj];exact hy')
theorem TabF.addM{ψ:Fm}(T:TabF P w K mg base (a7 fns Γ) k)(F:Fun K x qual st f fd)(S:aA N ps (af st))(hm:mg x=PU (.ref f))(hb:Binds K fd ps [])(hd:(x==("__debug__":Str))=PY)(hi:fns.fns[i]?=PU x)(hc:cF fns an n N st=PU body)(hψ:∀ds,Le (ψ ds) (pI Γ M ps.length N.length pn body ds)):TabF P w K mg base (a7 fns (Γ.addM i ψ)) (k+1):=by
 refine⟨T.up.fn,T.cf,λy sp hy=>?_,T.bl,T.cst⟩;have hy:(bz y fns.fns).bind (λj=>(fv Γ.fm i ψ j).map λφ=>λK=>BW K φ)=PU sp:=hy
 cases hj:bz y fns.fns with
 |none=>rw[hj] at hy;cases hy
 |some j=>
  rw[hj] at hy;obtain⟨φ,hy',rfl⟩:=aX (show(fv Γ.fm i ψ j).map _=PU sp from hy);unfold fv at hy';split at hy'
  ·rename_i e;subst e;cases hy'
   have hyx:y=x:=by
    have:=bf hj;rw[hi] at this;exact(Option.some.inj this).symm
   subst hyx;exact⟨f,fd,ps,(AM (n:=n) (an:=an) (M:=M) (pn:=pn) F S T hc).imp λvs H Q E s=>ES hψ s,hm,F.kp,hb,hd⟩
  ·exact T.up.fm y _ (by show gP fns Γ y=_;unfold gP;rw[hj,NO,hy'];rfl)
end
theorem ET{ns:List Int}(hS:SqL K H a (ns.map V.int))(h:φ [.scr ns]=PU (.sh,.bl PX)):v6 K φ [.ref a] H (λv _=>v=.bl PX) λ_ _ _=>False:=by
 refine⟨[.scr ns],λ_=>PV,.sh,.bl PX,.cons ?_ .nil,λb z=>absurd rfl z,h,λv H' _ r=>r.rd.bl⟩;unfold Rp;refine⟨a,rfl,?_⟩;rcases hS with h|h
 ·exact .inl ⟨λz=>z rfl,h⟩
 ·exact .inr h
theorem Ch{P:List PZ->Prop}(h:∀a,P [a]):∀us:List PZ,us.length=1->P us
 |[a],_=>h a
theorem us2{P:List PZ->Prop}(h:∀a b,P [a,b]):∀us:List PZ,us.length=2->P us
 |[a,b],_=>h a b
theorem Iq{P:List PZ->Prop}(h:∀a b c,P [a,b,c]):∀us:List PZ,us.length=3->P us
 |[a,b,c],_=>h a b c
theorem My{P:List PZ->Prop}(h:∀a b c d,P [a,b,c,d]):∀us:List PZ,us.length=4->P us
 |[a,b,c,d],_=>h a b c d
end J
namespace J
open PySem PySem.Spec L2
theorem Ir{fa fb:Ro->Option Res}{a b:List P9}(ha:SndB X pn fa a)(hb:SndB X pn fb b):SndB X pn (λρ=>gw (fa ρ) fb) (a++b):=by
 intro ρ r h g σ H Dn se q;dsimp only at h;refine tz ?_
 cases e:fa ρ with
 |none=>rw[e] at h;cases h
 |some ra=>
  rw[e] at h
  cases ra with
  |nx ρ1=>exact ha ρ _ e g σ H _ se λσ1 g1 H1 ev se1 pk=>hb ρ1 r h g1 σ1 H1 Dn se1 (q.from ev pk)
  |rt kd d ρ1=>cases h;exact ha ρ _ e g σ H _ se q
  |ct ρ1=>cases h;exact ha ρ _ e g σ H _ se q
  |bk ρ1=>cases h;exact ha ρ _ e g σ H _ se q
noncomputable def AN(f:Ro->Option Res)(m k:Nat)(ds:List D):Option KD:=if ds.length=m then gW (f (gU k (ds.map yc))) else PV
section
variable {P:P6} {w:P8} {K:MW} {mg:Str->Option PZ} {base:Qa} {fns:Nms} {Γ:GG} {x qual:Str} {st:P9} {f:P1} {fd:Qk} {N ps:List Str} {k n M:Nat} {an:An} {body:bZ}
end
end J
namespace J
open PySem PySem.Spec PySem.W PyProof.Rows L2
noncomputable def Fly(P:P6)(w:P8)(l:List Env)(H:Hp)(s:P2)(H':Hp)(C e:P1)(h:Qa):Prop:=∃B t,Heap.FlyingW B l e (.ref C) (.ref t) h/\HOk P w H' B/\
 (∀b o,s.heap.get? b=PU o->H b=PV->b∉gB l->B.get? b=PU o)/\(∀b o,s.heap.get? b=PU o->b∉gB l->∃o',B.get? b=PU o')/\Un (gB l) [] H H' s.heap h
noncomputable def AO(P:P6)(w:P8):qu:=λouter H s E v s'=>∃e C H',v=.ref e/\s'.os=s.os/\AllBare s'.gens/\Fly P w outer H s H' C e s'.heap/\E (.ref C) PV H'
section
variable {P:P6} {w:P8} {l:List Env} {H H':Hp} {s:P2} {C e:P1} {h h2:Qa}
theorem yf{fs:List P1}(k:HOk P w H h)(n:∀b∈fs,H b=PV):HOk P w H (hideAll h fs):=λa o ea=>
 (k a o ea).stay (λb u hb q=>hideAll_get _ q λz=>by
  rcases hb with rfl|hb
  ·rw[n _ z] at ea;cases ea
  ·rw[n _ z] at hb;cases hb) (λ_ q=>q) λ_ _ q=>q
theorem Fly.on{B:Qa}(hB:HOk P w H' B)(h1:∀b o,s.heap.get? b=PU o->H b=PV->b∉gB l->B.get? b=PU o)(h2':∀b o,s.heap.get? b=PU o->b∉gB l->∃o',B.get? b=PU o')(u:Un (gB l) [] H H' s.heap h)(hf:h.FunFrames B l)(f:Heap.FlyingW B l e (.ref C) (.ref t) h2)(up:h.UpToSlots h2):Fly P w l H s H' C e h2:=by
 have fr:∀b o,h.get? b=PU o->b∈gB l->∃sl,h2.get? b=PU { o with slots:=sl }:=λb o q hb=>by
  obtain⟨_,o',e',nf⟩:=hf.mem hb;rw[q] at e';cases e';exact up b o q nf
 refine⟨B,t,f,hB,h1,h2',⟨λb o q n hb _=>f.1 b o (h1 b o q n hb),λb o q n hb hx=>?_,u.free,λb o q hx=>?_,u.tups,u.frzs,u.tbls⟩⟩
 ·obtain⟨sl,q1⟩:=u.slot b o q n hb hx;obtain⟨sl',q2⟩:=fr b _ q1 hb;exact⟨sl',q2⟩
 ·by_cases hb:b∈gB l
  ·obtain⟨o1,q1⟩:=u.there b o q hx;obtain⟨sl,q2⟩:=fr b o1 q1 hb;exact⟨_,q2⟩
  ·obtain⟨o1,q1⟩:=h2' b o q hb;exact⟨o1,f.1 b o1 q1⟩
end
section
variable {CX:qu} {P:P6} {w:P8} {K:MW} {mg:Str->Option PZ} {base:Qa} {N:List Str} {qual:Str} {scope:Qe} {f:P1} {cd:PZ} {A:Qc} {outer:List Env} {s0:P2} {H0:Hp} {E:XK}
noncomputable abbrev nS(P:P6)(w:P8)(K:MW)(mg:Str->Option PZ)(base:Qa)(N:List Str)(qual:Str)(scope:Qe)(f:P1)(cd:PZ)(A:Qc)(outer:List Env)(s:P2)(H:Hp)(E:XK):Cx:=eJ (AO P w) P w K mg base N qual scope f cd A outer s H E
variable {pins:List (P1×Obj)} {σ:L2.St} {H:Hp} {s:P2}
theorem jh(I:Inv (nS P w K mg base N qual scope f cd A outer s0 H0 E) pins σ H s){b:P1}{o:Obj}(q:s0.heap.get? b=PU o)(hb:b∉gB outer):b∉gB (nS P w K mg base N qual scope f cd A outer s0 H0 E).stack:=λz=>by
 rcases M7.mp (show b∈(envOfC qual scope s0.heap.objs.size f cd).locals::gB outer from z) with rfl|z
 ·exact absurd (M5 q) (NU _)
 ·exact hb z
theorem vt(I:Inv (nS P w K mg base N qual scope f cd A outer s0 H0 E) pins σ H s){e C:P1}{vs:List PZ}{h':Qa}(m:Heap.MadeExcOf s.heap h' e (.ref C) vs)(q:E (.ref C) PV H) :
  (nS P w K mg base N qual scope f cd A outer s0 H0 E).xe (.ref e) { s with heap:=h' }:=by
 have hs:s.heap.FunFrames (hideAll s.heap (gB (nS P w K mg base N qual scope f cd A outer s0 H0 E).stack)) (nS P w K mg base N qual scope f cd A outer s0 H0 E).stack:=funFrames_hide I.stack λenv he a ha=>Op.mpr ⟨env,he,ha⟩;refine wpAny_leaves_madeW (h:=s.heap) I.ok.frames rfl (λb o q=>of_hideAll _ q) hs m λh2 t f1 f2 f3 f4=>?_;have hB:=yf I.hok I.stkFree;have hk:∀b o,s.heap.get? b=PU o->b∉gB (nS P w K mg base N qual scope f cd A outer s0 H0 E).stack->h2.get? b=PU o:=λb o q1 n=>f1.1 b o (hideAll_get _ q1 n)
 have sl:∀b o,s.heap.get? b=PU o->b∈gB outer->∃x,h2.get? b=PU { o with slots:=x }:=λb o q1 n=>by
  obtain⟨_,o',e',nf⟩:=I.funs.mem n;rw[q1] at e';cases e';obtain⟨x,z⟩:=f4 b o (m.keeps b o q1) nf;exact⟨x,z⟩
 refine⟨e,C,H,rfl,I.os,I.bare,⟨_,t,f1,hB,λb o q1 n hb=>?_,λb o q1 hb=>?_,?_⟩,q⟩
 ·exact hideAll_get _ (I.base.keep b o q1 n hb (by simp[nS,eJ])) (jh I q1 hb)
 ·obtain⟨o',z⟩:=I.base.there b o q1 (by simp[nS,eJ]);exact⟨o',hideAll_get _ z (jh I q1 hb)⟩
 ·refine⟨λb o q1 n hb _=>hk b o (I.base.keep b o q1 n hb (by simp[nS,eJ])) (jh I q1 hb),λb o q1 n hb _=>?_,λb o q1 n _=>I.base.free b o q1 n (by simp[nS,eJ]),λb o q1 _=>?_,I.base.tups,I.base.frzs,I.base.tbls⟩
  ·obtain⟨x,z⟩:=I.base.slot b o q1 n hb (by simp[nS,eJ]);obtain⟨y,z2⟩:=sl b _ z hb;exact⟨y,z2⟩
  ·obtain⟨o',z⟩:=I.base.there b o q1 (by simp[nS,eJ]);by_cases hb:b∈gB outer
   ·obtain⟨x,z2⟩:=sl b o' z hb;exact⟨_,z2⟩
   ·exact⟨o',hk b o' z (jh I q1 hb)⟩
theorem yg:fB (AO P w) (nS P w K mg base N qual scope f cd A outer s0 H0 E) E:=by
 intro pins σ H s v s' I h;obtain⟨e,C,H',rfl,hos,hbare,⟨B,t,fl,hB,k1,k2,u⟩,q⟩:=h;have hok:HOk P w H' s'.heap:=hB.kept fl.1;have I':=I.call' hos u hok hbare (λb z=>absurd z (by simp));refine wpAny_leaves_onW I.ok.frames rfl fl λh2 f1 f4=>?_
 have hk1:∀b o,s0.heap.get? b=PU o->H0 b=PV->b∉gB outer->B.get? b=PU o:=λb o q1 n hb=>
  k1 b o (I.base.keep b o q1 n hb (by simp[nS,eJ])) (I.base.free b o q1 n (by simp[nS,eJ])) (jh I q1 hb)
 have hk2:∀b o,s0.heap.get? b=PU o->b∉gB outer->∃o',B.get? b=PU o':=λb o q1 hb=>by
  obtain⟨o',z⟩:=I.base.there b o q1 (by simp[nS,eJ]);exact k2 b o' z (jh I q1 hb)
 have ff:s'.heap.FunFrames B outer:=by
  obtain⟨_,_,z⟩:=fl.2.2.1;exact z
 exact⟨e,C,H',rfl,hos.trans I.os,hbare,Fly.on hB hk1 hk2 I'.base ff f1 f4,q⟩
end
end J
namespace J
open PySem PySem.Spec PySem.W PySem.Calls PyProof.Rows L2
noncomputable abbrev tK:List PZ:=[.type "ValueError",.type "Exception",.type "BaseException",.type "object"]
theorem ji{K:Frag}{h:Qa}{newId:String}(X:K.In h)(q:excIn K C bmB newId=PX) :
  ∃bm N nm qn bs hdct sn sub ab col dd k0 k1 k2 k3 k5 mN,h.get? C=PU (excClassObj nm qn C N bs bm hdct sn sub ab col dd k0 k1 k2 k3 k5 newId)/\h.Ns N mN/\mN "__init__" = PV/\OwnTail h bmB bm:=by
 unfold excIn at q;split at q
 ·rename_i dd cd sl ho;split at q
  ·rename_i C' bm k0 k1 k2 k3 n k5 hm hs;simp only[MX,beq_iff_eq,Ov] at q;obtain⟨⟨⟨⟨⟨rfl,rfl⟩,hdel⟩,ht⟩,hok⟩,hni⟩:=q;obtain⟨nm,bs,mro,ns,qn,hd,sn,sub,ab,col,del⟩:=cd;dsimp only at hm hdel hok hni;subst hm hdel
   have hsl:sl=#[k0,k1,k2,k3,PU (.builtin n),k5]:=by
    obtain⟨l⟩:=sl;simp only at hs;rw[hs]
   subst hsl;exact⟨bm,ns,nm,qn,bs,hd,sn,sub,ab,col,dd,k0,k1,k2,k3,k5,_,X _ _ ho,.of_isNs (isNs_of_in X hok),nsMap_none_of_in X hok hni,tail_of_in X ht⟩
  ·cases q
 ·cases q
section
variable {X:Cx} {e:P0} {x:Str} {k k':Nat} {pos p p' p2 np:Pos}
noncomputable def AQ(X:Cx)(e:P0):Prop:=∀(pins:List (P1×Obj)) (s:P2) (σ:L2.St) (H:Hp) (Q:PZ->P2->Prop),Inv X pins σ H s->(∀x t tk,Q (.str x t) { s with toks:=tk })->P4 (P5 X.prog X.w) X.A (eval e X.env) Q X.xe s
theorem vz:AQ X (.Constant (.str x) k pos):=λ_ _ _ _ _ _ h=>Calls.Constant_str (h _ _ _)
theorem pJ{c1 c2:Str}{i:Int}(hg:Gl X x)(hm:X.mg x=PU (.int i t))(hi:i.natAbs.log2<1920)(h1:(Str.empty++c1).length<=sizeLine)(h2:(Str.empty++c1++(toString i:String)).length<=sizeLine)(h3:(Str.empty++c1++(toString i:String)++c2).length<=sizeLine)(hd:(x==("__debug__":Str))=PY) :
  AQ X (.JoinedStr [.Constant (.str c1) k p,.FormattedValue (.Name x np) (-1) PV p2,.Constant (.str c2) k' p'] pos):=λpins s σ H Q I h=>by
 refine JoinedStr_many (joinParts_cons (Calls.Constant_str ⟨h1,joinParts_cons (FormattedValue_plain (fV (I.tok _) hg hm (formatField_int_small hi ⟨h2,joinParts_cons (Calls.Constant_str ⟨h3,joinParts_nil (h _ _ _) h3⟩)⟩) hd))⟩))
theorem vA(hg:Gl X x)(hm:X.mg x=PU (.ref C))(hd:(x==("__debug__":Str))=PY)(hc:excIn X.K C tK "ValueError.__new__" = PX)(hcalm:X.calm=PX)(ht:AQ X e)(hst:Qb [e] X.env=[(PY,eval e X.env)])(I:Inv X pins σ H s)(q:∀s2 h' a vs,Inv X pins σ H s2->Heap.MadeExcOf s2.heap h' a (.ref C) vs->X.xe (.ref a) { s2 with heap:=h' }):P4 (P5 X.prog X.w) X.A (exec (.Raise (PU (.Call (.Name x np) [e] [] cpos)) PV pos) X.env) Q X.xe s:=by
 obtain⟨bm,N,nm,qn,bs,hdct,sn,sub,ab,col,dd,k0,k1,k2,k3,k5,mN,hC,hN,hni,T⟩:=ji I.kIn hc;have hb:backTo cpos (Qb [e] X.env)=[(PY,eval e X.env)]:=by rw[hst];rfl
 refine wpAny_Raise_call_subU (C:=C) (mN:=mN) (bm:=bm) (nm:=nm) (q:=qn) (N:=N) (bs:=bs) (hdct:=hdct) (sn:=sn) (sub:=sub) (ab:=ab) (col:=col) (dd:=dd) (k0:=k0) (k1:=k1) (k2:=k2) (k3:=k3) (k5:=k5) PySem.F.excBase_ValueError (by decide) PySem.F.excBase_ValueError (T.hasType (by decide)) (I.ok.hd hcalm) (by rw[hb];rfl) hni (fV I hg hm ⟨rfl,?_⟩ hd);rw[hb];refine evalArgs_plain (spliced_cons (ht pins s σ H _ I λy t tk=>spliced_nil ?_));exact⟨rfl,by simp[sizeLine_eq],hC,hN,T,λh' a m=>q { s with toks:=tk } h' a _ (I.tok _) m⟩
end
end J
namespace J
open PySem PySem.Spec PySem.W PySem.Calls PyProof.Rows L2
section
variable {X:Cx} {pins:List (P1×Obj)} {σ:L2.St} {H:Hp} {s:P2}
theorem vB{i:Nat}{x:Str}{Q:Unit->P2->Prop}(I:Inv X pins σ H s)(hN:X.N.Nodup)(hi:X.N[i]?=PU x)(hk:X.env.scope.names.lookup x=PU .local)(hv:σ[i]?=PU (PU v))(h:∀s',Inv X pins (σ.set i PV) H s'->Q () s'):P4 M A (unbindName X.env x) Q E s:=by
 obtain⟨m,hn,hl⟩:=id I.loc;have hcls:(X.env.scope.kind==.class||(X.env.scope.kind==.module&&X.env.locals != X.env.globals))=PY:=by rw[I.ok.kind];rfl
 have hiσ:i<σ.length:=by rw[I.len];exact(MZ.mp hi).1
 have cne:=I.cne;obtain⟨u0,_,lk⟩:=hl i x v hi hv (.inl hk)
 have hm:m x=PU u0:=by
  rcases lk with⟨_,z⟩|⟨z,_⟩
  ·exact z
  ·have hk':X.env.kindOf x=PU .local:=hk;rw[hk'] at z
   rcases z with z|z<;>cases z
 refine wpAny_unbindName_local hk hn hm hcls λh' u hn' hs=>?_;obtain⟨oL,_,_,hoL,_⟩:=id hn;refine h _ ⟨I.ok,I.os,I.bare,⟨λb o e n hb hx=>?_,λb o e n hb hx=>?_,I.base.free,λb o e hx=>?_,I.base.tups,I.base.frzs,I.base.tbls⟩,⟨_,hn',λj y v' e1 e2 e3=>?_⟩,λy c e=>?_,I.free,I.freeC,λp hp=>?_,λb ob e=>?_,by simpa using I.len⟩
 ·exact(hs.2 b (Ni (M6 (M5 e) I.ok.above))).trans (I.base.keep b o e n hb hx)
 ·obtain⟨sl,e1⟩:=I.base.slot b o e n hb hx;exact⟨sl,(hs.2 b (Ni (M6 (M5 e) I.ok.above))).trans e1⟩
 ·obtain⟨o',e1⟩:=I.base.there b o e hx;exact⟨o',(hs.2 b (Ni (M6 (M5 e) I.ok.above))).trans e1⟩
 ·by_cases hj:j=i
  ·subst hj;rw[Nd hiσ] at e2;cases e2
  ·rw[Nh (Ne.symm hj)] at e2;obtain⟨u',r',q⟩:=hl j y v' e1 e2 e3;refine⟨u',r',?_⟩;rcases q with⟨k,e⟩|⟨k,c,e,z⟩
   ·refine .inl ⟨k,?_⟩;have:y≠x:=λe=>hj (kg hN e1 (e▸hi));simp[this,e]
   ·exact .inr ⟨k,c,e,z.sameBut hs (cne y c e)⟩
 ·obtain⟨w',z⟩:=I.cell y c e;exact⟨w',z.sameBut hs (cne y c e)⟩
 ·obtain⟨e,n,ne,nf,d⟩:=I.pin p hp;exact⟨(hs.2 p.1 ne).trans e,n,ne,nf,d⟩
 ·refine(I.hok b ob e).stay (λc w' hc q=>(hs.2 c ?_).trans q) (λ_ q=>q) λ_ _ q=>q
  rintro rfl
  rcases hc with rfl|hc
  ·rw[I.free] at e;cases e
  ·rw[I.free] at hc;cases hc
noncomputable abbrev Cx.pinned(X:Cx)(pins:List (P1×Obj))(E:PZ->P2->Prop):Cx:={ X with xe:=E,pn:=X.pn++pins }
variable {E:PZ->P2->Prop}
theorem EU(ok:X.Ok):(Cx.pinned X pins E).Ok:=⟨ok.mod,ok.kind,ok.glob,ok.blt,ok.above,ok.inj,ok.has,ok.cab,ok.hd,ok.frames,ok.stk,ok.exf,ok.bs,ok.bsz,ok.noex,ok.exfs,ok.funs,ok.frf⟩
theorem yh(ok:(Cx.pinned X pins E).Ok):X.Ok:=⟨ok.mod,ok.kind,ok.glob,ok.blt,ok.above,ok.inj,ok.has,ok.cab,ok.hd,ok.frames,ok.stk,ok.exf,ok.bs,ok.bsz,ok.noex,ok.exfs,ok.funs,ok.frf⟩
theorem AR(I:Inv X pins σ H s):Inv (Cx.pinned X pins E) [] σ H s:=⟨EU I.ok,I.os,I.bare,I.base,I.loc,I.cell,I.free,I.freeC,λp hp=>I.pin p (by simpa using hp),I.hok,I.len⟩
theorem eC(I:Inv (Cx.pinned X pins E) ps σ H s):Inv X pins σ H s:=⟨yh I.ok,I.os,I.bare,I.base,I.loc,I.cell,I.free,I.freeC,λp hp=>I.pin p (N3 _ hp),I.hok,I.len⟩
theorem yj{ps:List (P1×Obj)}{D:di}{f:Flow}{s':P2}(h:SP (Cx.pinned X pins E) ps D f s'):SP X pins D f s':=by
 cases f with
 |next=>obtain⟨σ',H',I,q⟩:=h;exact⟨σ',H',eC I,q⟩
 |brk=>obtain⟨σ',H',I,q⟩:=h;exact⟨σ',H',eC I,q⟩
 |cont=>obtain⟨σ',H',I,q⟩:=h;exact⟨σ',H',eC I,q⟩
 |ret u=>obtain⟨v,σ',H',I,r,q⟩:=h;exact⟨v,σ',H',eC I,r,q⟩
theorem EV(O:al X Γ c):al (Cx.pinned X pins E) Γ c:=⟨O.sc,O.N,O.fn,O.calm,O.nd,⟨O.tab.fn,O.tab.cf,O.tab.fm,O.tab.bl,O.tab.units,O.tab.gd,O.tab.cst⟩⟩
noncomputable abbrev Cx.inside(X:Cx)(e:PZ)(E:PZ->P2->Prop):Cx:={ X with A:=X.A.mark (PU e),calm:=PY,xe:=E }
end
section
variable {M:Model} {A:Qc} {E:PZ->P2->Prop}
variable {nm q:Str} {C N:P1} {bs bm:List PZ} {hdct:Bool} {sn:List Str} {sub:List PZ} {ab:Bool} {col:Option Bool} {dd:Option P1} {k0 k1 k2 k3 k5:Option PZ} {newId:String}
variable {nm' q':Str} {G N':P1} {bs' bm':List PZ} {hdct':Bool} {sn':List Str} {sub':List PZ} {ab':Bool} {col':Option Bool} {dd':Option P1} {j0 j1 j2 j3 j5:Option PZ} {newId':String}
theorem pK{h:Qa}{g:Array GenState}{d:Drawn}{t:Nat}{os:OsState}{e:P1}{oe:Obj}{Q:Bool->P2->Prop}
  (hC:h.get? C=PU (excClassObj nm q C N bs bm hdct sn sub ab col dd k0 k1 k2 k3 k5 newId)) (hG:h.get? G=PU (excClassObj nm' q' G N' bs' bm' hdct' sn' sub' ab' col' dd' j0 j1 j2 j3 j5 newId')) (he:h.get? e=PU oe) (hcls:oe.cls=.ref C) (hbase:bm'.contains (.type "BaseException")=PX) (hin:(Value.ref C::bm).contains (.ref G)=PX)
  (hq:Q PX ⟨h,g,d,t,os⟩):P4 M A (excMatches (.ref e) (.ref G)) Q E ⟨h,g,d,t,os⟩:=by
 have hcB:(Value.ref G::bm').contains (.type "BaseException")=PX:=by rw[OO,hbase,Bool.or_true]
 have f:=tc_notTuple;unfold excMatches
 repeat (first|(with_reducible refine wpAny_loadPart_at he ?_;rw[hcls])|with_reducible refine wpAny_loadPart_at hG ?_|(with_reducible refine wpAny_isSubtype_exc hG ?_;rw[hcB])|(with_reducible refine wpAny_isSubtype_exc hC ?_;rw[hin])|wp_step)
 exact hq
end
end J
namespace J
open PySem PySem.Spec PySem.W PySem.Calls PyProof.Rows L2
noncomputable def Cj(C a:P1):Qa->Prop:=λh=>∃o,h.get? a=PU o/\o.cls=.ref C
noncomputable abbrev xO(C a:P1):HO:=.ext (Cj C a)
noncomputable def tL(K:Frag)(C G:P1):Bool:=match K.lookup C with
 |some ⟨_,_,.cls cd,_⟩=>cd.mro.contains (.ref G)
 |_=>PY
theorem EW{K:Frag}{h:Qa}{C G N:P1}{nm qn:Str}{bs bm:List PZ}{hdct:Bool}{sn:List Str}{sub:List PZ}{ab:Bool}{col:Option Bool}{dd:Option P1}{k0 k1 k2 k3 k5:Option PZ}{newId:String}(X:K.In h)(hC:h.get? C=PU (excClassObj nm qn C N bs bm hdct sn sub ab col dd k0 k1 k2 k3 k5 newId))(hs:tL K C G=PX):(Value.ref C::bm).contains (.ref G)=PX:=by
 unfold tL at hs;split at hs
 ·rename_i ho;have:=X _ _ ho;rw[hC] at this;cases this;exact hs
 ·cases hs
section
variable {X:Cx} {pins:List (P1×Obj)} {σ:L2.St} {H:Hp} {s:P2}
theorem kX(I:Inv X pins σ H s):Inv (Cx.inside X e E) pins σ H s:=
 ⟨⟨I.ok.mod,I.ok.kind,I.ok.glob,I.ok.blt,I.ok.above,I.ok.inj,I.ok.has,I.ok.cab,(λh=>by cases h),I.ok.frames,I.ok.stk,I.ok.exf,I.ok.bs,I.ok.bsz,I.ok.noex,I.ok.exfs,I.ok.funs,I.ok.frf⟩,I.os,I.bare,I.base,I.loc,I.cell,I.free,I.freeC,I.pin,I.hok,I.len⟩
theorem pL(hd:X.calm=PX->X.A.handled=PV)(I:Inv (Cx.inside X e E) pins σ H s):Inv X pins σ H s:=
 ⟨⟨I.ok.mod,I.ok.kind,I.ok.glob,I.ok.blt,I.ok.above,I.ok.inj,I.ok.has,I.ok.cab,hd,I.ok.frames,I.ok.stk,I.ok.exf,I.ok.bs,I.ok.bsz,I.ok.noex,I.ok.exfs,I.ok.funs,I.ok.frf⟩,I.os,I.bare,I.base,I.loc,I.cell,I.free,I.freeC,I.pin,I.hok,I.len⟩
noncomputable def rh(X:Cx)(G:P1)(ic:Nat)(D:di):XK:=λv _ H'=>∃C,v=.ref C/\excIn X.K C tK "ValueError.__new__" = PX/\tL X.K C G=PX/\∀a σ',H' a=PV->σ'.length=X.N.length->σ'[ic]?=PU (PU (.ref a))->D.nx σ' (upd H' a (xO C a))
noncomputable abbrev Iu(X:Cx)(pins:List (P1×Obj))(hs:List ExceptHandler)(D:di):PZ->P2->Prop:=λv s1=>P4 (P5 X.prog X.w) X.A (noteFrame v X.env) (λ_ s2=>P4 (P5 X.prog X.w) X.A (setFlight v PV) (λ_ s3=>P4 (P5 X.prog X.w) X.A (handleBy v X.env hs) (SP X pins D) X.xe s3) X.xe s2) X.xe s1
theorem EX{n cn gn:Str}{ie ic:Nat}{G:P1}{np p1 p2 p3 hp:Pos}{rest:List ExceptHandler}{D:di}{v:PZ}{s':P2}(hstk:X.stack=X.env::X.outer)(hfr:X.env.frame=PU X.env.locals)(hN:X.N.Nodup)(hcalm:X.calm=PX)
  (hie:X.N[ie]?=PU n) (hlo:X.env.scope.names.lookup n=PU .local) (hic:X.N[ic]?=PU cn) (hlc:X.env.scope.names.lookup cn=PU .local) (hne:ie≠ic) (hgl:Gl X gn) (hmg:X.mg gn=PU (.ref G)) (hG:excIn X.K G tK "ValueError.__new__" = PX)
  (d1:(gn==("__debug__":Str))=PY) (d2:(n==("__debug__":Str))=PY) (d3:(n==("__classdict__":Str))=PY) (hsw:∀Y:Cx,Y.env=X.env->swapsWith (.Name n p2) (PU (.Name cn p1)) p3.line Y.env=pure PY)
  (I:Inv X pins σ H s) (h:AO X.prog X.w X.stack H s (rh X G ic D) v s'):Iu X pins (.ExceptHandler (PU (.Name gn np)) (PU n) [.Assign [.Name cn p1] (.Name n p2) p3] hp::rest) D v s':=by
 obtain⟨e,C,H',rfl,hos,hbare,⟨B,t,fl,hB,k1,k2,u⟩,C',hcc,hC,hsub,q⟩:=h;cases hcc;have hfrm:X.A.frames=PU (X.env::X.outer):=by rw[<- hstk];exact I.ok.frames
 have fl0:=fl;rw[hstk] at fl;have ff0:=fl0.2.2.1;refine wpAny_looks_onW hfrm hfr fl λh4 held4 sm4=>?_;refine wpAny_landsW held4 λh5 fl5 sm5=>?_;have sm:=sm4.trans sm5;have fl5':Heap.FlyingW B X.stack e (.ref C) (.ref t) h5:=by rw[hstk];exact fl5
 obtain⟨_,_,_,_,_,_,u5⟩:=Fly.on hB k1 k2 u ff0 fl5' sm;have I5:Inv X pins σ H' { s' with heap:=h5 }:=I.call' (s':={ s' with heap:=h5 }) hos u5 (hB.kept fl5.1) hbare (λb z=>absurd z (by simp))
 -- e is new
 have fields:∀h,Heap.FlyingW B X.stack e (.ref C) (.ref t) h->e∉gB X.stack:=λh f z=>by
  obtain⟨_,o,e1,nf⟩:=f.2.2.1.mem z
  obtain⟨oe,vs,e2,_,e3,_⟩:=f.first
  rw[e1] at e2;cases e2;exact nf vs e3
 have efr:=fields _ fl0
 have es:s.heap.get? e=PV:=by
  cases z:s.heap.get? e with
  |none=>rfl
  |some o=>
   obtain⟨o',z2⟩:=k2 e o z efr;rw[fl0.2.1] at z2;cases z2
 have eH:H' e=PV:=by
  cases z:H' e with
  |none=>rfl
  |some o=>
   have l1:=(hB e o z)
   have:∃ob,B.get? e=PU ob:=by
    cases o with
    |lst xs=>obtain⟨_,_,_,_,y⟩:=l1;exact⟨_,y⟩
    |tup xs=>obtain⟨_,_,_,ob,y,_⟩:=l1;exact⟨_,y⟩
    |dK kvs=>obtain⟨_,_,_,_,ob,_,_,y,_⟩:=l1;exact⟨_,y⟩
    |dT m ep kvs=>obtain⟨_,_,_,_,ob,_,y,_⟩:=l1;exact⟨_,y⟩
    |set S n=>obtain⟨ob,_,_,_,y,_⟩:=l1;exact⟨_,y⟩
    |ins c dx fs=>obtain⟨_,_,_,y,_⟩:=l1;exact⟨_,y⟩
    |own x=>exact l1
    |xd fs=>obtain⟨mA,⟨ob,_,_,y,_⟩,_⟩:=l1;exact⟨_,y⟩
    |met f x=>exact⟨_,l1⟩
    |rng lo hi=>obtain⟨_,_,_,y⟩:=l1;exact⟨_,y⟩
    |frz o u=>exact⟨_,l1.1⟩
    |tbl ps=>exact⟨_,l1⟩
    |ext φ=>exact l1.2.1
   obtain⟨ob,y⟩:=this;rw[fl0.2.1] at y;cases y
 obtain⟨bm,N,nm,qn,bs,hdct,sn,sub,ab,col,dd,k0,k1',k2',k3,k5,mN,cC,cN,cni,T⟩:=ji I5.kIn hC;obtain⟨bm',N',nm',qn',bs',hdct',sn',sub',ab',col',dd',j0,j1,j2,j3,j5,mN',gC,gN,gni,T'⟩:=ji I5.kIn hG;obtain⟨ob,hob,hobc⟩:=fl5.there;refine wpAny_handleBy_cons (codeAny_handlers_test (fV (X:=Cx.inside X (.ref e) X.xe) (kX I5) hgl hmg ?_ d1)) (by intro q;cases q);refine pK cC gC hob hobc (T'.hasType (by decide)) (EW I5.kIn cC hsub) ?_;refine codeAny_handlers_suite_as (lands_againW fl5' λh6 fl6 sm6=>?_);obtain⟨_,_,_,_,_,_,u6⟩:=Fly.on hB k1 k2 u ff0 fl6 (sm.trans sm6);obtain⟨ob6,hob6,hobc6⟩:=fl6.there
 have hok6:HOk X.prog X.w (upd H' e (xO C e)) h6:=λb o eb=>by
  by_cases hb:b=e
  ·subst hb;rw[am] at eb;cases eb;exact⟨⟨ob6,hob6,hobc6⟩,⟨ob6,hob6⟩,λh1 h2 ⟨o,z1,z2⟩ k=>⟨o,k o z1,z2⟩⟩
  ·rw[ah hb] at eb;exact((hB.kept fl6.1) b o eb).stay (λ_ _ _ y=>y) (λc y=>by rw[ah (λz=>by rw[z,eH] at y;cases y)];exact y) λc xs y=>by rw[ah (λz=>by rw[z,eH] at y;cases y)];exact y
 have un6:Un (gB X.stack) [] H (upd H' e (xO C e)) s.heap h6:=by
  have ne:∀{b:P1} {o:HO},H' b=PU o->b≠e:=λy z=>by rw[z,eH] at y;cases y
  refine⟨u6.keep,u6.slot,λb o y n hx=>?_,u6.there,λb xs y=>?_,λb o xs y=>?_,λb ps y=>?_⟩
  ·rw[ah (λz=>by rw[z,es] at y;cases y)];exact u6.free b o y n hx
  ·have:=u6.tups b xs y;rw[ah (ne this)];exact this
  ·have:=u6.frzs b o xs y;rw[ah (ne this)];exact this
  ·obtain⟨m,z⟩:=u6.tbls b ps y;exact⟨m,by rw[ah (ne z)];exact z⟩
 have I6:Inv X pins σ (upd H' e (xO C e)) { s' with heap:=h6 }:=I.call' (s':={ s' with heap:=h6 }) hos un6 hok6 hbare (λb z=>absurd z (by simp));refine dF I6 hN hie (.inl hlo) (show RelV (V.ref e) (Value.ref e) from rfl) (λs7 I7=>?_) (.inr hlo);have hlen:ie<σ.length:=by rw[I.len];exact(MZ.mp hie).1
 have hlenc:ic<σ.length:=by rw[I.len];exact(MZ.mp hic).1
 have ve:(σ.set ie (PU (V.ref e)))[ie]?=PU (PU (V.ref e)):=Nd hlen;refine wpAny_mono (fW (ki (X:=Cx.inside X (.ref e) λ_ _=>False) (i:=ic) hN hic (.inl hlc) (mM hie (.inl hlo) d2 d3) (hsw _ rfl) (.inr hlc)) pins s7 (σ.set ie (PU (V.ref e))) (upd H' e (xO C e)) { nx:=λσ' H2=>σ'=(σ.set ie (PU (V.ref e))).set ic (PU (V.ref e))/\H2=upd H' e (xO C e),rt:=λ_ _=>False } (kX I7) ⟨V.ref e,ve,rfl,rfl⟩) (λf s8 h8=>?_) λ_ _ z=>z.elim
 cases f with
 |next=>
  obtain⟨σ8,H8,I8,rfl,rfl⟩:=h8;have I8:=pL I.ok.hd I8;refine P3 (wpAny_bindName (dF I8 hN hie (.inl hlo) (show RelV V.non Value.none from rfl) (λs9 I9=>?_) (.inr hlo)));refine wpAny_onRaise (vB I9 hN hie hlo (by rw[Nd (by simpa using hlen)]) λIv I10=>?_);refine⟨_,_,I10,q e _ eH (by simpa using I.len) ?_⟩;rw[Nh hne,Nh hne,Nd (by simpa using hlenc)]
 |ret v=>obtain⟨_,_,_,_,_,z⟩:=h8;exact z.elim
 |brk=>obtain⟨_,_,_,z⟩:=h8;exact z.elim
 |cont=>obtain⟨_,_,_,z⟩:=h8;exact z.elim
end
end J
namespace J
open PySem PySem.Spec PySem.W PySem.Calls PyProof.Rows L2
noncomputable abbrev RX:=Option (Option Res)
noncomputable def Keeps(g:Gh)(H H':Hp):Prop:=∀b o,(∀i,g b≠PU (PU i))->H b=PU o->H' b=PU o
theorem Keeps.from(ev:Evo g H g1 H1 fu)(k:Keeps g1 H1 H'):Keeps g H H':=λb o n e=>k b o (λi z=>by
 rcases ev.new b i z with⟨j,y⟩|y
 ·exact n j y
 ·rw[e] at y;cases y) (ev.keep b o n e)
noncomputable def EndX(K:MW)(pn:List Nat)(g:Gh)(H:Hp)(σ:L2.St)(Dn:di)(Z:Hp->Prop):Option Res->Prop
 |some r=>EndM K pn g H σ Dn r
 |none=>∀H',Keeps g H H'->Z H'
noncomputable def eD(X:Cx)(Z:Hp->Prop)(pn:List Nat)(f:Ro->RX)(st:P9):Prop:=∀ρ r,f ρ=PU r->∀g σ H Dn,SE X.K g ρ σ H->EndX X.K pn g H σ Dn Z r->Gj X st Dn σ H
noncomputable def bU(X:Cx)(Z:Hp->Prop)(pn:List Nat)(f:Ro->RX)(st:List P9):Prop:=∀ρ r,f ρ=PU r->∀g σ H Dn,SE X.K g ρ σ H->EndX X.K pn g H σ Dn Z r->qe X st Dn σ H
noncomputable def e7(f:Ro->Option Res):Ro->RX:=λρ=>(f ρ).map PU
noncomputable def bI(a:RX)(b:Ro->RX):RX:=match a with
 |some (PU (.nx ρ))=>b ρ
 |r=>r
noncomputable def gX(t:Option (Bool×Ro))(a b:Ro->RX):RX:=match t with
 |some (PX,ρ)=>a ρ
 |some (PY,ρ)=>b ρ
 |none=>PV
noncomputable def gx(pn fg:List Nat)(tg:IT)(fb:Ro->RX):List D->Ro->RX
 |[],ρ=>PU (PU (.nx (clrN fg ρ)))
 |d::ds,ρ=>match nA tg d with
  |some ps=>if(ps.all λq=>!pn.contains q.1)=PX then(match fb (setAll ps (clrN fg ρ)) with
   |some (PU (.nx ρ'))=>gx pn fg tg fb ds ρ'
   |some (PU (.ct ρ'))=>gx pn fg tg fb ds ρ'
   |some (PU (.bk ρ'))=>PU (PU (.nx (clrN fg ρ')))
   |some (PU (.rt k d ρ'))=>PU (PU (.rt k d ρ'))
   |some PV=>PU PV
   |none=>PV) else PV
  |none=>PV
noncomputable def dN(fg:List Nat)(ft:Ro->Option (Bool×Ro))(fb:Ro->RX):Nat->Ro->RX
 |0,_=>PV
 |n+1,ρ=>match ft (clrN fg ρ) with
  |some (PY,ρ1)=>PU (PU (.nx ρ1))
  |some (PX,ρ1)=>(match fb ρ1 with
   |some (PU (.nx ρ2))=>dN fg ft fb n ρ2
   |some (PU (.ct ρ2))=>dN fg ft fb n ρ2
   |some (PU (.bk ρ2))=>PU (PU (.nx (clrN fg ρ2)))
   |some (PU (.rt k d ρ2))=>PU (PU (.rt k d ρ2))
   |some PV=>PU PV
   |none=>PV)
  |none=>PV
section
variable {X:Cx} {Γ:eZ} {c:Cz} {Z:Hp->Prop} {pn:List Nat}
theorem EndX.from{K:MW}{g g1:Gh}{H H1:Hp}{σ σ1:L2.St}{Dn:di}{r:Option Res}(h:EndX K pn g H σ Dn Z r)(ev:Evo g H g1 H1 fu)(pk:PinOk pn σ σ1):EndX K pn g1 H1 σ1 Dn Z r:=by
 cases r with
 |some r=>exact(show EndM K pn g H σ Dn r from h).from ev pk
 |none=>exact λH' k=>h H' (k.from ev)
theorem SndB.x{f:Ro->Option Res}{st:List P9}(h:SndB X pn f st):bU X Z pn (e7 f) st:=by
 intro ρ r e g σ H Dn se q;unfold e7 at e;obtain⟨r',e',rfl⟩:=aX e;exact h ρ r' e' g σ H Dn se q
theorem SndS.x{f:Ro->Option Res}{st:P9}(h:SndS X pn f st):eD X Z pn (e7 f) st:=by
 intro ρ r e g σ H Dn se q;unfold e7 at e;obtain⟨r',e',rfl⟩:=aX e;exact h ρ r' e' g σ H Dn se q
theorem EY{fa fb:Ro->RX}{a b:List P9}(ha:bU X Z pn fa a)(hb:bU X Z pn fb b):bU X Z pn (λρ=>bI (fa ρ) fb) (a++b):=by
 intro ρ r h g σ H Dn se q;dsimp only at h;refine tz ?_
 cases e:fa ρ with
 |none=>rw[e] at h;cases h
 |some ra=>
  rw[e] at h
  cases ra with
  |none=>cases h;exact ha ρ _ e g σ H _ se q
  |some ra=>
   cases ra with
   |nx ρ1=>exact ha ρ _ e g σ H _ se (show EndM X.K pn g H σ _ (.nx ρ1) from λσ1 g1 H1 ev se1 pk=>hb ρ1 r h g1 σ1 H1 Dn se1 (q.from ev pk))
   |rt kd d ρ1=>cases h;exact ha ρ _ e g σ H _ se q
   |ct ρ1=>cases h;exact ha ρ _ e g σ H _ se q
   |bk ρ1=>cases h;exact ha ρ _ e g σ H _ se q
theorem nT{st:P9}(h:eD X Z pn f st):bU X Z pn f [st]:=by
 intro ρ r e g σ H Dn se q;exact dM (fW EH) (h ρ r e g σ H Dn se q)
theorem bj{fa fb:Ro->RX}{st:P9}{b:List P9}(ha:eD X Z pn fa st)(hb:bU X Z pn fb b):bU X Z pn (λρ=>bI (fa ρ) fb) (st::b):=EY (nT ha) hb
theorem eQ:bU X Z pn (e7 λρ=>PU (.nx ρ)) []:=SndB.x Cb
theorem pM{ft:Ro->Option (Bool×Ro)}(ht:e6 X ft t)(ha:bU X Z pn fa a)(hb:bU X Z pn fb b):eD X Z pn (λρ=>gX (ft ρ) fa fb) (.If t a b pos):=by
 intro ρ r h g σ H Dn se q;dsimp only[gX] at h;split at h
 ·rename_i ρ1 e;exact bP (jo fq bS bS) (ht ρ _ _ e g σ H _ se λg1 H1 ev se1=>wP (ha ρ1 r h g1 σ H1 Dn se1 (q.from ev PinOk.refl)))
 ·rename_i ρ1 e;exact bP (jo fq bS bS) (ht ρ _ _ e g σ H _ se λg1 H1 ev se1=>m9 (hb ρ1 r h g1 σ H1 Dn se1 (q.from ev PinOk.refl)))
 ·cases h
theorem EZ(hp:PassesOwn (P5 X.prog X.w) X.A X.env X.xe){fg:List Nat}{ft:Ro->Option (Bool×Ro)}{fb:Ro->RX}{t:P0}{body:List P9}{pos:Pos}(ht:e6 X ft t)(hb:bU X Z pn fb body)(n:Nat):eD X Z pn (dN fg ft fb n) (.While t body [] pos):=by
 intro ρ r h g σ H Dn se q;refine bP (oH hp fq bS) ⟨λm σ' H'=>∃ρ' g',SE X.K g' ρ' σ' H'/\Evo g H g' H' fu/\PinOk pn σ σ'/\dN fg ft fb m ρ'=PU r,⟨n,ρ,g,se,.refl g H,PinOk.refl,h⟩,?_⟩
 rintro m σ' H' ⟨ρ',g',se',ev',pk',hr⟩
 cases m with
 |zero=>cases hr
 |succ m=>
  unfold dN at hr;split at hr
  ·rename_i ρ1 e;cases hr
   exact ht _ _ _ e g' σ' H' _ (se'.clrN fg) λg1 H1 ev1 se1=>by
    rw[if_neg (by decide)];exact q σ' g1 H1 (aO ev' ev1) se1 pk'
  ·rename_i ρ1 e;refine ht _ _ _ e g' σ' H' _ (se'.clrN fg) λg1 H1 ev1 se1=>?_;rw[if_pos rfl];refine⟨λσ2 H2=>∃ρ2 g2,SE X.K g2 ρ2 σ2 H2/\Evo g H g2 H2 fu/\PinOk pn σ σ2/\dN fg ft fb m ρ2=PU r,λσ2 H2 hN=>⟨m,NR m,hN⟩,?_⟩;have ev2:=aO ev' ev1;split at hr
   ·rename_i ρ2 hbody;exact hb _ _ hbody g1 σ' H1 _ se1 (show EndM _ _ _ _ _ _ (.nx ρ2) from λσ4 g4 H4 ev4 se4 pk4=>⟨ρ2,g4,se4,aO ev2 ev4,pk'.trans pk4,hr⟩)
   ·rename_i ρ2 hbody;exact hb _ _ hbody g1 σ' H1 _ se1 (show EndM _ _ _ _ _ _ (.ct ρ2) from λσ4 g4 H4 ev4 se4 pk4=>⟨ρ2,g4,se4,aO ev2 ev4,pk'.trans pk4,hr⟩)
   ·rename_i ρ2 hbody;cases hr;exact hb _ _ hbody g1 σ' H1 _ se1 (show EndM _ _ _ _ _ _ (.bk ρ2) from λσ4 g4 H4 ev4 se4 pk4=>q σ4 g4 H4 (aO ev2 ev4) (se4.clrN fg) (pk'.trans pk4))
   ·rename_i k d ρ2 hbody;cases hr;exact hb _ _ hbody g1 σ' H1 _ se1 (show EndM _ _ _ _ _ _ (.rt k d ρ2) from λv σ4 g4 H4 F4 ev4 se4 pk4 r4=>q v σ4 g4 H4 F4 (aO ev2 ev4) se4 (pk'.trans pk4) r4)
   ·rename_i hbody;cases hr;exact hb _ _ hbody g1 σ' H1 _ se1 (show EndX _ _ _ _ _ _ Z PV from λH4 k4=>q H4 (k4.from ev2))
   ·cases hr
  ·cases hr
end
end J
namespace J
open PySem PySem.Spec PySem.W PySem.Calls PyProof.Rows L2
noncomputable def yk(bs:List Nat)(ρ:Ro)(r:RX):RX:=match r with
 |some (PU (.nx ρ'))=>PU (PU (.nx (q8 bs ρ ρ')))
 |some (PU (.rt k d ρ'))=>if bX k=PX then PV else PU (PU (.rt k d (q8 bs ρ ρ')))
 |some PV=>PU PV
 |_=>PV
noncomputable def kY(pn fg:List Nat)(tg:IT)(fb:List Nat->Ro->RX)(it:IR):RX:=match it with
 |some (bs,ds,ρ)=>yk bs ρ (gx (pn++bs) fg tg (fb (pn++bs)) ds (clrN bs ρ))
 |none=>PV
section
variable {X:Cx} {Γ:eZ} {c:Cz} {Z:Hp->Prop} {pn:List Nat}
theorem kZ(O:al X Γ c){fg:List Nat}{fb:Ro->RX}{tg:P0}{t:IT}{n:Nat}{body:List P9}(htg:oz c n tg=PU t)(hb:bU X Z pn fb body){jj:It}{src:Src}{ds:List D}{g g0:Gh}{bs:List Nat}{H H1:Hp}{Dn:di}{ρ:Ro}{σ:L2.St}{r:Option Res}
  (se:SE X.K (g.lend bs) ρ σ H1) (jt:iq X.K jj src ds) (sp:src.P X.K g H1) (sf:src.from g H bs) (h:gx pn fg t fb ds ρ=PU r) (q:EndX X.K pn (g.lend bs) H1 σ Dn Z r) :
  tw jj (wG X tg) (qe X body) Dn σ H1:=by
 refine⟨λi m σ' H'=>m=ds.length-i/\i<=ds.length/\∃ρ' g',SE X.K g' ρ' σ' H'/\Evo (g.lend bs) H1 g' H' fu/\PinOk pn σ σ'/\gx pn fg t fb (ds.drop i) ρ'=PU r,⟨ds.length,by simp,NG _,ρ,g.lend bs,se,.refl _ _,PinOk.refl,by simpa using h⟩,?_⟩
 rintro i m σ' H' ⟨rfl,hi',ρ',g',se',ev',pk',hrest⟩
 obtain⟨j1,j2⟩:=jt i g' H' (tu sp sf ev') se'.mu;by_cases hlt:i<ds.length
 ·have hd:ds[i]?=PU ds[i]:=Na hlt;obtain⟨go,yl⟩:=j2 _ hd;rw[N4 hlt] at hrest;unfold gx at hrest;split at hrest
  ·rename_i ps hps;split at hrest
   ·rename_i hpn;refine .inr ⟨go,λσ2 H2=>ds.length-(i+1)=ds.length-(i+1)/\i+1<=ds.length/\∃ρ' g',SE X.K g' ρ' σ2 H2/\Evo (g.lend bs) H1 g' H2 fu/\PinOk pn σ σ2/\gx pn fg t fb (ds.drop (i+1)) ρ'=PU r,λσ2 H2 hN=>⟨ds.length-(i+1),by lia,hN⟩,λx H2 hy=>?_⟩;obtain⟨s2,rx⟩:=yl x H2 hy;refine sA (o9 O n htg) (iy hps rx λvs hvs=>?_);have se2:=SE.setAll hvs ((se'.clrN fg).same s2);have ev2:Evo (g.lend bs) H1 g' H2 fu:=aO ev' (c5 s2 (λ_ z=>z.elim) λ_ z=>z.elim);have pk2:=pk'.trans (pE (σ:=σ') hvs hpn);split at hrest
    ·rename_i ρ2 hbody;exact hb _ _ hbody g' _ H2 _ se2 (show EndM _ _ _ _ _ _ (.nx ρ2) from λσ4 g4 H4 ev4 se4 pk4=>⟨rfl,hlt,ρ2,g4,se4,aO ev2 ev4,pk2.trans pk4,hrest⟩)
    ·rename_i ρ2 hbody;exact hb _ _ hbody g' _ H2 _ se2 (show EndM _ _ _ _ _ _ (.ct ρ2) from λσ4 g4 H4 ev4 se4 pk4=>⟨rfl,hlt,ρ2,g4,se4,aO ev2 ev4,pk2.trans pk4,hrest⟩)
    ·rename_i ρ2 hbody;cases hrest;exact hb _ _ hbody g' _ H2 _ se2 (show EndM _ _ _ _ _ _ (.bk ρ2) from λσ4 g4 H4 ev4 se4 pk4=>q σ4 g4 H4 (aO ev2 ev4) (se4.clrN fg) (pk2.trans pk4))
    ·rename_i k d ρ2 hbody;cases hrest;exact hb _ _ hbody g' _ H2 _ se2 (show EndM _ _ _ _ _ _ (.rt k d ρ2) from λv σ4 g4 H4 F4 ev4 se4 pk4 r4=>q v σ4 g4 H4 F4 (aO ev2 ev4) se4 (pk2.trans pk4) r4)
    ·rename_i hbody;cases hrest;exact hb _ _ hbody g' _ H2 _ se2 (show EndX _ _ _ _ _ _ Z PV from λH4 k4=>q H4 (k4.from ev2))
    ·cases hrest
   ·cases hrest
  ·cases hrest
 ·have e:i=ds.length:=by lia
  subst e;rw[PJ] at hrest;cases hrest;exact .inl ⟨j1 (M8 _),q σ' g' H' ev' (se'.clrN fg) pk'⟩
theorem E1(O:al X Γ c)(hp:PassesOwn (P5 X.prog X.w) X.A X.env X.xe){fg:List Nat}{fi:Ro->IR}{fb:List Nat->Ro->RX}{tg iter:P0}{t:IT}{n:Nat}{body:List P9}{pos:Pos}(htg:oz c n tg=PU t)(hi:iC X fi tg iter)(hb:∀pn,bU X Z pn (fb pn) body)(hs:d4 iter=PX) :
  eD X Z pn (λρ=>kY pn fg t fb (fi ρ)) (.For tg iter body [] pos):=by
 intro ρ r h g σ H Dn se q;dsimp only[kY] at h;split at h
 ·rename_i bs ds ρ0 hit;refine bP (wy hp O.calm w6 w8 bS (eA hs)) (hi ρ bs ds ρ0 hit g σ H _ se λjj src g1 H1 ev1 se1 jt sp sf=>?_);have q1:=q.from ev1 PinOk.refl;show tw jj (wG X tg) (qe X body) Dn σ H1;unfold yk at h;split at h
  ·rename_i ρ' hf;cases h;refine kZ (g0:=g1) O htg (hb _) (se1.lend bs) jt sp sf hf (show EndM _ _ _ _ _ _ (.nx ρ') from λσ' g' H' ev se' pk=>?_);obtain⟨c1,c2,_⟩:=dX (F:=fu) se1 ev (by rw[aZ λ_ z=>z];exact se') pk.right;exact q1 σ' _ H' c1 (by rw[aZ λ_ z=>z] at c2;exact c2) pk.left
  ·rename_i k d ρ' hf;split at h
   ·cases h
   ·rename_i hk;cases h;refine kZ (g0:=g1) O htg (hb _) (se1.lend bs) jt sp sf hf (show EndM _ _ _ _ _ _ (.rt k d ρ') from λv σ' g' H' F ev se' pk vr=>?_);obtain⟨c1,c2,c3⟩:=dX se1 ev se' pk.right;exact q1 v σ' _ H' F c1 c2 pk.left (vr.unlend (by simpa using hk) c3)
  ·rename_i hf;cases h;exact kZ (g0:=g1) O htg (hb _) (se1.lend bs) jt sp sf hf (show EndX _ _ _ _ _ _ Z PV from λH' k=>q1 H' λb o n e=>k b o (λi z=>n i (iI z).1) e)
  ·cases h
 ·cases h
theorem Ck{f f':Ro->RX}{st:P9}(h:eD X Z pn f st)(h':eD X Z pn f' st):eD X Z pn (λρ=>match f ρ with|some r=>PU r|none=>f' ρ) st:=by
 intro ρ r e;dsimp only at e;split at e
 ·rename_i r' e';cases e;exact h ρ _ e'
 ·exact h' ρ r e
theorem k6(O:al X Γ c){x:Str}{C:P1}{e:P0}{np cpos pos:Pos}(hg:eK c.sc x=PX)(hm:X.mg x=PU (.ref C))(hd:(x==("__debug__":Str))=PY)(hc:excIn X.K C tK "ValueError.__new__" = PX)(ht:AQ X e)(hst:Qb [e] X.env=[(PY,eval e X.env)])
  (hR:∀pins σ H s h' a vs,Inv X pins σ H s->Heap.MadeExcOf s.heap h' a (.ref C) vs->Z H->X.xe (.ref a) { s with heap:=h' }):eD X Z pn (λ_=>PU PV) (.Raise (PU (.Call (.Name x np) [e] [] cpos)) PV pos):=by
 intro ρ r h g σ H Dn se q;cases h;intro pins s I;exact vA (bp O hg) hm hd hc O.calm ht hst I λs2 h' a vs I2 m=>hR pins σ H s2 h' a vs I2 m (q H λ_ _ _ e=>e)
noncomputable def E2(K:MW)(C:P1)(P:List D->Prop):Sp:=λvs H _ E=>∃ds,RpL K H (λ_=>False) ds vs/\P ds/\∀H',Same H H'->E (.ref C) PV H'
noncomputable def bW(X:Cx)(y:Str)(C:P1)(P:List D->Prop):Prop:=∃k f fd ps,FnOk X.prog X.w X.K X.mg X.base (AO X.prog X.w) k f fd ps (E2 X.K C P)/\Room k X.A/\X.mg y=PU (.ref f)/\NC X.K (.ref f)=PX/\Binds X.K fd ps []/\(y==("__debug__":Str))=PY
theorem nU(O:al X Γ c){y:Str}{C:P1}{P:List D->Prop}{E:XK}{e:P0}{es:List P0}{p' pos':Pos}{fa:Ro->Option (List KD)}{ρ:Ro}{kds:List KD}{g:Gh}{σ:L2.St}{H:Hp}{Q:VK}(hy:bW X y C P)(hx:fB (AO X.prog X.w) X E)(hg:eK c.sc y=PX)(n1:ag e=PX)(n2:es.all ag=PX)(hf:fF X fa (e::es))(ha:fa ρ=PU kds)(hP:P (kds.map (·.2)))(se:SE X.K g ρ σ H)(hE:∀H',Same H H'->E (.ref C) PV H') :
  wE X (.Call (.Name y p') (e::es) [] pos') σ H Q:=by
 obtain⟨k,f,fd,ps,F,hr,hm,hk,hb,hdb⟩:=hy;refine aL (mW (E:=E) F hr (bp O hg) hm hk hb .nil hx ee hdb (ai n1) (cy n2)) (hf ρ _ ha g σ H _ se λvs H1 s1 r1=>?_);rw[On];exact⟨_,r1.rd.go (λb o n e=>⟨e,λz=>z⟩),hP,λH' s2=>hE H' (s1.trans s2)⟩
end
end J
namespace J
open PySem PySem.Spec PySem.W PySem.Calls PyProof.Rows L2
structure gY(P:Program)(w:World)(K:MW)(mg:Str->Option Value)(base:Heap)(k:Nat)(C:Addr)(X:Cx)(Z:Hp->Prop):Prop where
 prog:X.prog=P
 w:X.w=w
 K:X.K=K
 mg:X.mg=mg
 base:X.base=base
 room:Room k X.A
 own:PassesOwn (P5 X.prog X.w) X.A X.env X.xe
 here:∀pins σ H s h' a vs,Inv X pins σ H s->Heap.MadeExcOf s.heap h' a (.ref C) vs->Z H->X.xe (.ref a) { s with heap:=h' }
 there:∃E,fB (AO X.prog X.w) X E/\∀H',Z H'->E (.ref C) PV H'
section
variable {P:P6} {w:P8} {K:MW} {mg:Str->Option PZ} {base:Qa} {fns:Nms} {Γ:GG} {x qual:Str} {st:P9} {f:P1} {fd:Qk} {N ps:List Str} {k:Nat}
theorem eR{fb:Ro->RX}{Pd:List D->Prop}(F:Fun K x qual st f fd)(S:aA N ps (af st))(T:TabF P w K mg base (a7 fns Γ) k)(hB:∀(X:Cx) (Z:Hp->Prop),gY P w K mg base k C X Z->al X (a7 fns Γ) ⟨af st,N,λ_=>PX⟩->bU X Z [] fb (aH st))(hPd:∀ds,Pd ds->ds.length=ps.length/\fb (gU N.length (ds.map yc))=PU PV) :
  FnOk P w K mg base (AO P w) (k+1) f fd ps (E2 K C Pd):=by
 have hN:ps.length<=N.length:=by
  have:=congrArg ON S.pre;rw[NN] at this
  lia
 obtain⟨oc,od,kV,doc,pm,an,cdv,ct,osl,rfl,lk,hcd⟩:=F.ex;refine BG lk hcd S (λvs H Q E h=>?_) λA outer s H vs Q E hr hsp=>?_
 ·obtain⟨ds,r,hP,_⟩:=h;rw[r.len];exact(hPd ds hP).1
 ·obtain⟨ds,r,hP,hE⟩:=hsp;obtain⟨hl,hrun⟩:=hPd ds hP
  have O:al (nS P w K mg base N qual (af st) f cdv A outer s H E) (a7 fns Γ) ⟨af st,N,λ_=>PX⟩:=
   ⟨rfl,rfl,λ_ _=>rfl,rfl,S.nd,⟨λy φ hy=>by
    rcases T.fn y φ hy with⟨g,gd,qs,h1,h2,h3,h4,h5⟩|z
    ·exact .inl ⟨k,g,gd,qs,h1,hr,h2,h3,h4,h5⟩
    ·exact z.elim,T.cf,λy φ hy=>by
    obtain⟨g,gd,qs,h1,h2,h3,h4,h5⟩:=T.fm y φ hy;exact⟨k,g,gd,qs,h1,hr,h2,h3,h4,h5⟩,T.bl,(by have h:=hr.un;exact NA (Nq (Om (by decide:100<=200) _) (Oj (NV _ _) 200)) h),hr.gd,T.cst⟩⟩
  have rz:gY P w K mg base k C (nS P w K mg base N qual (af st) f cdv A outer s H E) (λH'=>Same H H'):=
   ⟨rfl,rfl,rfl,rfl,rfl,hr,PassesOwn.leaving,λpins σ H2 s2 h' a vs I m z=>vt I m (hE H2 z),E,yg,λH' z=>hE H' z⟩
  have r0:RpL K H (Sg (λ_=>PV:Gh)) ds vs:=r.weak λb z=>absurd rfl z;have m0:MuOk H (Sg (λ_=>PV:Gh)):=λb z=>absurd rfl z;have se:=nR (N:=N) (yd r0 m0) (by simpa[hl] using hN);refine⟨_,bS,hB _ _ rz O _ _ hrun _ (cq N vs) H _ se λH' kp=>?_⟩;exact λb o e=>kp b o (λi z=>by cases z) e
end
section
variable {X:Cx} {Γ:eZ} {c:Cz} {Z:Hp->Prop} {pn:List Nat} {P:P6} {w:P8} {K:MW} {mg:Str->Option PZ} {base:Qa} {k:Nat} {C:P1}
theorem tM(R:gY P w K mg base k C X Z)(O:al X Γ c){y:Str}{Pd:List D->Prop}{e:P0}{es:List P0}{p' pos':Pos}{fa:Ro->Option (List KD)}{ρ:Ro}{kds:List KD}{g:Gh}{σ:L2.St}{H:Hp}{Q:VK}(hy:bW X y C Pd)(hg:eK c.sc y=PX)(n1:ag e=PX)(n2:es.all ag=PX)(hf:fF X fa (e::es))(ha:fa ρ=PU kds)(hP:Pd (kds.map (·.2)))(se:SE X.K g ρ σ H)(hZ:∀H',Same H H'->Z H') :
  wE X (.Call (.Name y p') (e::es) [] pos') σ H Q:=by
 obtain⟨E,h1,h2⟩:=R.there;exact nU O hy h1 hg n1 n2 hf ha hP se λH' s=>h2 H' (hZ H' s)
theorem nV(R:gY P w K mg base k C X Z)(O:al X Γ c){y:Str}{Pd:List D->Bool}{e:P0}{es:List P0}{p' pos' pos:Pos}{fa:Ro->Option (List KD)}(hy:bW X y C λds=>Pd ds=PX)(hg:eK c.sc y=PX)(n1:ag e=PX)(n2:es.all ag=PX)(hn:eP (.Call (.Name y p') (e::es) [] pos')=PX)(hf:fF X fa (e::es)) :
  eD X Z pn (λρ=>match fa ρ with|some kds=>if Pd (kds.map (·.2))=PX then PU PV else PV|none=>PV) (.Expr (.Call (.Name y p') (e::es) [] pos') pos):=by
 intro ρ r h g σ H Dn se q;dsimp only at h;split at h
 ·rename_i kds ha;split at h
  ·rename_i hP;cases h;exact bP (rZ aF (f9 hn)) (tM R O hy hg n1 n2 hf ha hP se λH' s=>q H' λb o _ e=>s b o e)
  ·cases h
 ·cases h
theorem tN(R:gY P w K mg base k C X Z)(O:al X Γ c){y:Str}{Pd:List D->Bool}{ts:List P0}{is:List Nat}{kk:Nat}{tp:Pos}{e:P0}{es:List P0}{p' pos' pos:Pos}{fa:Ro->Option (List KD)}(hy:bW X y C λds=>Pd ds=PX)(hg:eK c.sc y=PX)(n1:ag e=PX)(n2:es.all ag=PX)(ht:vh c ts=PU is)(hn:tf (.Call (.Name y p') (e::es) [] pos')=PX)(hf:fF X fa (e::es)) :
  eD X Z pn (λρ=>match fa ρ with|some kds=>if Pd (kds.map (·.2))=PX then PU PV else PV|none=>PV) (.Assign [.Tuple ts kk tp] (.Call (.Name y p') (e::es) [] pos') pos):=by
 intro ρ r h g σ H Dn se q;obtain⟨g1,g2,g3⟩:=nM O ht;dsimp only at h;split at h
 ·rename_i kds ha;split at h
  ·rename_i hP;cases h;exact bP (mP aF (qk O.calm g1 g2 g3) gQ (kS hn)) (tM R O hy hg n1 n2 hf ha hP se λH' s=>q H' λb o _ e=>s b o e)
  ·cases h
 ·cases h
end
end J
namespace J
open PySem PySem.Spec PySem.W PySem.Calls PyProof.Rows L2
section
variable {K:Frag} {prog:P6} {w:P8} {A:Qc} {E:PZ->P2->Prop} {h:Qa} {g:Array GenState} {d:Drawn} {t:Nat} {os:OsState} {a:P1} {o:Obj}
 {nm q:Str} {C N:P1} {bs bm:List PZ} {hdct:Bool} {sn:List Str} {sub:List PZ} {ab:Bool} {col:Option Bool} {dd:Option P1} {k0 k1 k2 k3 k5:Option PZ} {newId:String}
theorem rj{n:Str}{Q:Option PZ->P2->Prop}(X:K.In h)(e:findIn K (.ref C) n=PU r)(hq:Q r ⟨h,g,d,t,os⟩):P4 M A (typeLookup (.ref C) n) Q E ⟨h,g,d,t,os⟩:=looks_findIn X e A Q E _ (λ_ _ z=>z) hq
theorem rk{R:Result->P2->Prop}(hC:h.get? C=PU (excClassObj nm q C N bs bm hdct sn sub ab col dd k0 k1 k2 k3 k5 newId))(hO:bm.contains (.type "object")=PX)(hx:h.get? a=PU o)(hc:o.cls=.ref C)(hq:R (.ok (.ret (.ref C))) ⟨h,g,d,t,os⟩) :
  codeAny (P5 prog w) A (.call (.builtin "getset_descriptor.__get__") ⟨[.builtin "object.__class__",.ref a,.ref C],[]⟩) R ⟨h,g,d,t,os⟩:=by
 have hT5:(⟨h,g,d,t,os⟩:P2).TypeIs (.builtin "object.__class__") "getset_descriptor":=F.typeOf_object_class
 have hcB:(Value.ref C::bm).contains (.type (".".intercalate ("object.__class__".cutAt '.').dropLast))=PX:=by
  rw[F.owner_object_class,OO,hO];rfl
 refine codeAny_call_builtin F.slot_gs_get.plain F.entry_gs_get (F.slot_gs_get.check _ _ _ _ _ _ _ _ hT5 (F.args_gs_get _ _ _) ?_)
 repeat (any_goals (first|assumption|(with_reducible refine wpAny_loadPart_at hx ?_;rw[hc])|(with_reducible refine wpAny_isSubtype_exc hC ?_;rw[hcB])|wp_step))
 refine⟨Code.quiet_builtin _ (by decide +kernel),codeAny_builtin F.entry_object_class ?_⟩
 repeat (any_goals (first|assumption|(with_reducible refine wpAny_loadPart_at hx ?_;rw[hc])|wp_step))
theorem nW{Q:Fin->P2->Prop}(X:K.In h)(f2:findIn K (.ref C) "__class__" = PU (PU (.builtin "object.__class__")))(hC:h.get? C=PU (excClassObj nm q C N bs bm hdct sn sub ab col dd k0 k1 k2 k3 k5 newId))(hO:bm.contains (.type "object")=PX)(hx:h.get? a=PU o)(hc:o.cls=.ref C)(hq:Q (.done (.ret (.ref C))) ⟨h,g,d,t,os⟩) :
  P4 (P5 prog w) A (Builtin.«object.__getattribute__» ⟨[.ref a,.str "__class__" tk],[]⟩) Q E ⟨h,g,d,t,os⟩:=by
 have hT5:(⟨h,g,d,t,os⟩:P2).TypeIs (.builtin "object.__class__") "getset_descriptor":=F.typeOf_object_class;have f5:=F.typeOf_object_class;have f6:=F.slot_gs_get.lookup;have f7:=F.slot_gs_set.lookup
 repeat (any_goals (first|assumption|(with_reducible refine wpAny_loadPart_at hx ?_;rw[hc])|with_reducible refine rj X f2 ?_|wp_step))
 refine rk hC hO hx hc ?_
 repeat (any_goals (first|assumption|wp_step))
theorem vC{Q:Unit->P2->Prop}(hC:h.get? C=PU (excClassObj nm q C N bs bm hdct sn sub ab col dd k0 k1 k2 k3 k5 newId))(hB:bm.contains (.type "BaseException")=PX)(hx:h.get? a=PU o)(hc:o.cls=.ref C)(hq:Q () ⟨h,g,d,t,os⟩):P4 M A (checkBuiltinCall "BaseException.__getattribute__" ⟨[.ref a,nameV],[]⟩) Q E ⟨h,g,d,t,os⟩:=by
 have hk:builtinKind "BaseException.__getattribute__" = PU .slot:=by decide +kernel
 have hsplit:splitId "BaseException.__getattribute__" = PU ("BaseException","__getattribute__"):=by decide +kernel
 have hcB:(Value.ref C::bm).contains (.type "BaseException")=PX:=by rw[OO,hB];rfl
 have ha:=F.args_bexc_ga (.ref a) nameV;simp only[checkBuiltinCall,hk,hsplit];refine P3 ?_
 ·unfold isInstance
  repeat (first|(with_reducible refine wpAny_loadPart_at hx ?_;rw[hc])|(with_reducible refine wpAny_isSubtype_exc hC ?_;rw[hcB])|wp_step)
  exact hq
theorem pN{R:Result->P2->Prop}(X:K.In h)(f2:findIn K (.ref C) "__class__" = PU (PU (.builtin "object.__class__")))(hC:h.get? C=PU (excClassObj nm q C N bs bm hdct sn sub ab col dd k0 k1 k2 k3 k5 newId))(hO:bm.contains (.type "object")=PX)(hB:bm.contains (.type "BaseException")=PX)(hx:h.get? a=PU o)(hc:o.cls=.ref C)(hq:R (.ok (.ret (.ref C))) ⟨h,g,d,t,os⟩) :
  codeAny (P5 prog w) A (.call (.builtin "BaseException.__getattribute__") ⟨[.ref a,.str "__class__" tk],[]⟩) R ⟨h,g,d,t,os⟩:=
 codeAny_call_builtin F.attr_ValueError.ga.plain F.entry_bexc_ga (vC hC hB hx hc (nW X f2 hC hO hx hc hq))
theorem vD{Q:PZ->P2->Prop}(X:K.In h)(f1:findIn K (.ref C) "__getattribute__" = PU (PU (.builtin "BaseException.__getattribute__")))(f2:findIn K (.ref C) "__class__" = PU (PU (.builtin "object.__class__")))(f3:findIn K (.ref C) "__getattr__" = PU PV)(hC:h.get? C=PU (excClassObj nm q C N bs bm hdct sn sub ab col dd k0 k1 k2 k3 k5 newId))(hO:bm.contains (.type "object")=PX)(hB:bm.contains (.type "BaseException")=PX)(hx:h.get? a=PU o)(hc:o.cls=.ref C)(hq:Q (.ref C) ⟨h,g,d,t,os⟩) :
  P4 (P5 prog w) A (getAttrBy (.ref a) (.str "__class__" tk) PY) Q E ⟨h,g,d,t,os⟩:=by
 have fb:=F.attr_ValueError.ga.bind (.ref a);have hx2:(Value.builtin "BaseException.__getattribute__" == Value.builtin "object.__getattribute__")=PY:=by decide +kernel
 have hx1:(onTheHeap (Value.ref C)&&Value.builtin "BaseException.__getattribute__" == Value.builtin "object.__getattribute__")=PY:=by rw[hx2];rfl
 repeat (any_goals (first|assumption|(with_reducible refine wpAny_loadPart_at hx ?_;rw[hc])|with_reducible refine rj X f1 ?_|with_reducible refine rj X f3 ?_|wp_step))
 refine pN X f2 hC hO hB hx hc ?_
 repeat (any_goals (first|assumption|wp_step))
theorem pO{Q:Option PZ->P2->Prop}(X:K.In h)(f1:findIn K (.ref C) "__getattribute__" = PU (PU (.builtin "BaseException.__getattribute__")))(f2:findIn K (.ref C) "__class__" = PU (PU (.builtin "object.__class__")))(f3:findIn K (.ref C) "__getattr__" = PU PV)(hC:h.get? C=PU (excClassObj nm q C N bs bm hdct sn sub ab col dd k0 k1 k2 k3 k5 newId))(hO:bm.contains (.type "object")=PX)(hB:bm.contains (.type "BaseException")=PX)(hx:h.get? a=PU o)(hc:o.cls=.ref C)(hq:Q (PU (.ref C)) ⟨h,g,d,t+1,os⟩) :
  P4 (P5 prog w) A (getAttr? (.ref a) "__class__") Q E ⟨h,g,d,t,os⟩:=by
 unfold getAttr? getAttrBy?
 repeat (any_goals (first|assumption|with_reducible apply vD X f1 f2 f3 hC hO hB hx hc|wp_step))
end
structure rm(K:Frag)(C:Addr):Prop where
 ex:excIn K C tK "ValueError.__new__" = PX
 ga:findIn K (.ref C) "__getattribute__" = PU (PU (.builtin "BaseException.__getattribute__"))
 cl:findIn K (.ref C) "__class__" = PU (PU (.builtin "object.__class__"))
 gt:findIn K (.ref C) "__getattr__" = PU PV
theorem pP{K:Frag}{C a:P1}(c:rm K C):KitX K (.ref a) (.ref C) (Cj C a) where
 ty:=λ_ h _ ⟨o,e1,e2⟩=>by
  intro A Q E s k q;show P4 _ A (typeOf (.ref a)) Q E s;unfold typeOf;refine P3 (wpAny_loadPart (k _ _ e1) (P7 ?_));rw[e2];exact q
 it:=λ_ h X _=>by
  obtain⟨bm,N,nm,qn,bs,hdct,sn,sub,ab,col,dd,k0,k1,k2,k3,k5,mN,hC,_⟩:=ji X c.ex;intro A' Q' E' s' k q;unfold isType loadHead;exact P3 (wpAny_loadPart (k _ _ hC) (P7 q))
 ne:=λh tp dd its n sl X htp=>by
  obtain⟨bm,N,nm,qn,bs,hdct,sn,sub,ab,col,dd',k0,k1,k2,k3,k5,mN,hC,_⟩:=ji X c.ex;refine Bool.eq_false_iff.mpr λq=>?_;have e:C=tp:=Value.ref.inj (beq_iff_eq.mp q);subst e;have z:Value.type "type" = Value.type "tuple":=congrArg Obj.cls (Option.some.inj (hC.symm.trans htp));exact absurd (Value.type.inj z) (by decide)
 ca:=λ{_ _ _ _ _ s} X ⟨o,e1,e2⟩ k=>by
  obtain⟨h,g,d,t,os⟩:=s;obtain⟨bm,N,nm,qn,bs,hdct,sn,sub,ab,col,dd',k0,k1,k2,k3,k5,mN,hC,_,_,T⟩:=ji X c.ex;exact pO X c.ga c.cl c.gt hC (T.hasType (by decide)) (T.hasType (by decide)) e1 e2 k
end J
namespace J
open PySem PySem.Spec PySem.W PySem.Calls PyProof.Rows L2
section
variable {X:Cx} {Γ:eZ} {c:Cz}
theorem pQ:hU X (.builtin "isinstance") (λxs H Q=>∃a cv k C b,xs=[.ref a,cv]/\(∀u,RelV cv u->u=k)/\H a=PU (xO C a)/\rm X.K C/\kitOne X.K (.ref C) k=PU b/\Q (.bl b) H):=by
 intro pins s σ H xs us Q I r h;obtain⟨a,cv,k,C,b,rfl,hcv,hH,hK,e,q⟩:=h;obtain⟨u,w',rfl,r1,r2⟩:=wB r;cases(show u=Value.ref a from r1);cases hcv w' r2;obtain⟨h1,_,_⟩:=(show ObjOk X.prog X.w H s.heap a (xO C a) from I.hok a _ hH)
 exact kia_one (pP hK) I.kIn h1 e (λz=>nomatch z) λtk=>⟨.bl b,H,I.tok _,rfl,q⟩
theorem mw:∀{gs:List P1} {us:List PZ},Vals (gs.map V.ref) us->us=gs.map Value.ref
 |[],us,h=>by cases h;rfl
 |g::gs,us,h=>by
  cases h with
  |cons r1 r2=>
   rw[mw r2];cases(show _=Value.ref g from r1);rfl
theorem vE:hU X (.builtin "isinstance") (λxs H Q=>∃a p gs C b,xs=[.ref a,.ref p]/\H p=PU (.tup (Oz V.ref gs))/\H a=PU (xO C a)/\rm X.K C/\kitAny X.K (.ref C) (gs.map Value.ref)=PU b/\Q (.bl b) H):=by
 intro pins s σ H xs us Q I r h;obtain⟨a,p,gs,C,b,rfl,hp,hH,hK,e,q⟩:=h;obtain⟨u,w',rfl,r1,r2⟩:=wB r;cases(show u=Value.ref a from r1);cases(show w'=Value.ref p from r2);obtain⟨h1,_,_⟩:=(show ObjOk X.prog X.w H s.heap a (xO C a) from I.hok a _ hH);obtain⟨_,its,hv,⟨cc,dd,dt,sl⟩,g1,g2,n,g3⟩:=(show ObjOk X.prog X.w H s.heap p (.tup (gs.map V.ref)) from I.hok p _ hp);cases mw hv;replace g2:cc=.type "tuple":=g2;replace g3:dt=.seq _ n:=g3;subst g2 g3
 exact kia_tup (pP hK) I.kIn h1 g1 e (λz=>nomatch z) λtk=>⟨.bl b,H,I.tok _,rfl,q⟩
variable {cn gn:Str} {ic:Nat} {a C G:P1} {p p1 p2 pos:Pos} {σ:L2.St} {H:Hp} {Q:VK} {b:Bool}
theorem Iw(O:al X Γ c)(hi:eK c.sc "isinstance" = PX)(hc:ef c cn=PU ic)(hg:eK c.sc gn=PX)(hm:X.mg gn=PU (.ref G))(hd:(gn==("__debug__":Str))=PY)(hn:ag (.Name cn p1)=PX)(e:σ[ic]?=PU (PU (.ref a)))(hH:H a=PU (xO C a))(hK:rm X.K C)(hk:kitOne X.K (.ref C) (.ref G)=PU b)(q:Q (.bl b) H) :
  wE X (.Call (.Name "isinstance" p) [.Name cn p1,.Name gn p2] [] pos) σ H Q:=by
 refine aL (d9 pQ (bp O hi) (O.tab.bl _ (by simp[aR])) PyProof.Rows.boot_isinstance (aK aF (aK (mO (v:=.ref G) (bp O hg) hm rfl hd) bJ (ai rfl)) (ai hn)) (by decide) (by decide) (ai hn) rfl) (du O hc p1 e ?_);exact⟨a,.ref G,.ref G,C,b,rfl,λu r=>r,hH,hK,hk,q⟩
theorem E3(O:al X Γ c){T:String}(hi:eK c.sc "isinstance" = PX)(hc:ef c cn=PU ic)(hg:eK c.sc gn=PX)(hm:X.mg gn=PV)(hv:bootBuiltins gn=PU (.type T))(hnn:gn≠"__name__")(hd:(gn==("__debug__":Str))=PY)(hn:ag (.Name cn p1)=PX)(e:σ[ic]?=PU (PU (.ref a)))(hH:H a=PU (xO C a))(hK:rm X.K C)(hk:kitOne X.K (.ref C) (.type T)=PU b)(q:Q (.bl b) H) :
  wE X (.Call (.Name "isinstance" p) [.Name cn p1,.Name gn p2] [] pos) σ H Q:=by
 refine aL (d9 pQ (bp O hi) (O.tab.bl _ (by simp[aR])) PyProof.Rows.boot_isinstance (aK aF (aK (rY (v:=.ty T) (bp O hg) hm hv rfl hnn hd) bJ (ai rfl)) (ai hn)) (by decide) (by decide) (ai hn) rfl) (du O hc p1 e ?_);exact⟨a,.ty T,.type T,C,b,rfl,λu r=>r,hH,hK,hk,q⟩
theorem pR:∀{ns:List (Str×Pos×P1)},(∀x∈ns,Gl X x.1/\X.mg x.1=PU (.ref x.2.2)/\(x.1==("__debug__":Str))=PY)->∃t:TA,PA X (ns.map λx=>.Name x.1 x.2.1) t/\∀σ H Q,Q (ns.map λx=>V.ref x.2.2) H->t σ H Q
 |[],_=>⟨_,bJ,λ_ _ _ q=>q⟩
 |x::ns,h=>by
  obtain⟨h1,h2,h3⟩:=h x (Nm ..);obtain⟨t,ht,hq⟩:=pR λy hy=>h y (Ng _ hy);exact⟨_,aK (mO (v:=.ref x.2.2) h1 h2 rfl h3) ht (ai rfl),λσ H Q q=>hq σ H _ q⟩
end
end J
namespace J
open PySem PySem.Spec PySem.W PySem.Calls PyProof.Rows L2
section
variable {X:Cx} {Γ:eZ} {c:Cz} {pn:List Nat}
theorem E4(O:al X Γ c){cn:Str}{ic:Nat}{a C:P1}{p p1 tp pos:Pos}{kk:Nat}{σ:L2.St}{H:Hp}{Q:VK}{b:Bool}{ns:List (Str×Pos×P1)}(hi:eK c.sc "isinstance" = PX)(hc:ef c cn=PU ic)(hns:∀x∈ns,Gl X x.1/\X.mg x.1=PU (.ref x.2.2)/\(x.1==("__debug__":Str))=PY)(hl:ns.length<=1000)(hn:ag (.Name cn p1)=PX)(e:σ[ic]?=PU (PU (.ref a)))(hH:H a=PU (xO C a))(hK:rm X.K C)(hk:kitAny X.K (.ref C) (ns.map λx=>Value.ref x.2.2)=PU b)(q:∀t,H t=PV->Q (.bl b) (upd H t (.tup (ns.map λx=>V.ref x.2.2)))) :
  wE X (.Call (.Name "isinstance" p) [.Name cn p1,.Tuple (ns.map λx=>.Name x.1 x.2.1) kk tp] [] pos) σ H Q:=by
 obtain⟨t,ht,hq⟩:=pR hns;refine aL (d9 vE (bp O hi) (O.tab.bl _ (by simp[aR])) PyProof.Rows.boot_isinstance (aK aF (aK (km ht) bJ (ai rfl)) (ai hn)) (by decide) (by decide) (ai hn) rfl) (du O hc p1 e ?_);refine hq σ H _ ⟨by rw[MY];exact OA (uN hl),λt h0=>?_⟩;have e1:(ns.map λx=>V.ref x.2.2)=(ns.map λx=>x.2.2).map V.ref:=by rw[Nl];rfl
 have e2:(ns.map λx=>Value.ref x.2.2)=(ns.map λx=>x.2.2).map Value.ref:=by rw[Nl];rfl
 refine⟨a,t,ns.map λx=>x.2.2,C,b,rfl,?_,?_,hK,by rw[<- e2];exact hk,q t h0⟩
 ·rw[<- e1];exact am
 ·rw[ah (λz=>by rw[z,h0] at hH;cases hH)];exact hH
theorem E5(h:∀pins,qe (Cx.pinned X pins (Iu X pins (h0::hs) Dn)) body Dn σ H):Gj X (.Try body (h0::hs) [] [] pos) Dn σ H:=by
 intro pins s I;refine wpAny_Try_except (wpAny_mono (h pins [] s (AR I)) (λf s1 hsp=>?_) λe s1 hx=>hx);have z:=yj hsp
 cases f with
 |next=>exact wpAny_execs_nil z
 |ret v=>exact z
 |brk=>exact z
 |cont=>exact z
theorem E6(hx:∀e s,¬X.xe e s){f:Ro->Option Res}{h0:ExceptHandler}{hs:List ExceptHandler}{body:List P9}{pos:Pos}(hb:SndB X pn f body):SndS X pn f (.Try body (h0::hs) [] [] pos):=by
 intro ρ r h g σ H Dn se q pins s I;refine wpAny_Try_except (wpAny_mono (hb ρ r h g σ H Dn se q pins s I) (λf s1 hsp=>?_) λe s1 z=>absurd z (hx e s1))
 cases f with
 |next=>exact wpAny_execs_nil hsp
 |ret v=>exact hsp
 |brk=>exact hsp
 |cont=>exact hsp
theorem E7{st:List P9}:SndB X pn (λ_=>PV) st:=λρ r h=>by cases h
theorem Ix{f f':Ro->Option Res}{st:List P9}(h:SndB X pn f st)(h':SndB X pn f' st):SndB X pn (λρ=>match f ρ with|some r=>PU r|none=>f' ρ) st:=by
 intro ρ r e;dsimp only at e;split at e
 ·rename_i r' e';cases e;exact h ρ _ e'
 ·exact h' ρ r e
structure mx(P:Program)(w:World)(K:MW)(mg:Str->Option Value)(base:Heap)(k:Nat)(X:Cx):Prop where
 prog:X.prog=P
 w:X.w=w
 K:X.K=K
 mg:X.mg=mg
 base:X.base=base
 room:Room k X.A
 nox:∀e s,¬X.xe e s
 stk:X.stack=X.env::X.outer
 fr:X.env.frame=PU X.env.locals
 own:PassesOwn (P5 X.prog X.w) X.A X.env X.xe
end
section
variable {P:P6} {w:P8} {K:MW} {mg:Str->Option PZ} {base:Qa} {fns:Nms} {Γ:GG} {x qual:Str} {st:P9} {f:P1} {fd:Qk} {N ps:List Str} {k:Nat}
theorem AS(F:Fun K x qual st f fd)(S:aA N ps (af st))(T:TabF P w K mg base (a7 fns Γ) k)(hB:∀X:Cx,mx P w K mg base k X->al X (a7 fns Γ) ⟨af st,N,λ_=>PX⟩->SndB X [] fb (aH st)) :
  FnOk P w K mg base oP (k+1) f fd ps (v6 K (AN fb ps.length N.length)):=by
 have hN:ps.length<=N.length:=by
  have:=congrArg ON S.pre;rw[NN] at this
  lia
 refine F.ok S (λvs H Q E h=>?_) (λcdv A outer s H vs Q E hr h=>?_)
 ·obtain⟨ds,g,k',d,r,dm,hφ,q⟩:=h;unfold AN at hφ;split at hφ
  ·rename_i hl;rw[r.len,hl]
  ·cases hφ
 ·obtain⟨ds,g,k',d,r,dm,hφ,q⟩:=h;unfold AN at hφ;split at hφ
  ·rename_i hl
   have O:al (eJ oP P w K mg base N qual (af st) f cdv A outer s H E).nox (a7 fns Γ) ⟨af st,N,λ_=>PX⟩:=
    ⟨rfl,rfl,λ_ _=>rfl,rfl,S.nd,⟨λy φ hy=>by
     rcases T.fn y φ hy with⟨g,gd,qs,h1,h2,h3,h4,h5⟩|z
     ·exact .inl ⟨k,g,gd,qs,h1,hr,h2,h3,h4,h5⟩
     ·exact z.elim,T.cf,λy φ hy=>by
     obtain⟨g,gd,qs,h1,h2,h3,h4,h5⟩:=T.fm y φ hy;exact⟨k,g,gd,qs,h1,hr,h2,h3,h4,h5⟩,T.bl,(by have h:=hr.un;exact NA (Nq (Om (by decide:100<=200) _) (Oj (NV _ _) 200)) h),hr.gd,T.cst⟩⟩
   have m0:MuOk H (Sg (g.re λ_=>PV)):=λb z=>dm b ((lB b).mp z);have r0:RpL K H (Sg (g.re λ_=>PV)) ds vs:=r.weak λb z=>(lB b).mp z;have se:=nR (N:=N) (yd r0 m0) (by simpa[hl] using hN);have sb:SndB _ [] fb (aH st):=hB _ ⟨rfl,rfl,rfl,rfl,rfl,hr,λ_ _ z=>z,rfl,rfl,PassesOwn.never⟩ O;refine⟨_,bS,?_⟩;unfold gW at hφ;split at hφ
   ·rename_i k2 d2 ρ2 hex;split at hφ
    ·cases hφ
    ·rename_i hb;cases hφ;refine sb _ _ hex _ (cq N vs) H _ se λv σ' g' H' F ev se' pk vr=>?_;obtain⟨p1,p2,p3⟩:=ge (K:=K) ev;exact q v H' p1 ⟨F,p2,vr.unlend (by simpa using hb) p3⟩
   ·rename_i ρ' hex;cases hφ;refine sb _ _ hex _ (cq N vs) H _ se λσ' g' H' ev se' pk=>?_;obtain⟨p1,p2,p3⟩:=ge (K:=K) ev;exact q .non H' p1 DI
   ·cases hφ
  ·cases hφ
theorem TabF.addX{i:Nat}{ψ φ:Fn}(T:TabF P w K mg base (a7 fns Γ) k)(F:Fun K x qual st f fd)(ok:FnOk P w K mg base oP (k+1) f fd ps (v6 K φ))(hm:mg x=PU (.ref f))(hb:Binds K fd ps [])(hd:(x==("__debug__":Str))=PY)
  (hi:fns.fns[i]?=PU x) (hψ:∀ds,Le (ψ ds) (φ ds)):TabF P w K mg base (a7 fns (Γ.addI i ψ)) (k+1):=by
 refine⟨λy φ' hy=>?_,T.cf,T.up.fm,T.bl,T.cst⟩;have hy:(bz y fns.fns).bind (fv Γ.fn i ψ)=PU φ':=hy
 cases hj:bz y fns.fns with
 |none=>rw[hj] at hy;cases hy
 |some j=>
  rw[hj] at hy;have hy':fv Γ.fn i ψ j=PU φ':=hy;unfold fv at hy';split at hy'
  ·rename_i e;subst e;cases hy'
   have hyx:y=x:=by
    have:=bf hj;rw[hi] at this;exact(Option.some.inj this).symm
   subst hyx;exact .inl ⟨f,fd,ps,ok.imp λvs H Q E s=>rf hψ s,hm,F.kp,hb,hd⟩
  ·exact T.up.fn y φ' (by show(bz y fns.fns).bind Γ.fn=_;rw[hj];exact hy')
end
end J
namespace J
open PySem PySem.Spec L2
theorem rn{α:Type}(Γ:Nat->Option α)(i:Nat)(a b:α):fv (fv Γ i a) i b=fv Γ i b:=by
 funext j;unfold fv
 split<;>rfl
theorem rq(Γ:GG)(i:Nat)(a b:Fn):(Γ.addI i a).addI i b=Γ.addI i b:=by
 show(⟨fv (fv Γ.fn i a) i b,Γ.fm⟩:GG)=⟨fv Γ.fn i b,Γ.fm⟩;rw[rn]
noncomputable def recI(Γ:GG)(i N m k:Nat)(body:bZ):Nat->Fn
 |0=>λ_=>PV
 |n+1=>cw (Γ.addI i (recI Γ i N m k body n)) N m k body
section
variable {P:P6} {w:P8} {K:MW} {mg:Str->Option PZ} {base:Qa} {fns:Nms} {Γ:GG} {x qual:Str} {st:P9} {f:P1} {fd:Qk} {N ps:List Str} {k n M i:Nat} {an:An} {body:bZ}
theorem TabF.recI(T:TabF P w K mg base (a7 fns Γ) k)(F:Fun K x qual st f fd)(S:aA N ps (af st))(hm:mg x=PU (.ref f))(hb:Binds K fd ps [])(hd:(x==("__debug__":Str))=PY)
  (hi:fns.fns[i]?=PU x) (hc:cF fns an n N st=PU body):∀d:Nat,TabF P w K mg base (a7 fns (Γ.addI i (J.recI Γ i M ps.length N.length body d))) (k+1+d)
 |0=>T.addI (M:=M) F S hm hb hd hi hc λ_ _ e=>nomatch e
 |d+1=>by
  have:=(TabF.recI T F S hm hb hd hi hc d).addI (M:=M) (ψ:=J.recI Γ i M ps.length N.length body (d+1)) F S hm hb hd hi hc λ_=>Le.refl _;rw[rq] at this;exact this
end
section
variable {P:P6} {w:P8} {K:MW} {mg:Str->Option PZ} {base:Qa} {fns:Nms} {Γ:GG} {x y qual:Str} {st:P9} {f C:P1} {fd:Qk} {N ps:List Str} {k n M i:Nat} {an:An} {body:bZ}
end
end J
namespace J
open PySem PySem.Spec L2
noncomputable def Wp{α:Type}(a:Option α)(Q:α->Prop):Prop:=∃r,a=PU r/\Q r
theorem Wp.mono{α:Type}{a:Option α}{Q R:α->Prop}(h:Wp a Q)(k:∀r,Q r->R r):Wp a R:=let ⟨r,e,q⟩:=h;⟨r,e,k r q⟩
theorem cH{α:Type}{r:α}{Q:α->Prop}(q:Q r):Wp (PU r) Q:=⟨r,rfl,q⟩
section
variable {Γ:Nat->Option Fn} {ρ:Ro} {Q:KD->Prop}
theorem aa{i:Nat}(h:ρ[i]?=PU (PU s))(q:Q (uS i s)):Wp (aj Γ (.var i) ρ) Q:=⟨_,by rw[z8,h];rfl,q⟩
theorem ad(q:Q (.sh,d)):Wp (aj Γ (.lit d) ρ) Q:=⟨_,by rw[sK],q⟩
theorem ak(h:Wp (aj Γ a ρ) λx=>Wp (aj Γ b ρ) λy=>Wp (dZ op x y) Q):Wp (aj Γ (.bin op a b) ρ) Q:=by
 obtain⟨x,ex,y,ey,z,ez,q⟩:=h;exact⟨z,by rw[z9,ex,ey];exact ez,q⟩
theorem eS(h:Wp (aj Γ a ρ) λx=>Wp (aj Γ b ρ) λy=>Wp (cu op x.2 y.2) λr=>Q (.sh,.bl r)):Wp (aj Γ (.cmp op a b) ρ) Q:=by
 obtain⟨x,ex,y,ey,z,ez,q⟩:=h;exact⟨_,by rw[Aa,ex,ey];show bV (cu op x.2 y.2)=_;rw[ez];rfl,q⟩
theorem k7(h:Wp (bG Γ t ρ) λr=>(r=PX->Wp (aj Γ a ρ) Q)/\(r=PY->Wp (aj Γ b ρ) Q)):Wp (aj Γ (.ifx t a b) ρ) Q:=by
 obtain⟨r,er,q1,q2⟩:=h
 cases r with
 |true=>obtain⟨x,ex,q⟩:=q1 rfl;exact⟨x,by rw[sL,er];exact ex,q⟩
 |false=>obtain⟨x,ex,q⟩:=q2 rfl;exact⟨x,by rw[sL,er];exact ex,q⟩
theorem aG(h:Wp (aW Γ es ρ) λkds=>Wp (ik k (PU kds)) Q):Wp (aj Γ (.lst k es) ρ) Q:=by
 obtain⟨x,ex,z,ez,q⟩:=h;exact⟨z,by rw[Ac,ex];exact ez,q⟩
theorem dO(h:Wp (aW Γ es ρ) λkds=>Wp (il k (PU kds)) Q):Wp (aj Γ (.tup k es) ρ) Q:=by
 obtain⟨x,ex,z,ez,q⟩:=h;exact⟨z,by rw[Ad,ex];exact ez,q⟩
theorem aQ(h:Wp (aj Γ a ρ) λx=>Wp (aj Γ b ρ) λy=>Wp (uV (PU x) (PU y)) Q):Wp (aj Γ (.ix a b) ρ) Q:=by
 obtain⟨x,ex,y,ey,z,ez,q⟩:=h;exact⟨z,by rw[D8,ex,ey];exact ez,q⟩
theorem Cm(h:Wp (aj Γ a ρ) λx=>Wp (d5 Γ lo ρ) λl=>Wp (d5 Γ hi ρ) λu=>Wp (Ga (PU x) (PU l) (PU u)) Q):Wp (aj Γ (.sl a lo hi) ρ) Q:=by
 obtain⟨x,ex,l,el,u,eu,z,ez,q⟩:=h;exact⟨z,by rw[D9,ex,el,eu];exact ez,q⟩
theorem ym(h:Wp (aj Γ a ρ) λx=>Wp (d5 Γ lo ρ) λl=>Wp (aj Γ st ρ) λy=>Wp (uX (PU x) (PU l) (PU y)) Q):Wp (aj Γ (.stp a lo st) ρ) Q:=by
 obtain⟨x,ex,l,el,y,ey,z,ez,q⟩:=h;exact⟨z,by rw[Af,ex,el,ey];exact ez,q⟩
theorem cb{i:Nat}(hΓ:Γ i=PU φ)(h:Wp (aW Γ es ρ) λkds=>Wp (qN φ kds) Q):Wp (aj Γ (.fn i es) ρ) Q:=by
 obtain⟨x,ex,z,ez,q⟩:=h;exact⟨z,by rw[xz,ex,hΓ];exact ez,q⟩
theorem bv{x:Str}(h:Wp (aW Γ es ρ) λkds=>Wp (jD x kds) Q):Wp (aj Γ (.blt x es) ρ) Q:=by
 obtain⟨y,ey,z,ez,q⟩:=h;exact⟨z,by rw[Ah,ey];exact ez,q⟩
theorem fN{T:Str}(h:Wp (aj Γ a ρ) λx=>Wp (u3 T x.2) λb=>Q (.sh,.bl b)):Wp (aj Γ (.isi T a) ρ) Q:=by
 obtain⟨y,ey,z,ez,q⟩:=h;exact⟨_,by rw[Ag,ey];show bV (u3 T y.2)=_;rw[ez];rfl,q⟩
theorem jP(h:Wp (d6 Γ it ρ) λp=>p.2.length<=100000/\Wp (a8 r (eM tg (eB Γ ts) (aj Γ elt) (cL ρ cap)) p.2) λys=>Q (.fr (.own [] r),.lst ys)):Wp (aj Γ (.comp r cap tg it ts elt) ρ) Q:=by
 obtain⟨p,ep,hl,ys,ey,q⟩:=h;obtain⟨bs,ds⟩:=p
 exact⟨_,by rw[pc,ep];show(if ds.length<=100000 then _ else _)=_;rw[if_pos hl,ey],q⟩
variable {T:Bool->Prop}
theorem aI(h:Wp (aj Γ a ρ) λx=>Wp (aj Γ b ρ) λy=>Wp (cu op x.2 y.2) T):Wp (bG Γ (.cmp op a b) ρ) T:=by
 obtain⟨x,ex,y,ey,z,ez,q⟩:=h;exact⟨_,by rw[xA,ex,ey];exact ez,q⟩
theorem nX(h:Wp (bG Γ a ρ) λb=>T (!b)):Wp (bG Γ (.not a) ρ) T:=by
 obtain⟨x,ex,q⟩:=h;exact⟨_,by rw[xB,ex];rfl,q⟩
theorem k8(h:Wp (bG Γ a ρ) T):Wp (bG Γ (.bool op (.cons a .nil)) ρ) T:=by
 obtain⟨y,ey,q⟩:=h;exact⟨y,by rw[f8,fJ];exact ey,q⟩
theorem k9(h:Wp (bG Γ a ρ) λz=>((op==.And)=z->Wp (bG Γ (.bool op (.cons b r)) ρ) T)/\((op==.And)≠z->T z)):Wp (bG Γ (.bool op (.cons a (.cons b r))) ρ) T:=by
 obtain⟨z,ey,q1,q2⟩:=h;by_cases hh:(op==.And)=z
 ·obtain⟨y,e2,q⟩:=q1 hh;rw[f8] at e2;exact⟨y,by rw[f8,fJ,ey];exact(if_pos hh).trans e2,q⟩
 ·exact⟨_,by rw[f8,fJ,ey];exact if_neg hh,q2 hh⟩
theorem d7(ht:Aj a=PX)(h:Wp (aj Γ a ρ) λx=>Wp (xc x.2) T):Wp (bG Γ a ρ) T:=by
 obtain⟨x,ex,b,eb,q⟩:=h;exact⟨b,by rw[jL ht];show ny (aj Γ a ρ)=_;rw[ex];exact eb,q⟩
variable {L:List KD->Prop}
theorem ae(q:L []):Wp (aW Γ .nil ρ) L:=⟨_,by rw[aW],q⟩
theorem ac(h:Wp (aj Γ a ρ) λx=>Wp (aW Γ r ρ) λxs=>L (x::xs)):Wp (aW Γ (.cons a r) ρ) L:=by
 obtain⟨x,ex,xs,exs,q⟩:=h;exact⟨_,by rw[aW,ex,exs];rfl,q⟩
theorem rs{P:Option Int->Prop}(q:P PV):Wp (d5 Γ .non ρ) P:=⟨_,by rw[d5],q⟩
theorem yn{P:Option Int->Prop}(h:Wp (aj Γ a ρ) λx=>∃i,x.2=.int i/\P (PU i)):Wp (d5 Γ (.som a) ρ) P:=by
 obtain⟨⟨k,d⟩,ex,i,hi,q⟩:=h;have hi:d=.int i:=hi;subst hi;exact⟨_,by rw[d5,ex];rfl,q⟩
variable {P:List Nat×List D->Prop}
theorem pS(h:Wp (aj Γ a ρ) λx=>Wp (qL (PU x)) P):Wp (d6 Γ (.e a) ρ) P:=by
 obtain⟨x,ex,z,ez,q⟩:=h;exact⟨z,by rw[d6,ex];exact ez,q⟩
theorem rA(h:Wp (aj Γ a ρ) λx=>Wp (uY (PU x)) P):Wp (d6 Γ (.enm a) ρ) P:=by
 obtain⟨x,ex,z,ez,q⟩:=h;exact⟨z,by rw[d6,ex];exact ez,q⟩
theorem yo(h:Wp (aj Γ a ρ) λx=>Wp (aj Γ b ρ) λy=>Wp (o5 (PU x) (PU y)) P):Wp (d6 Γ (.zp a b) ρ) P:=by
 obtain⟨x,e,y,e',h⟩:=h;show Wp (o5 (aj Γ a ρ) (aj Γ b ρ)) P;rw[e,e'];exact h
theorem lc(h:Wp (aj Γ a ρ) λx=>Wp (aj Γ b ρ) λy=>Wp (iu (PU x) (PU y)) P):Wp (d6 Γ (.rng a b) ρ) P:=by
 obtain⟨x,ex,y,ey,z,ez,q⟩:=h;exact⟨z,by rw[d6,ex,ey];exact ez,q⟩
end
section
variable {Q:KD->Prop} {k k':Kd} {i j:Int}
theorem bL(q:Q (.sh,.int (i+j))):Wp (dZ .Add (k,.int i) (k',.int j)) Q:=cH q
theorem ld(q:Q (.sh,.int (i-j))):Wp (dZ .Sub (k,.int i) (k',.int j)) Q:=cH q
theorem jk(h:i.natAbs<lim/\j.natAbs<lim)(q:Q (.sh,.int (i*j))):Wp (dZ .Mult (k,.int i) (k',.int j)) Q:=⟨_,fX (if_pos h),q⟩
theorem nY(h:0<j/\j.natAbs<lim)(q:Q (.sh,.int (i / j))):Wp (dZ .FloorDiv (k,.int i) (k',.int j)) Q:=⟨_,fX (if_pos h),q⟩
theorem cI(h:0<j)(q:Q (.sh,.int (i%j))):Wp (dZ .Mod (k,.int i) (k',.int j)) Q:=⟨_,fX (if_pos h),q⟩
theorem rB(h:0<=j/\j<=1000000/\i.natAbs<2^64)(q:Q (.sh,.int (i^j.toNat))):Wp (dZ .Pow (k,.int i) (k',.int j)) Q:=⟨_,fX (if_pos h),q⟩
theorem nZ(h:0<=j/\j<=1000000/\i.natAbs<lim)(q:Q (.sh,.int (i*2^j.toNat))):Wp (dZ .LShift (k,.int i) (k',.int j)) Q:=⟨_,fX (if_pos h),q⟩
theorem E8(h:0<=j)(q:Q (.sh,.int (i / 2^j.toNat))):Wp (dZ .RShift (k,.int i) (k',.int j)) Q:=⟨_,fX (if_pos h),q⟩
theorem jl{xs ys:List D}(h:jK k xs=PX/\jK k' ys=PX/\xs.length+ys.length<=100000)(q:Q (.fr bQ,.lst (xs++ys))):Wp (dZ .Add (k,.lst xs) (k',.lst ys)) Q:=⟨_,if_pos h,q⟩
variable {T:Bool->Prop}
theorem yp(q:T (decide (i<j))):Wp (cu .Lt (.int i) (.int j)) T:=cH q
theorem fP(q:T (decide (j<i))):Wp (cu .Gt (.int i) (.int j)) T:=cH q
theorem Cn(q:T (decide (j<=i))):Wp (cu .GtE (.int i) (.int j)) T:=cH q
theorem gZ(h:cj 90 x=PX/\cj 90 y=PX)(q:T (jJ x y)):Wp (cu .Eq x y) T:=⟨_,if_pos h,q⟩
theorem rC(h:cj 90 x=PX/\cj 90 y=PX)(q:T (!jJ x y)):Wp (cu .NotEq x y) T:=⟨_,if_pos h,q⟩
theorem tO:jJ (.int i) (.int j)=decide (i=j):=by
 unfold jJ py;simp[PyData.eqv]
 try rfl
theorem eE(q:T (decide (i=j))):Wp (cu .Eq (.int i) (.int j)) T:=gZ ⟨rfl,rfl⟩ (by rw[tO];exact q)
theorem pT(q:T (!decide (i=j))):Wp (cu .NotEq (.int i) (.int j)) T:=rC ⟨rfl,rfl⟩ (by rw[tO];exact q)
variable {xs:List D} {d:D} {n:Nat}
theorem E9{z:Int}(hj:kn xs.length z=PU n)(hd:xs[n]?=PU d)(q:Q (xf k n,d)):Wp (uV (PU (k,.nd .lst xs)) (PU (k',.int z))) Q:=⟨_,by show(match kn xs.length z with|some j=>(xs[j]?).map (λd=>(xf k j,d))|none=>PV)=_;rw[hj];show(xs[n]?).map _=_;rw[hd];rfl,q⟩
theorem Fa{z:Int}(hj:kn xs.length z=PU n)(hd:xs[n]?=PU d)(q:Q (xf k n,d)):Wp (uV (PU (k,.nd .tup xs)) (PU (k',.int z))) Q:=⟨_,by show(match kn xs.length z with|some j=>(xs[j]?).map (λd=>(xf k j,d))|none=>PV)=_;rw[hj];show(xs[n]?).map _=_;rw[hd];rfl,q⟩
theorem n0{m:Nat}{z:Int}(h0:0<=z)(h1:z<m):kn m z=PU z.toNat:=by unfold kn;rw[if_pos h0,if_pos h1]
end
theorem Fb{Q:KD->Prop}{n:Nat}(h:DT d=PU n)(q:Q (.sh,.int n)):Wp (jD "len" [(k,d)]) Q:=by
 refine⟨(.sh,.int n),?_,q⟩;have e:jD "len" = xm:=by unfold jD;rw[if_pos rfl]
 rw[e];unfold xm;dsimp only;rw[h];rfl
theorem iJ{Q:KD->Prop}(h:jK k ds=PX)(q:Q (DU k,.tup ds)):Wp (jD "tuple" [(k,.nd .lst ds)]) Q:=⟨_,if_pos h,q⟩
theorem bt{φ:Fn}{kds:List KD}{Q:KD->Prop}(h:Wp (φ (kds.map (·.2))) λr=>bX r.1=PY/\((kds.all λp=>oy p.1 p.2)=PX\/qM r.1 r.2=PX)/\Q r):Wp (qN φ kds) Q:=by
 obtain⟨⟨kd,d⟩,e,hb,ho,q⟩:=h;refine⟨(kd,d),?_,q⟩;unfold qN;rw[e];dsimp only;by_cases ha:(kds.all λp=>oy p.1 p.2)=PX
 ·rw[if_pos ha,if_neg (by simpa using hb)]
 ·rw[if_neg ha,if_pos (ho.resolve_left ha)]
section
variable {Γ:GG} {ρ:Ro} {Q:Kd×D×Ro->Prop}
theorem aw(h:Wp (aj Γ.fn e ρ) λx=>Q (x.1,x.2,ρ)):Wp (ba Γ (.p e) ρ) Q:=by
 obtain⟨x,ex,q⟩:=h;exact⟨_,by rw[sW,ex];rfl,q⟩
theorem gy{i:Nat}(h:ρ[i]?=PU (PU ⟨PY,.own es r,d⟩))(q:Q (.fr (.own es r),d,ρ.set i PV)):Wp (ba Γ (.mv i) ρ) Q:=⟨_,by rw[Ey];unfold u9;rw[h];rfl,q⟩
theorem lf{i:Nat}(h:ρ[i]?=PU (PU ⟨PY,k,d⟩))(q:Q (.sh,d,ρ.set i (PU ⟨PY,.fz,d⟩))):Wp (ba Γ (.fz i) ρ) Q:=⟨_,by rw[Ez];unfold va;rw[h],q⟩
theorem Co{f:Nat}{φ:Fm}(hφ:Γ.fm f=PU φ)(h:Wp (dw Γ as ρ) λp=>(dS p.1).Nodup/\∃ks,eO p.2 p.1=PU ks/\Wp (φ ks) λo=>bX o.1=PY/\o.2.2.length=p.1.length/\Q (o.1,o.2.1,dJ p.1 (o.2.2.map Gf) p.2)):Wp (ba Γ (.io f as) ρ) Q:=by
 obtain⟨⟨ras,ρ1⟩,ea,hn,ks,hk,⟨kd,d,os⟩,eo,hb,hl,q⟩:=h;refine⟨_,?_,q⟩;rw[qY,hφ,ea];unfold Ej;dsimp only;rw[if_pos hn,hk];dsimp only;rw[eo];dsimp only;exact if_neg (by rw[hb];simpa using hl)
theorem lg{f:Nat}(hφ:Γ.fn f=PU φ)(h:Wp (bC Γ as ρ) λp=>Wp (qN φ p.1) λr=>Q (r.1,r.2,p.2)):Wp (ba Γ (.fn f as) ρ) Q:=by
 obtain⟨⟨kds,ρ1⟩,ea,r,er,q⟩:=h
 exact⟨_,by rw[qZ,hφ];show oS (qN φ) _=_;rw[ea];show(match qN φ kds with|some (kd,d)=>PU (kd,d,ρ1)|none=>PV)=_;rw[er],q⟩
theorem tP{f:List KD->Option KD}(h:Wp a λp=>Wp (f p.1) λr=>Q (r.1,r.2,p.2)):Wp (oS f a) Q:=by
 obtain⟨⟨kds,ρ1⟩,ea,r,er,q⟩:=h
 exact⟨_,by rw[ea];show(match f kds with|some (kd,d)=>PU (kd,d,ρ1)|none=>PV)=_;rw[er],q⟩
theorem jm(h:Wp (bC Γ as ρ) λp=>Wp (il k (PU p.1)) λr=>Q (r.1,r.2,p.2)):Wp (ba Γ (.tup k as) ρ) Q:=by rw[Av];exact tP h
theorem jn(h:Wp (bC Γ as ρ) λp=>Wp (ik k (PU p.1)) λr=>Q (r.1,r.2,p.2)):Wp (ba Γ (.lst k as) ρ) Q:=by rw[Aw];exact tP h
theorem fQ(h:Wp (bC Γ as ρ) λp=>∃x y,p.1=[x,y]/\Wp (dZ op x y) λr=>Q (r.1,r.2,p.2)):Wp (ba Γ (.bin op as) ρ) Q:=by
 rw[Ax];exact tP (h.mono λp ⟨x,y,e,w⟩=>by rw[e];exact w)
theorem yq(h:Wp (bC Γ as ρ) λp=>∃x y,p.1=[x,y]/\Wp (uV (PU x) (PU y)) λr=>Q (r.1,r.2,p.2)):Wp (ba Γ (.ix as) ρ) Q:=by
 rw[EA];exact tP (h.mono λp ⟨x,y,e,w⟩=>by rw[e];exact w)
theorem tQ{cap:List (Option Nat)}(h:Wp (dA Γ it ρ) λp=>p.1=[]/\p.2.1.length<=100000/\Wp (aN r (gh cap tg (lE Γ ts) (ba Γ elt)) p.2.1 (cL p.2.2 cap)) λz=>z.2.length=cap.length/\Q (.fr (.own [] r),.lst z.1,dJ (iE cap) z.2 p.2.2)):Wp (ba Γ (.comp r cap tg it ts elt) ρ) Q:=by
 obtain⟨⟨bs,ds,ρ1⟩,ep,hb,hl,⟨ys,ρc⟩,ey,hz,q⟩:=h;refine⟨_,?_,q⟩;rw[pw,ep];unfold gO;dsimp only at hb hl ey hz⊢;rw[if_pos ⟨hb,hl⟩,ey];dsimp only;rw[if_pos hz]
theorem yr{i:Nat}(h0:ρ[i]?=PU (PU ⟨PY,.own es0 r0,.nd .lst ds0⟩))(h:Wp (ba Γ a ρ) λp=>∃es r ds,p.2.2[i]?=PU (PU ⟨PY,.own es r,.nd .lst ds⟩)/\(es.length<=ds.length/\dc r (eI p.1 p.2.1,p.2.1)=PX/\ds.length<100000)/\Q (.sh,.non,p.2.2.set i (PU ⟨PY,.own es r,.lst (ds++[p.2.1])⟩))):Wp (ba Γ (.mutM "append" i a) ρ) Q:=by
 obtain⟨⟨kd,d,ρ1⟩,ea,es,r,ds,h1,h2,q⟩:=h;refine⟨_,?_,q⟩;rw[xQ,ea,h0];show lD "append" i (mi ρ1[i]?) (PU [(eI kd d,d)]) ρ1=_;dsimp only at h1 h2;rw[h1]
 show(match nI "append" es r ds [(eI kd d,d)],ρ1[i]? with|some (d',ds'),PU (PU ⟨PY,k,_⟩)=>PU (Kd.sh,d',ρ1.set i (PU ⟨PY,k,id (.lst ds')⟩))|_,_=>PV)=_
 have:nI "append" es r ds [(eI kd d,d)]=PU (.non,ds++[d]):=if_pos h2;rw[this,h1];rfl
theorem jQ{i:Nat}(h:Wp (aj Γ.fn e ρ) λx=>∃es r ds,ρ[i]?=PU (PU ⟨PY,.own es r,.nd .lst ds⟩)/\(es.length<=ds.length/\dc r x=PX/\ds.length<100000)/\Q (.sh,.non,ρ.set i (PU ⟨PY,.own es r,.lst (ds++[x.2])⟩))):Wp (ba Γ (.mut "append" (.nm i) (.cons e .nil)) ρ) Q:=by
 obtain⟨x,ex,es,r,ds,h1,h2,q⟩:=h;refine⟨_,?_,q⟩;rw[nJ,aW,aW,ex];show lD "append" i (qX Γ.fn (.nm i) ρ) (PU [x]) ρ=_;rw[qX,h1]
 show(match nI "append" es r ds [x],ρ[i]? with|some (d',ds'),PU (PU ⟨PY,k,_⟩)=>PU (Kd.sh,d',ρ.set i (PU ⟨PY,k,id (.lst ds')⟩))|_,_=>PV)=_
 have:nI "append" es r ds [x]=PU (.non,ds++[x.2]):=if_pos h2;rw[this,h1];rfl
variable {A:List RA×Ro->Prop}
theorem rD(q:A ([],ρ)):Wp (dw Γ .nil ρ) A:=⟨_,by rw[dw],q⟩
theorem rE{i:Nat}(hs:ρ[i]?=PU (PU s))(h:Wp (dw Γ r ρ) λp=>A (.ref i::p.1,p.2)):Wp (dw Γ (.ref i r) ρ) A:=by
 obtain⟨⟨ras,ρ1⟩,ea,q⟩:=h;exact⟨_,by rw[dw,hs,ea];rfl,q⟩
theorem yt(h:Wp (ba Γ a ρ) λx=>bX (eI x.1 x.2.1)=PY/\Wp (dw Γ r x.2.2) λp=>A (.val (eI x.1 x.2.1) x.2.1::p.1,p.2)):Wp (dw Γ (.val a r) ρ) A:=by
 obtain⟨⟨kd,d,ρ1⟩,ea,hb,⟨ras,ρ2⟩,er,q⟩:=h;refine⟨_,?_,q⟩;rw[dw,ea]
 show(if bX (eI kd d)=PX then PV else _)=_
 dsimp only at hb er;rw[if_neg (by rw[hb];decide),er]
variable {S:List KD×Ro->Prop}
theorem aU(h:Wp (ba Γ a ρ) λx=>Wp (aW Γ.fn r x.2.2) λxs=>S ((x.1,x.2.1)::xs,x.2.2)):Wp (bC Γ (.fin a r) ρ) S:=by
 obtain⟨⟨kd,d,ρ1⟩,ea,xs,ex,q⟩:=h;refine⟨_,?_,q⟩;rw[bC,ea]
 show(match aW Γ.fn r ρ1 with|some kds=>PU ((kd,d)::kds,ρ1)|none=>PV)=_
 dsimp only at ex;rw[ex]
theorem aD(h:Wp (ba Γ a ρ) λx=>bX (eI x.1 x.2.1)=PY/\Wp (bC Γ r x.2.2) λp=>S ((eI x.1 x.2.1,x.2.1)::p.1,p.2)):Wp (bC Γ (.cons a r) ρ) S:=by
 obtain⟨⟨kd,d,ρ1⟩,ea,hb,⟨kds,ρ2⟩,er,q⟩:=h;refine⟨_,?_,q⟩;rw[bC,ea]
 show(if bX (eI kd d)=PX then PV else _)=_
 dsimp only at hb er;rw[if_neg (by rw[hb];decide),er]
variable {T:Bool×Ro->Prop}
theorem fS(h:Wp (bG Γ.fn e ρ) λb=>T (b,ρ)):Wp (bh Γ (.p e) ρ) T:=by
 obtain⟨x,ex,q⟩:=h;exact⟨_,by rw[bh,ex];rfl,q⟩
theorem jR(h:Wp (bC Γ as ρ) λp=>∃x y,p.1=[x,y]/\Wp (cu op x.2 y.2) λb=>T (b,p.2)):Wp (bh Γ (.cmp op as) ρ) T:=by
 obtain⟨⟨kds,ρ1⟩,ea,x,y,e,b,eb,q⟩:=h;dsimp only at e;subst e
 exact⟨_,by rw[bh,ea];show(match cu op x.2 y.2 with|some b=>PU (b,ρ1)|none=>PV)=_;rw[eb],q⟩
variable {I:List Nat×List D×Ro->Prop}
theorem fc(h:Wp (d6 Γ.fn it ρ) λp=>I (p.1,p.2,ρ)):Wp (dA Γ (.p it) ρ) I:=by
 obtain⟨x,ex,q⟩:=h;exact⟨_,by rw[dA,ex];rfl,q⟩
theorem Fc{g:Option KD->Option (List Nat×List D)}(h:Wp a λx=>Wp (g (PU (eI x.1 x.2.1,x.2.1))) λp=>I (p.1,p.2,x.2.2)):Wp (Gg g a) I:=by
 obtain⟨⟨kd,d,ρ1⟩,ea,p,ep,q⟩:=h;exact⟨_,by rw[ea];show Ek (g (PU (eI kd d,d))) ρ1=_;dsimp only at ep;rw[ep];rfl,q⟩
theorem tR(h:Wp (ba Γ a ρ) λx=>Wp (iu (PU (.sh,.int 0)) (PU (eI x.1 x.2.1,x.2.1))) λp=>I (p.1,p.2,x.2.2)):Wp (dA Γ (.rng a) ρ) I:=by rw[dA];exact Fc h
end
theorem li{i j:Int}{P:List Nat×List D->Prop}(h:eL i j=PX)(q:P ([],en i j)):Wp (iu (PU (k,.int i)) (PU (k',.int j))) P:=⟨_,if_pos h,q⟩
theorem dP{i j:Int}(h1:-100000<=i)(h2:i<=100000)(h3:-100000<=j)(h4:j<=100000)(h5:j-i<=100000):eL i j=PX:=by
 simp only[eL,MX,decide_eq_true_eq]
 lia
theorem lj{i j:Int}{n:Nat}(h:(en i j)[n]?=PU d):d=.int (i+n)/\i+n<j:=by
 unfold en at h;rw[M0] at h;obtain⟨m,hm,rfl⟩:=aX h;have hl:=(MZ.mp hm).1;rw[Nn] at hl;rw[Np hl] at hm;cases hm;exact⟨rfl,by lia⟩
theorem g6{P:List Nat×List D->Prop}(h:jK k ds=PX)(q:P (xt k,ds)):Wp (qL (PU (k,.nd .lst ds))) P:=⟨_,if_pos h,q⟩
theorem Fd{P:List Nat×List D->Prop}(h:jK k ds=PX)(q:P ([],ds)):Wp (qL (PU (k,.nd .tup ds))) P:=⟨_,if_pos h,q⟩
noncomputable def Kt(Γ:GG)(N:Nat)(rest:bZ)(pn:List Nat)(Q:Res->Prop):Res->Prop
 |.nx ρ=>Wp (aP Γ N rest pn ρ) Q
 |r=>Q r
section
variable {Γ:GG} {N:Nat} {pn:List Nat} {ρ:Ro} {Q:Res->Prop} {rest:bZ}
theorem cP(h:Wp (aP Γ N rest pn ρ) Q):Kt Γ N rest pn Q (.nx ρ):=h
theorem dY(h:Q (.rt k d ρ)):Kt Γ N rest pn Q (.rt k d ρ):=h
theorem Cp(h:Q (.ct ρ)):Kt Γ N rest pn Q (.ct ρ):=h
theorem bn(q:Q (.nx ρ)):Wp (aP Γ N .nil pn ρ) Q:=⟨_,by rw[aP],q⟩
theorem ck(h:Wp (dh Γ N s pn ρ) (Kt Γ N rest pn Q)):Wp (aP Γ N (.cons s rest) pn ρ) Q:=by
 obtain⟨r,er,q⟩:=h
 cases r with
 |nx ρ1=>obtain⟨z,ez,q⟩:=q;exact⟨z,by rw[aP,er];exact ez,q⟩
 |rt k d ρ1=>exact⟨_,by rw[aP,er];rfl,q⟩
 |ct ρ1=>exact⟨_,by rw[aP,er];rfl,q⟩
 |bk ρ1=>exact⟨_,by rw[aP,er];rfl,q⟩
theorem aY{i:Nat}(h:Wp (ba Γ a ρ) λx=>(bX (eI x.1 x.2.1)=PY/\i∉pn)/\Wp (aP Γ N rest pn (x.2.2.set i (PU ⟨PY,HZ (eI x.1 x.2.1),x.2.1⟩))) Q):Wp (aP Γ N (.cons (.asg i a) rest) pn ρ) Q:=by
 obtain⟨⟨kd,d,ρ1⟩,ea,hb,w⟩:=h;refine ck ⟨.nx _,?_,cP w⟩;rw[AC,ea];exact if_neg (by dsimp only at hb;rw[hb.1];simpa using hb.2)
theorem rF{is:List Nat}(h:Wp (ba Γ a ρ) λx=>∃ds es r,x.2.1=.nd .tup ds/\fL x.1 ds=PU (es,r)/\(is.length=ds.length/\(is.all λi=>!pn.contains i)=PX)/\Wp (aP Γ N rest pn (lF is ds es r x.2.2)) Q):Wp (aP Γ N (.cons (.unp is a) rest) pn ρ) Q:=by
 obtain⟨⟨kd,d,ρ1⟩,ea,ds,es,r,hd,hk,hl,w⟩:=h;dsimp only at hd hk;subst hd;refine ck ⟨.nx _,?_,cP w⟩;rw[tE,ea]
 show(match fL kd ds with|some (es,r)=>if is.length=ds.length/\(is.all λi=>!pn.contains i)=PX then PU (Res.nx (lF is ds es r ρ1)) else PV|none=>PV)=_
 rw[hk];exact if_pos hl
theorem Fe{is:List Nat}(h:Wp (ba Γ a ρ) λx=>∃ds es r,x.2.1=.nd .lst ds/\fL x.1 ds=PU (es,r)/\(is.length=ds.length/\(is.all λi=>!pn.contains i)=PX)/\Wp (aP Γ N rest pn (lF is ds es r x.2.2)) Q):Wp (aP Γ N (.cons (.unp is a) rest) pn ρ) Q:=by
 obtain⟨⟨kd,d,ρ1⟩,ea,ds,es,r,hd,hk,hl,w⟩:=h;dsimp only at hd hk;subst hd;refine ck ⟨.nx _,?_,cP w⟩;rw[tE,ea]
 show(match fL kd ds with|some (es,r)=>if is.length=ds.length/\(is.all λi=>!pn.contains i)=PX then PU (Res.nx (lF is ds es r ρ1)) else PV|none=>PV)=_
 rw[hk];exact if_pos hl
theorem Iy{i:Nat}{s:Sl}(hs:ρ[i]?=PU (PU s))(h:Wp (ba Γ a ρ) λx=>i∉pn/\Wp (Az op s.d x.2.1) λz=>Wp (aP Γ N rest pn (x.2.2.set i (PU (Gb z)))) Q):Wp (aP Γ N (.cons (.aug i op a) rest) pn ρ) Q:=by
 obtain⟨⟨kd,d,ρ1⟩,ea,hb,z,ez,w⟩:=h;refine ck ⟨.nx _,?_,cP w⟩;rw[AD,ea,hs]
 show(if i∈pn then PV else _)=_
 dsimp only at ez;rw[if_neg hb,ez]
theorem tS{b:BP}(h:Wp (ba Γ a ρ) λx=>Wp (qX Γ.fn b x.2.2) λp=>Wp (aj Γ.fn k x.2.2) λy=>∃es r hd ds kk d0,p.1=.own es r/\p.2.1=.nd hd ds/\x.2.2[b.slot]?=PU (PU ⟨PY,kk,d0⟩)/\Wp (lG es r hd ds y.2 (eI x.1 x.2.1,x.2.1)) λz=>Wp (aP Γ N rest pn (x.2.2.set b.slot (PU ⟨PY,kk,p.2.2 (.nd z.1 z.2)⟩))) Q):Wp (aP Γ N (.cons (.put b k a) rest) pn ρ) Q:=by
 obtain⟨⟨kd,d,ρ1⟩,ea,⟨pk,pd,up⟩,ep,⟨ky,dy⟩,ey,es,r,hd,ds,kk,d0,e1,e2,e3,⟨hd',ds'⟩,ez,w⟩:=h;dsimp only at e1 e2 e3 ep ey ez;subst e1 e2;refine ck ⟨.nx _,?_,cP w⟩;rw[AE,ea];unfold vm;dsimp only;rw[ep,ey,e3];dsimp only;rw[ez]
theorem a9(h:Wp (ba Γ a ρ) λx=>bX (eI x.1 x.2.1)=PY/\Q (.rt (eI x.1 x.2.1) x.2.1 x.2.2)):Wp (aP Γ N (.cons (.ret a) rest) pn ρ) Q:=by
 obtain⟨⟨kd,d,ρ1⟩,ea,hb,q⟩:=h;refine ck ⟨.rt _ _ _,?_,dY q⟩;rw[AG,ea];exact if_neg (by dsimp only at hb;rw[hb];decide)
theorem gz(h:Wp (ba Γ a ρ) λx=>Wp (aP Γ N rest pn x.2.2) Q):Wp (aP Γ N (.cons (.exp a) rest) pn ρ) Q:=by
 obtain⟨⟨kd,d,ρ1⟩,ea,w⟩:=h;refine ck ⟨.nx _,?_,cP w⟩;rw[tF,ea];rfl
theorem Iz(h:Q (.ct ρ)):Wp (aP Γ N (.cons .cnt rest) pn ρ) Q:=ck ⟨.ct _,by rw[AH],Cp h⟩
theorem tT(h:Wp (bh Γ t ρ) λp=>(p.1=PX->Wp (aP Γ N a pn p.2) (Kt Γ N rest pn Q))/\(p.1=PY->Wp (aP Γ N b pn p.2) (Kt Γ N rest pn Q))):Wp (aP Γ N (.cons (.ifs t a b) rest) pn ρ) Q:=by
 obtain⟨⟨r,ρ1⟩,er,q1,q2⟩:=h
 cases r with
 |true=>obtain⟨x,ex,q⟩:=q1 rfl;exact ck ⟨x,by rw[nO,er];exact ex,q⟩
 |false=>obtain⟨x,ex,q⟩:=q2 rfl;exact ck ⟨x,by rw[nO,er];exact ex,q⟩
theorem pU{fb:Ro->Option Res}(I:Nat->Ro->Prop):∀(ds:List D) (j:Nat) (ρ:Ro),I j ρ->(∀(i:Nat) d ρ,ds[i]?=PU d->I (j+i) ρ->∃ps,nA tg d=PU ps/\(ps.all λp=>!pn.contains p.1)=PX/\Wp (fb (setAll ps (clrN fg ρ))) λr=>∃ρ',(r=.nx ρ'\/r=.ct ρ')/\I (j+i+1) ρ')->
  ∃ρ',cA pn fg tg fb ds ρ=PU (.nx (clrN fg ρ'))/\I (j+ds.length) ρ'
 |[],j,ρ,h0,_=>⟨ρ,rfl,h0⟩
 |d::ds,j,ρ,h0,hs=>by
  obtain⟨ps,e1,e2,r,er,ρ1,hr,h1⟩:=hs 0 d ρ rfl h0
  obtain⟨ρ2,e3,h2⟩:=pU I ds (j+1) ρ1 h1 λi d' ρ' e hI=>by
   have:=hs (i+1) d' ρ' (by simpa using e) (by rw[show j+(i+1)=j+1+i by lia];exact hI);rw[show j+(i+1)+1=j+1+i+1 by lia] at this;exact this
  refine⟨ρ2,?_,by rw[NF,show j+(ds.length+1)=j+1+ds.length by lia];exact h2⟩;unfold cA;rw[e1];dsimp only;rw[if_pos e2,er];rcases hr with rfl|rfl
  ·exact e3
  ·exact e3
theorem my(h:Wp (dA Γ it ρ) λp=>∃I:Nat->Ro->Prop,I 0 (clrN p.1 p.2.2)/\(∀(i:Nat) d ρ,p.2.1[i]?=PU d->I i ρ->∃ps,nA tg d=PU ps/\(ps.all λq=>!(pn++p.1).contains q.1)=PX/\Wp (aP Γ N b (pn++p.1) (setAll ps (clrN fg ρ))) λr=>∃ρ',(r=.nx ρ'\/r=.ct ρ')/\I (i+1) ρ')/\
  ∀ρ',I p.2.1.length ρ'->Wp (aP Γ N rest pn (q8 p.1 p.2.2 (clrN fg ρ'))) Q):Wp (aP Γ N (.cons (.fo fg tg it b) rest) pn ρ) Q:=by
 obtain⟨⟨bs,ds,ρ0⟩,ep,I,h0,hs,hq⟩:=h
 obtain⟨ρ',e1,h1⟩:=pU (pn:=pn++bs) I ds 0 (clrN bs ρ0) h0 λi d ρ e hI=>by
  have:=hs i d ρ e (by simpa using hI);simpa using this
 refine ck ⟨.nx _,?_,cP (hq ρ' (by simpa using h1))⟩;rw[nP,ep];show mn bs ρ0 (cA (pn++bs) fg tg (aP Γ N b (pn++bs)) ds (clrN bs ρ0))=_;rw[e1];rfl
end
theorem Cq{f:D->Ro->Option (Option KD×Ro)}{Q:List D×Ro->Prop}{ds:List D}{ρ:Ro}(I:Nat->List D->Ro->Prop)(h0:I 0 [] ρ)(hs:∀(i:Nat) d ys ρ,ds[i]?=PU d->I i ys ρ->Wp (f d ρ) λo=>∃kd,o.1=PU kd/\dc r kd=PX/\I (i+1) (ys++[kd.2]) o.2)(hq:∀ys ρ,I ds.length ys ρ->Q (ys,ρ)):Wp (aN r f ds ρ) Q:=by
 have key:∀n,n<=ds.length->∃ys ρ',aN r f (ds.take n) ρ=PU (ys,ρ')/\I n ys ρ':=by
  intro n
  induction n with
  |zero=>intro _;exact⟨[],ρ,by simp[aN],h0⟩
  |succ n ih=>
   intro hn;obtain⟨ys,ρ1,e1,h1⟩:=ih (by lia);have hd:ds[n]?=PU ds[n]:=Na (by lia);obtain⟨⟨o,ρ2⟩,eo,kd,ek,hf,hI⟩:=hs n _ ys ρ1 hd h1;dsimp only at ek hI;subst ek;have ht:ds.take (n+1)=ds.take n++[ds[n]]:=by rw[Og,hd];rfl
   refine⟨ys++[kd.2],ρ2,?_,hI⟩;rw[ht];exact c6 e1 (by simp[aN,eo,hf])
 obtain⟨ys,ρ',e,h⟩:=key ds.length (M8 _);rw[Oi] at e;exact⟨_,e,hq ys ρ' h⟩
theorem K7{f:D->Option (Option KD)}{Q:List D->Prop}{ds:List D}(P:Nat->D->Prop)(hs:∀(i:Nat) d,ds[i]?=PU d->Wp (f d) λo=>∃kd,o=PU kd/\dc r kd=PX/\P i kd.2)(hq:∀ys,ys.length=ds.length->(∀(i:Nat) y,ys[i]?=PU y->P i y)->Q ys):Wp (a8 r f ds) Q:=by
 have key:∀(ds:List D) (j:Nat),(∀(i:Nat) d,ds[i]?=PU d->Wp (f d) λo=>∃kd,o=PU kd/\dc r kd=PX/\P (j+i) kd.2)->∃ys,a8 r f ds=PU ys/\ys.length=ds.length/\∀(i:Nat) y,ys[i]?=PU y->P (j+i) y:=by
  intro ds
  induction ds with
  |nil=>intro j _;exact⟨[],rfl,rfl,λi y e=>by simp at e⟩
  |cons d ds ih=>
   intro j h;obtain⟨o,eo,kd,rfl,hf,hp⟩:=h 0 d rfl
   obtain⟨ys,e1,e2,e3⟩:=ih (j+1) λi d' e=>by
    have:=h (i+1) d' (by simpa using e);rw[show j+(i+1)=j+1+i by lia] at this;exact this
   refine⟨kd.2::ys,by simp[a8,eo,e1,hf],by simp[e2],λi y e=>?_⟩
   cases i with
   |zero=>simp at e;subst e;exact hp
   |succ i=>
    rw[show j+(i+1)=j+1+i by lia];exact e3 i y (by simpa using e)
 obtain⟨ys,e1,e2,e3⟩:=key ds 0 λi d e=>by simpa using hs i d e
 exact⟨ys,e1,hq ys e2 λi y e=>by simpa using e3 i y e⟩
theorem yu{ft:Ro->Option Bool}{fe:Ro->Option KD}{Q:Option KD->Prop}(h1:nA tg d=PU ps)(h2:dH ps ρ0=PX)(ht:ft (setAll ps ρ0)=PU PX)(h:Wp (fe (setAll ps ρ0)) λx=>Q (PU x)):Wp (eM tg ft fe ρ0 d) Q:=by
 obtain⟨x,ex,q⟩:=h;refine⟨_,?_,q⟩;unfold eM;rw[h1];dsimp only;rw[if_pos h2,ht];dsimp only;rw[ex];rfl
theorem Ff{ft:Ro->Option (Bool×Ro)}{fe:Ro->MR}{Q:Option KD×Ro->Prop}(h1:nA tg d=PU ps)(h2:dH ps ρ0=PX/\xL cap ps=PX)(h:Wp (ft (setAll ps ρ0)) λb=>(b.1=PX->Wp (fe b.2) λx=>Q (PU (eI x.1 x.2.1,x.2.1),clr ps x.2.2))/\(b.1=PY->Q (PV,clr ps b.2))):Wp (gh cap tg ft fe d ρ0) Q:=by
 obtain⟨⟨b,ρt⟩,et,q1,q2⟩:=h
 cases b with
 |true=>
  obtain⟨⟨kd,d',ρ1⟩,ex,q⟩:=q1 rfl;refine⟨_,?_,q⟩;unfold gh;rw[h1];dsimp only;rw[if_pos h2,et];dsimp only at ex⊢;rw[ex]
 |false=>
  refine⟨_,?_,q2 rfl⟩;unfold gh;rw[h1];dsimp only;rw[if_pos h2,et]
theorem yw{ft:Ro->Option (Bool×Ro)}{fe:Ro->MR}{Q:Option KD×Ro->Prop}(h1:nA tg d=PU ps)(h2:dH ps ρ0=PX/\xL cap ps=PX)(ht:ft (setAll ps ρ0)=PU (PX,setAll ps ρ0))(h:Wp (fe (setAll ps ρ0)) λx=>Q (PU (eI x.1 x.2.1,x.2.1),clr ps x.2.2)):Wp (gh cap tg ft fe d ρ0) Q:=
 Ff h1 h2 ⟨_,ht,λ_=>h,λe=>by cases e⟩
theorem dB{N m k:Nat}{ds:List D}(hl:ds.length=m)(h:Wp (aP Γ N body [] (gU k (ds.map yc))) λr=>Wp (gW (PU r)) Q):Wp (cw Γ N m k body ds) Q:=by
 obtain⟨r,er,z,ez,q⟩:=h;exact⟨z,by unfold cw;rw[if_pos hl,er];exact ez,q⟩
theorem IA{N m k:Nat}{ks:List nC}(hl:ks.length=m)(h:Wp (aP Γ N body pn (gU k ks)) λr=>Wp (tH m pn (PU r)) Q):Wp (pI Γ N m k pn body ks) Q:=by
 obtain⟨r,er,z,ez,q⟩:=h;exact⟨z,by unfold pI;rw[if_pos hl,er];exact ez,q⟩
theorem bw{Q:KD->Prop}(hb:bX kd=PY)(q:Q (kd,d)):Wp (gW (PU (.rt kd d ρ))) Q:=⟨_,if_neg (by rw[hb];decide),q⟩
theorem yx{Q:KD->Prop}(q:Q (.sh,.non)):Wp (gW (PU (.nx ρ))) Q:=⟨_,rfl,q⟩
theorem jA{m:Nat}{Q:Kd×D×List (Option nC)->Prop}(hb:bX kd=PY)(q:Q (kd,d,outs m pn ρ)):Wp (tH m pn (PU (.rt kd d ρ))) Q:=⟨_,if_neg (by rw[hb];decide),q⟩
end J
namespace J
open PySem PySem.Spec L2
theorem n4{p1:Ow}{p2:D}{o:Option (Option Sl)}{es:List Ow}{r:Ow}{hd:Hd}{ds:List D}{kk:Ow}{d0:D}{P:List Ow->Ow->Hd->List D->Ow->D->Prop}(e1:p1=.own es r)(e2:p2=.nd hd ds)(e3:o=PU (PU ⟨PY,kk,d0⟩))(h:P es r hd ds kk d0):∃es r hd ds kk d0,p1=.own es r/\p2=.nd hd ds/\o=PU (PU ⟨PY,kk,d0⟩)/\P es r hd ds kk d0:=⟨es,r,hd,ds,kk,d0,e1,e2,e3,h⟩
theorem AT{Q:Ow×D×(D->D)->Prop}(h:qX Γ b ρ=PU r)(q:Q r):Wp (qX Γ b ρ) Q:=⟨r,h,q⟩
theorem n5{Q:Hd×List D->Prop}(h:lG es k hd ds d x=PU r)(q:Q r):Wp (lG es k hd ds d x) Q:=⟨r,h,q⟩
theorem aC{Q:KD->Prop}(h:ik k a=PU r)(q:Q r):Wp (ik k a) Q:=⟨r,h,q⟩
theorem bY{Q:KD->Prop}(h:il k a=PU r)(q:Q r):Wp (il k a) Q:=⟨r,h,q⟩
theorem n6{r:Bool}{Q:Bool->Prop}(h:xc d=PU r)(q:Q r):Wp (xc d) Q:=⟨r,h,q⟩
theorem ci{Q:KD->Prop}{ds:List D}(q:Q (.sh,.int ds.length)):Wp (jD "len" [(k,.nd .lst ds)]) Q:=Fb rfl q
end J
namespace J
open PySem PySem.Spec L2
mutual
theorem tU:∀{d:D} {n:Nat},cj n d=PX->(py d).canLay0=PX
 |.non,_,_=>by simp[py,PyData.canLay0]
 |.bl _,_,_=>by simp[py,PyData.canLay0]
 |.int _,_,_=>by simp[py,PyData.canLay0]
 |.str x,_,h=>by simpa[py,PyData.canLay0,cj] using h
 |.scr ns,_,_=>by simpa[py,PyData.canLay0] using(jI ns).1
 |.nd .lst ds,n,h=>by
  simp only[cj,MX] at h;simpa[py,PyData.canLay0] using ll h.2
 |.nd .tup ds,n,h=>by
  simp only[cj,MX] at h;simpa[py,PyData.canLay0] using ll h.2
 |.nd (.dic _ _) _,n,h=>by simp[cj] at h
 |.nd (.obj _ _) _,n,h=>by simp[cj] at h
theorem ll:∀{ds:List D} {n:Nat},nj n ds=PX->PyData.canLayAll0 (oW ds)=PX
 |[],_,_=>by simp[oW,PyData.canLayAll0]
 |d::ds,n,h=>by
  simp only[nj,MX] at h;simp[oW,PyData.canLayAll0,tU h.1,ll h.2]
end
theorem pV{n:Nat}(h:cj n d=PX):jJ d d=PX:=by unfold jJ;exact PySem.SeqAt.eqv_refl _ (tU h)
theorem jS{n:Nat}:∀{ds:List D},(∀d∈ds,cj n d=PX)->nj n ds=PX
 |[],_=>rfl
 |d::ds,h=>by simp only[nj,MX];exact⟨h d Nm,jS λd hd=>h d (Ng _ hd)⟩
theorem mz{pn fg:List Nat}{fb:Ro->Option Res}(I:Nat->Ro->Prop)(R:Kd->D->Ro->Prop):∀(ds:List D) (j:Nat) (ρ:Ro),I j ρ->(∀(i:Nat) d ρ,ds[i]?=PU d->I (j+i) ρ->∃ps,nA tg d=PU ps/\(ps.all λp=>!pn.contains p.1)=PX/\Wp (fb (setAll ps (clrN fg ρ))) λr=>(∃ρ',(r=.nx ρ'\/r=.ct ρ')/\I (j+i+1) ρ')\/∃k d ρ',r=.rt k d ρ'/\R k d ρ')->
  (∃ρ',cA pn fg tg fb ds ρ=PU (.nx (clrN fg ρ'))/\I (j+ds.length) ρ')\/∃k d ρ',cA pn fg tg fb ds ρ=PU (.rt k d ρ')/\R k d ρ'
 |[],j,ρ,h0,_=>.inl ⟨ρ,rfl,h0⟩
 |d::ds,j,ρ,h0,hs=>by
  obtain⟨ps,e1,e2,r,er,hr⟩:=hs 0 d ρ rfl h0;rcases hr with⟨ρ1,hr,h1⟩|⟨k,d',ρ1,rfl,hR⟩
  ·rcases mz I R ds (j+1) ρ1 h1 λi d' ρ' e hI=>(by
    have:=hs (i+1) d' ρ' (by simpa using e) (by rw[show j+(i+1)=j+1+i by lia];exact hI);rw[show j+(i+1)+1=j+1+i+1 by lia] at this;exact this) with⟨ρ2,e3,h2⟩|⟨k,d',ρ2,e3,h2⟩
   ·refine .inl ⟨ρ2,?_,by rw[NF,show j+(ds.length+1)=j+1+ds.length by lia];exact h2⟩;unfold cA;rw[e1];dsimp only;rw[if_pos e2,er];rcases hr with rfl|rfl
    ·exact e3
    ·exact e3
   ·refine .inr ⟨k,d',ρ2,?_,h2⟩;unfold cA;rw[e1];dsimp only;rw[if_pos e2,er];rcases hr with rfl|rfl
    ·exact e3
    ·exact e3
  ·refine .inr ⟨k,d',ρ1,?_,hR⟩;unfold cA;rw[e1];dsimp only;rw[if_pos e2,er]
theorem rG{Γ:GG}{N:Nat}{pn:List Nat}{ρ:Ro}{Q:Res->Prop}{rest:bZ}{fg:List Nat}{tg:IT}{it:MI}{b:bZ}(h:Wp (dA Γ it ρ) λp=>∃(I:Nat->Ro->Prop) (R:Kd->D->Ro->Prop),I 0 (clrN p.1 p.2.2)/\(∀(i:Nat) d ρ,p.2.1[i]?=PU d->I i ρ->∃ps,nA tg d=PU ps/\(ps.all λq=>!(pn++p.1).contains q.1)=PX/\Wp (aP Γ N b (pn++p.1) (setAll ps (clrN fg ρ))) λr=>(∃ρ',(r=.nx ρ'\/r=.ct ρ')/\I (i+1) ρ')\/∃k d ρ',r=.rt k d ρ'/\R k d ρ')/\
  (∀ρ',I p.2.1.length ρ'->Wp (aP Γ N rest pn (q8 p.1 p.2.2 (clrN fg ρ'))) Q)/\∀k d ρ',R k d ρ'->bX k=PY/\Q (.rt k d (q8 p.1 p.2.2 ρ'))):Wp (aP Γ N (.cons (.fo fg tg it b) rest) pn ρ) Q:=by
 obtain⟨⟨bs,ds,ρ0⟩,ep,I,R,h0,hs,hq,hR⟩:=h
 rcases mz (pn:=pn++bs) I R ds 0 (clrN bs ρ0) h0 (λi d ρ e hI=>by
  have:=hs i d ρ e (by simpa using hI);simpa using this) with⟨ρ',e1,h1⟩|⟨k,d,ρ',e1,h1⟩
 ·refine ck ⟨.nx _,?_,cP (hq ρ' (by simpa using h1))⟩;rw[nP,ep];show mn bs ρ0 (cA (pn++bs) fg tg (aP Γ N b (pn++bs)) ds (clrN bs ρ0))=_;rw[e1];rfl
 ·obtain⟨hb,q⟩:=hR k d ρ' h1;refine ck ⟨.rt _ _ _,?_,dY q⟩;rw[nP,ep];show mn bs ρ0 (cA (pn++bs) fg tg (aP Γ N b (pn++bs)) ds (clrN bs ρ0))=_;rw[e1];exact if_neg (by rw[hb];decide)
end J
section
open PySem L2 J
local macro_rules | `(tactic| walk_at "nm")=>`(tactic| simp only [uS,qD,xf,Ow.ch,List.getD_nil,List.getD_cons_zero,List.getD_cons_succ,Nf,List.getElem?_nil,OY,eI,qC,zL,Hd.mu,HZ,bX,gU,Ge,Gf,yc,Gb,dJ,setAll,clrN,q8,cL,iE,clr,Pf,NF,O4,OF,Nat.reduceSub,Nat.reduceAdd,OD,Option.map_none,NO,Option.bind_none,Option.join,List.getElem?_cons_zero,List.getElem?_cons_succ,Nu,Pl,List.set_cons_zero,Pp,List.set_nil,NI,List.replicate_zero,N7,PP,reduceIte,NZ,Int.reduceToNat,Int.reducePow,Int.reduceMul,Int.reduceAdd,Int.reduceSub,Int.reduceNeg,BP.slot,id,true_and])
local macro_rules | `(tactic| walk_at "fsc")=>`(tactic| exact ⟨rfl,rfl,rfl,by decide +kernel,rfl,by decide +kernel,by decide +kernel⟩)
namespace K53
open PySem L2 J
noncomputable def jF(i:Nat):P9:=PySem.Challenge.pw_gatepapers_k53_unlike_and_too_great.main.body.getD i (.Pass ⟨0,0,0,0⟩)
noncomputable def fns:Nms:=⟨["bits_of","first_of","all_trials","column_of","column_told","parted","pairs","search","refuse_unlike","refuse_many","key_of","rising_bits","pair_turns","all_turns","trial_bits","_law_next","_law_state","_law_copied","_law_ring","_law_divisor","_law_caught","_law_sizes","_law_due","_law_told","law"],[("MOST_INS",.int 6),("MOST_PAIRS",.int 300)],λl c=>match l,c with|116,21=>PU (.own [] .fz)|55,12=>PU (.own [.fz,.fz,.fz,.fz] .fz)|_,_=>PV,λl c=>match l,c with|120,22=>PU PX|168,26=>PU PX|168,37=>PU PX|169,37=>PU PX|174,93=>PU PY|177,47=>PU PY|178,50=>PU PY|182,94=>PU PY|61,24=>PU PX|61,29=>PU PX|66,28=>PU PX|68,18=>PU PX|85,11=>PU PX|94,24=>PU PY|94,50=>PU PY|_,_=>PV,λi=>match i with|15=>PU [PX,PY]|21=>PU [PX]|_=>PV,λ_ _=>[],[]⟩
noncomputable def an:An:=⟨λl=>match l with|20=>[4]|57=>[6,7,8]|58=>[6,9,7,8]|83=>[4,5,6,7]|90=>[8,9]|152=>[3,4]|153=>[4]|165=>[4,6,7]|188=>[10]|_=>[],λl=>match l with|188=>[9]|_=>[],λ_=>PY,λl=>match l with|71=>PX|73=>PX|76=>PX|128=>PX|137=>PX|139=>PX|141=>PX|140=>PX|142=>PX|_=>PY⟩
noncomputable abbrev s0:P9:=jF 1
section
local macro_rules | `($a :: $b) => `(.cons $a $b)
noncomputable def b0:bZ:=.ret (.p (.comp .fz [PV,PV,PU 0] (.nm 1) (.rng (.lit (.int 0)) (.var 1)) .non (.bin .BitAnd (.bin .RShift (.var 2) (.var 1)) (.lit (.int 1)))))::.nil
theorem Mz:cF fns an 60 ["number","width"] s0=PU b0:=by rfl
theorem MA:aA ["number","width"] ["number","width"] (af s0):=by walk_at "fsc"
noncomputable abbrev s1:P9:=jF 3
noncomputable def b1:bZ:=.ret (.p (.comp .fz [PV,PV,PV] (.tp [.nm 1,.nm 2]) (.e (.ix (.var 0) (.lit (.int 1)))) .non (.var 1)))::.nil
theorem MB:cF fns an 60 ["circuit"] s1=PU b1:=by rfl
theorem MC:aA ["circuit"] ["circuit"] (af s1):=by walk_at "fsc"
noncomputable abbrev s2:P9:=jF 5
noncomputable def b2:bZ:=.ret (.p (.bin .Sub (.bin .LShift (.lit (.int 1)) (.bin .LShift (.lit (.int 1)) (.var 0))) (.lit (.int 1))))::.nil
theorem MD:cF fns an 60 ["many"] s2=PU b2:=by rfl
theorem MF:aA ["many"] ["many"] (af s2):=by walk_at "fsc"
noncomputable abbrev s3:P9:=jF 6
noncomputable def b3:bZ:=.asg 2 (.p (.bin .LShift (.lit (.int 1)) (.var 0)))::.asg 3 (.p (.bin .LShift (.fn 2 (.var 0::.nil)) (.var 2)))::.asg 4 (.p (.bin .Add (.var 2) (.var 2)))::.wh [] (.p (.cmp .Lt (.var 4) (.bin .LShift (.lit (.int 1)) (.var 1)))) (.aug 3 .BitOr (.p (.bin .LShift (.var 3) (.var 4)))::.aug 4 .Add (.p (.var 4))::.nil)::.ret (.p (.var 3))::.nil
noncomputable abbrev Mc:List Str:=["k","many","half","column","wide"]
theorem MG:cF fns an 60 Mc s3=PU b3:=by rfl
theorem MH:aA Mc ["k","many"] (af s3):=by walk_at "fsc"
noncomputable abbrev s4:P9:=jF 7
noncomputable def b4:bZ:=.asg 3 (.p (.comp .fz [PV,PV,PU 2] (.nm 1) (.e (.fn 0 (.var 0::.bin .LShift (.lit (.int 1)) (.blt "len" (.var 1::.nil))::.nil))) .non (.bin .Mult (.var 2) (.var 1))))::.fo [4] (.nm 4) (.p (.e (.var 1))) (.asg 3 (.p (.comp .fz [PV,PV,PV,PU 4] (.tp [.nm 1,.nm 2]) (.zp (.stp (.var 3) .non (.lit (.int 2))) (.stp (.var 3) (.som (.lit (.int 1))) (.lit (.int 2)))) .non (.bin .BitXor (.var 1) (.bin .BitAnd (.bin .BitXor (.var 1) (.var 2)) (.var 3)))))::.nil)::.ret (.p (.ix (.var 3) (.lit (.int 0))))::.nil
noncomputable abbrev Md:List Str:=["table","columns","whole","found","column"]
theorem MJ:cF fns an 60 Md s4=PU b4:=by rfl
theorem MK:aA Md ["table","columns","whole"] (af s4):=by walk_at "fsc"
noncomputable abbrev s5:P9:=jF 21
noncomputable def b5:bZ:=.unp [2,3] (.p (.fn 7 (.var 0::.var 1::.nil)))::.ret (.p (.var 2))::.nil
noncomputable abbrev Me:List Str:=["one","other","row","found"]
theorem ML:cF fns an 60 Me s5=PU b5:=by rfl
theorem Mf:aA Me ["one","other"] (af s5):=by walk_at "fsc"
noncomputable abbrev s6:P9:=jF 22
noncomputable def b6:bZ:=.unp [2,3] (.p (.fn 7 (.var 0::.var 1::.nil)))::.ret (.p (.ifx (.cmp .Is (.var 2) (.lit .non)) (.var 3) (.lit .non)))::.nil
noncomputable abbrev Mg:List Str:=["one","other","row","found"]
theorem MM:cF fns an 60 Mg s6=PU b6:=by rfl
theorem Mh:aA Mg ["one","other"] (af s6):=by walk_at "fsc"
noncomputable abbrev s7:P9:=jF 23
noncomputable def b7:bZ:=.exp (.p (.fn 8 (.var 0::.var 1::.nil)))::.asg 2 (.p (.lst (.own [] .fz) (.tup .fz (.fn 1 (.var 0::.nil)::.fn 1 (.var 1::.nil)::.nil)::.nil)))::.asg 3 (.p (.lst (.own [] .fz) (.lst (.own [] .fz) .nil::.nil)))::.asg 4 (.p (.dspT 3 (.fn 10 (.ix (.var 2) (.lit (.int 0))::.nil)) (.lit (.bl PX))))::.asg 5 (.p (.lit (.int 0)))::.wh [6,7,8] (.p (.cmp .Lt (.var 5) (.blt "len" (.var 2::.nil)))) (.fo [6,9,7,8] (.tp [.nm 6,.tp [.nm 7,.nm 8]]) (.p (.enm (.fn 12 (.var 0::.var 1::.ix (.var 2) (.var 5)::.nil)))) (.asg 9 (.p (.bin .Add (.ix (.var 3) (.var 5)) (.lst (.own [] .fz) (.fn 11 (.var 6::.ix (.var 0) (.lit (.int 0))::.nil)::.nil))))::.ifs (.p (.not (.var 7))) (.ret (.tup .fz (.mv 9::.fin (.mv 2) .nil))::.nil) .nil::.ifs (.p (.cmp .NotIn (.fn 10 (.var 8::.nil)) (.var 4))) (.exp (.p (.fn 9 (.bin .Add (.blt "len" (.var 2::.nil)) (.lit (.int 1))::.nil)))::.put (.nm 4) (.fn 10 (.var 8::.nil)) (.p (.lit (.bl PX)))::.exp (.mut "append" (.nm 2) (.var 8::.nil))::.exp (.mutM "append" 3 (.mv 9))::.nil) .nil::.nil)::.aug 5 .Add (.p (.lit (.int 1)))::.nil)::.ret (.tup .fz (.p (.lit .non)::.fin (.mv 2) .nil))::.nil
noncomputable abbrev Mi:List Str:=["one","other","found","rows","known","at","number","alike","pair","row"]
theorem MN:cF fns an 60 Mi s7=PU b7:=by rfl
theorem K8:aA Mi ["one","other"] (af s7):=by walk_at "fsc"
noncomputable abbrev s8:P9:=jF 24
noncomputable def b8:bZ:=.ifs (.p (.bool .Or (.cmp .NotEq (.ix (.var 0) (.lit (.int 0))) (.ix (.var 1) (.lit (.int 0)))::.cmp .NotEq (.blt "len" (.ix (.var 0) (.lit (.int 3))::.nil)) (.blt "len" (.ix (.var 1) (.lit (.int 3))::.nil))::.nil))) (.stk::.nil) .nil::.ifs (.p (.cmp .Gt (.ix (.var 0) (.lit (.int 0))) (.lit (.int 6)))) (.stk::.nil) .nil::.nil
theorem MP:cF fns an 60 ["one","other"] s8=PU b8:=by rfl
theorem K9:aA ["one","other"] ["one","other"] (af s8):=by walk_at "fsc"
noncomputable abbrev s9:P9:=jF 25
noncomputable def b9:bZ:=.ifs (.p (.cmp .Gt (.var 0) (.lit (.int 300)))) (.stk::.nil) .nil::.nil
theorem MQ:cF fns an 60 ["many"] s9=PU b9:=by rfl
theorem Mj:aA ["many"] ["many"] (af s9):=by walk_at "fsc"
noncomputable abbrev Iv:P9:=jF 26
noncomputable def La:bZ:=.ret (.p (.tup .fz (.blt "tuple" (.ix (.var 0) (.lit (.int 0))::.nil)::.blt "tuple" (.ix (.var 0) (.lit (.int 1))::.nil)::.nil)))::.nil
theorem Lb:cF fns an 60 ["pair"] Iv=PU La:=by rfl
theorem Lc:aA ["pair"] ["pair"] (af Iv):=by walk_at "fsc"
noncomputable abbrev Jx:P9:=jF 27
noncomputable def Ld:bZ:=.ret (.p (.rev (.fn 0 (.var 0::.var 1::.nil)) (.neg (.lit (.int 1)))))::.nil
theorem Lf:cF fns an 60 ["number","many"] Jx=PU Ld:=by rfl
theorem Lg:aA ["number","many"] ["number","many"] (af Jx):=by walk_at "fsc"
noncomputable abbrev Jy:P9:=jF 28
noncomputable def Lh:bZ:=.asg 3 (.p (.lst (.own [] .fz) .nil))::.fo [4,5,6,7] (.tp [.tp [.nm 4,.nm 5],.tp [.nm 6,.nm 7]]) (.p (.zp (.fn 13 (.var 0::.ix (.var 2) (.lit (.int 0))::.nil)) (.fn 13 (.var 1::.ix (.var 2) (.lit (.int 1))::.nil)))) (.exp (.mut "append" (.nm 3) (.tup .fz (.cmp .Eq (.var 4) (.var 6)::.tup .fz (.var 5::.var 7::.nil)::.nil)::.nil))::.nil)::.ret (.mv 3)::.nil
noncomputable abbrev IB:List Str:=["one","other","pair","found","outs","after","others","later"]
theorem Li:cF fns an 60 IB Jy=PU Lh:=by rfl
theorem Lj:aA IB ["one","other","pair"] (af Jy):=by walk_at "fsc"
noncomputable abbrev s13:P9:=jF 29
noncomputable def IC:bZ:=.unp [2,3,4,5] (.p (.var 0))::.asg 6 (.p (.fn 2 (.var 2::.nil)))::.asg 7 (.p (.bin .Add (.comp .fz [PV,PV,PV,PU 2] (.nm 1) (.rng (.lit (.int 0)) (.var 2)) .non (.fn 3 (.bin .Sub (.bin .Sub (.var 3) (.lit (.int 1))) (.var 1)::.var 3::.nil))) (.comp .fz [PV,PV,PU 6] (.nm 1) (.e (.var 1)) .non (.bin .Mult (.var 2) (.var 1)))))::.fo [8,9] (.tp [.nm 8,.nm 9]) (.p (.e (.var 4))) (.exp (.mut "append" (.nm 7) (.fn 4 (.var 8::.comp .fz [PV,PV,PU 7] (.nm 1) (.e (.var 9)) .non (.ix (.var 2) (.var 1))::.var 6::.nil)::.nil))::.nil)::.asg 10 (.p (.comp .fz [PV,PV,PU 7] (.nm 1) (.e (.var 5)) .non (.ix (.var 2) (.var 1))))::.asg 11 (.p (.comp .fz [PV,PV,PV,PU 7] (.tp [.nm 1,.nm 2]) (.e (.var 3)) .non (.ix (.var 3) (.var 2))))::.ret (.comp .fz [PV,PV,PV,PU 11,PU 10] (.nm 1) (.p (.rng (.lit (.int 0)) (.bin .LShift (.lit (.int 1)) (.var 2)))) .non (.tup .fz (.fn 14 (.fin (.fz 4) (.var 1::.nil))::.fin (.fn 14 (.fin (.fz 3) (.var 1::.nil))) .nil)))::.nil
noncomputable abbrev ID:List Str:=["circuit","state","ins","memories","gates","outs","whole","columns","table","places","told","afters"]
theorem Lk:cF fns an 60 ID s13=PU IC:=by rfl
theorem Ll:aA ID ["circuit","state"] (af s13):=by walk_at "fsc"
noncomputable abbrev Jz:P9:=jF 30
noncomputable def Lm:bZ:=.ret (.p (.comp .fz [PV,PV,PU 1] (.nm 1) (.e (.var 0)) .non (.bin .BitAnd (.bin .RShift (.var 1) (.var 2)) (.lit (.int 1)))))::.nil
theorem Ln:cF fns an 60 ["columns","number"] Jz=PU Lm:=by rfl
theorem Lo:aA ["columns","number"] ["columns","number"] (af Jz):=by walk_at "fsc"
noncomputable abbrev JA:P9:=jF 32
noncomputable def Lp:bZ:=.ifs (.p (.cmp .Gt (.blt "len" (.var 0::.nil)) (.lit (.int 1)))) (.asg 2 (.p (.bin .Mod (.ix (.var 0) (.lit (.int 0))) (.var 1)))::.put (.nm 0) (.lit (.int 0)) (.p (.bin .FloorDiv (.ix (.var 0) (.lit (.int 0))) (.var 1)))::.ifs (.p (.cmp .Eq (.ix (.var 0) (.lit (.int 0))) (.lit (.int 0)))) (.exp (.mut "pop" (.nm 0) (.lit (.int 0)::.nil))::.nil) .nil::.ret (.p (.var 2))::.nil) .nil::.put (.nm 0) (.lit (.int 0)) (.p (.bin .Mod (.bin .Add (.bin .Mult (.ix (.var 0) (.lit (.int 0))) (.lit (.int 1181783497276652981))) (.lit (.int 12345678910987))) (.lit (.int 2305843009213693951))))::.ret (.p (.bin .Mod (.bin .FloorDiv (.ix (.var 0) (.lit (.int 0))) (.lit (.int 65537))) (.var 1)))::.nil
noncomputable abbrev IF:List Str:=["_law_state_here","_law_many","_law_found"]
theorem Lq:cF fns an 60 IF JA=PU Lp:=by rfl
theorem Lr:aA IF ["_law_state_here","_law_many"] (af JA):=by walk_at "fsc"
noncomputable abbrev JB:P9:=jF 33
noncomputable def Ls:bZ:=.asg 1 (.p (.lit (.int 1000003)))::.fo [] (.nm 2) (.p (.e (.sl (.var 0) .non (.som (.lit (.int 63)))))) (.asg 1 (.p (.bin .Mod (.bin .Add (.bin .Add (.bin .Mult (.var 1) (.lit (.int 7368787))) (.bin .Mod (.var 2) (.bin .Pow (.lit (.int 10)) (.lit (.int 30))))) (.lit (.int 11))) (.lit (.int 2305843009213693951))))::.nil)::.ret (.p (.bin .Add (.comp .fz [PV,PV,PV] (.nm 1) (.e (.sl (.var 0) .non (.som (.lit (.int 63))))) (.som (.cmp .GtE (.blt "abs" (.var 1::.nil)) (.bin .Pow (.lit (.int 10)) (.lit (.int 18))))) (.blt "abs" (.var 1::.nil))) (.lst (.own [] .fz) (.var 1::.nil))))::.nil
noncomputable abbrev IG:List Str:=["_law_script","_law_seed","_law_cell"]
theorem Lu:cF fns an 60 IG JB=PU Ls:=by rfl
theorem Lv:aA IG ["_law_script"] (af JB):=by walk_at "fsc"
noncomputable abbrev JC:P9:=jF 34
noncomputable def v8:bZ:=.ifs (.p (.isi "list" (.var 0))) (.ret (.p (.comp .fz [PV,PV,PV] (.nm 1) (.e (.var 0)) .non (.fn 17 (.var 1::.nil))))::.nil) .nil::.ifs (.p (.isi "tuple" (.var 0))) (.ret (.p (.blt "tuple" (.comp (.own [] .fz) [PV,PV,PV] (.nm 1) (.e (.var 0)) .non (.fn 17 (.var 1::.nil))::.nil)))::.nil) .nil::.ret (.p (.var 0))::.nil
theorem Lw:cF fns an 60 ["_law_thing"] JC=PU v8:=by rfl
theorem Lx:aA ["_law_thing"] ["_law_thing"] (af JC):=by walk_at "fsc"
noncomputable abbrev JD:P9:=jF 35
noncomputable def Ly:bZ:=.asg 3 (.p (.comp .fz [PV,PV,PV,PU 0,PU 1] (.nm 1) (.rng (.lit (.int 0)) (.var 1)) .non (.tup .fz (.blt "int" (.cmp .Eq (.var 1) (.lit (.int 0))::.nil)::.bin .Add (.var 3) (.bin .Mod (.bin .Sub (.bin .Add (.var 1) (.var 4)) (.lit (.int 1))) (.var 4))::.nil))))::.ret (.tup .fz (.p (.var 0)::.fin (.mv 3) (.lst (.own [] .fz) (.tup .fz (.lit (.int 0)::.tup .fz .nil::.nil)::.nil)::.comp .fz [PV,PV,PU 0,PU 1] (.nm 1) (.e (.var 2)) .non (.ifx (.cmp .Is (.var 1) (.lit .non)) (.bin .Add (.var 2) (.var 3)) (.bin .Add (.var 2) (.bin .Mod (.var 1) (.var 3))))::.nil)))::.nil
noncomputable abbrev IH:List Str:=["_law_ins","_law_many","_law_outs","_law_memories"]
theorem Lz:cF fns an 60 IH JD=PU Ly:=by rfl
theorem LA:aA IH ["_law_ins","_law_many","_law_outs"] (af JD):=by walk_at "fsc"
noncomputable abbrev JE:P9:=jF 36
noncomputable def LB:bZ:=.wh [] (.p (.cmp .Gt (.var 1) (.lit (.int 0)))) (.par 0 1 (.var 1::.bin .Mod (.var 0) (.var 1)::.nil)::.nil)::.ret (.p (.var 0))::.nil
theorem LC:cF fns an 60 ["_law_one","_law_other"] JE=PU LB:=by rfl
theorem LD:aA ["_law_one","_law_other"] ["_law_one","_law_other"] (af JE):=by walk_at "fsc"
noncomputable abbrev vF:P9:=jF 37
noncomputable abbrev IJ:List Str:=["_law_word","_law_one","_law_other","_law_caught_here","_law_found","e"]
theorem LF:aA IJ ["_law_word","_law_one","_law_other"] (af vF):=by walk_at "fsc"
noncomputable abbrev JF:P9:=jF 38
noncomputable def LG:bZ:=.asg 1 (.io 15 (.ref 0 (.val (.p (.lit (.int 4))) .nil)))::.ifs (.p (.cmp .Eq (.var 1) (.lit (.int 0)))) (.ret (.bin .Add (.p (.lst (.own [] .fz) (.lit (.int 0)::.nil))::.fin (.ix (.p (.lst (.own [] .fz) (.lst (.own [] .fz) (.lit (.int 12)::.lit (.int 25)::.nil)::.lst (.own [] .fz) (.lit (.int 7)::.lit (.int 43)::.nil)::.lst (.own [] .fz) (.lit (.int 13)::.lit (.int 23)::.nil)::.lst (.own [] .fz) (.lit (.int 25)::.lit (.int 12)::.nil)::.lst (.own [] .fz) (.lit (.int 43)::.lit (.int 7)::.nil)::.nil))::.fin (.io 15 (.ref 0 (.val (.p (.lit (.int 5))) .nil))) .nil)) .nil))::.nil) .nil::.ifs (.p (.cmp .Eq (.var 1) (.lit (.int 1)))) (.ret (.lst (.own [] .fz) (.bin .Add (.p (.lit (.int 5))::.fin (.io 15 (.ref 0 (.val (.p (.lit (.int 4))) .nil))) .nil)::.bin .Add (.p (.lit (.int 1))::.fin (.io 15 (.ref 0 (.val (.p (.lit (.int 3))) .nil))) .nil)::.fin (.bin .Add (.p (.lit (.int 1))::.fin (.io 15 (.ref 0 (.val (.p (.lit (.int 3))) .nil))) .nil)) .nil))::.nil) .nil::.ifs (.p (.cmp .Eq (.var 1) (.lit (.int 2)))) (.ret (.lst (.own [] .fz) (.bin .Add (.p (.lit (.int 1))::.fin (.io 15 (.ref 0 (.val (.p (.lit (.int 2))) .nil))) .nil)::.bin .Add (.p (.lit (.int 1))::.fin (.io 15 (.ref 0 (.val (.p (.lit (.int 7))) .nil))) .nil)::.fin (.bin .Add (.p (.lit (.int 1))::.fin (.io 15 (.ref 0 (.val (.p (.lit (.int 7))) .nil))) .nil)) .nil))::.nil) .nil::.ret (.lst (.own [] .fz) (.p (.lit (.int 0))::.bin .Add (.p (.lit (.int 1))::.fin (.io 15 (.ref 0 (.val (.p (.lit (.int 30))) .nil))) .nil)::.fin (.bin .Add (.p (.lit (.int 1))::.fin (.io 15 (.ref 0 (.val (.p (.lit (.int 30))) .nil))) .nil)) .nil))::.nil
noncomputable abbrev IK:List Str:=["_law_state_here","_law_way"]
theorem LH:cF fns an 60 IK JF=PU LG:=by rfl
theorem LI:aA IK ["_law_state_here"] (af JF):=by walk_at "fsc"
noncomputable abbrev JG:P9:=jF 39
noncomputable def LJ:bZ:=.fo [3,4] (.nm 3) (.p (.rng (.lit (.int 0)) (.bin .Mult (.var 0) (.var 1)))) (.fo [4] (.nm 4) (.p (.e (.var 2))) (.ifs (.p (.cmp .Is (.var 4) (.lit .non))) (.cnt::.nil) .nil::.ifs (.p (.cmp .NotEq (.cmp .Eq (.bin .Mod (.var 3) (.var 0)) (.bin .Mod (.var 4) (.var 0))) (.cmp .Eq (.bin .Mod (.var 3) (.var 1)) (.bin .Mod (.var 4) (.var 1))))) (.ret (.p (.lst (.own [] .fz) (.lit (.str "row")::.bin .Add (.var 3) (.lit (.int 1))::.nil)))::.nil) .nil::.nil)::.nil)::.ret (.p (.lst (.own [] .fz) (.lit (.str "pairs")::.bin .FloorDiv (.bin .Mult (.var 0) (.var 1)) (.fn 19 (.var 0::.var 1::.nil))::.nil)))::.nil
noncomputable abbrev IL:List Str:=["_law_one","_law_other","_law_outs","_law_time","_law_at"]
theorem LK:cF fns an 60 IL JG=PU LJ:=by rfl
theorem LL:aA IL ["_law_one","_law_other","_law_outs"] (af JG):=by walk_at "fsc"
noncomputable abbrev u8:P9:=jF 40
noncomputable def IM:bZ:=.ifs (.p (.cmp .Eq (.ix (.var 3) (.lit (.int 0))) (.lit (.str "row")))) (.ret (.p (.lst (.own [] .fz) (.lst (.own [] .fz) (.lit (.str "told")::.comp .fz [PV,PV,PU 0] (.nm 1) (.rng (.lit (.int 0)) (.ix (.var 3) (.lit (.int 1)))) .non (.bin .Mult (.lst (.own [] .fz) (.lit (.int 0)::.nil)) (.var 2))::.nil)::.lst (.own [] .fz) (.lit (.str "told")::.lit .non::.nil)::.nil)))::.nil) .nil::.ifs (.p (.cmp .Gt (.ix (.var 3) (.lit (.int 1))) (.lit (.int 300)))) (.ret (.p (.lst (.own [] .fz) (.lst (.own [] .fz) (.lit (.str "great")::.lit .non::.nil)::.lst (.own [] .fz) (.lit (.str "great")::.lit .non::.nil)::.nil)))::.nil) .nil::.asg 5 (.p (.lst (.own [] .fz) .nil))::.fo [4,6,7] (.nm 4) (.p (.rng (.lit (.int 0)) (.ix (.var 3) (.lit (.int 1))))) (.asg 6 (.p (.comp .fz [PV,PV,PV,PU 1,PU 4] (.nm 1) (.rng (.lit (.int 0)) (.var 1)) .non (.blt "int" (.cmp .Eq (.bin .Mod (.var 4) (.var 3)) (.var 1)::.nil))))::.asg 7 (.p (.comp .fz [PV,PV,PV,PU 2,PU 4] (.nm 1) (.rng (.lit (.int 0)) (.var 2)) .non (.blt "int" (.cmp .Eq (.bin .Mod (.var 4) (.var 3)) (.var 1)::.nil))))::.exp (.mutM "append" 5 (.tup .fz (.mv 6::.fin (.mv 7) .nil)))::.nil)::.ret (.lst (.own [] .fz) (.p (.lst (.own [] .fz) (.lit (.str "told")::.lit .non::.nil))::.fin (.lst (.own [] .fz) (.p (.lit (.str "told"))::.fin (.mv 5) .nil)) .nil))::.nil
noncomputable abbrev IN:List Str:=["_law_ins","_law_one","_law_other","_law_due_here","_law_time","_law_rows","_law_mine","_law_theirs"]
theorem LM:cF fns an 60 IN u8=PU IM:=by rfl
theorem LN:aA IN ["_law_ins","_law_one","_law_other","_law_due_here"] (af u8):=by walk_at "fsc"
noncomputable abbrev qQ:P9:=jF 41
noncomputable def tV:bZ:=.asg 1 (.p (.fn 16 (.var 0::.nil)))::.unp [2,3,4] (.io 21 (.ref 1 .nil))::.asg 5 (.comp .fz [PV,PV,PV,PU 1] (.nm 1) (.rng (.io 15 (.ref 1 (.val (.p (.lit (.int 3))) .nil)))) .non (.ix (.lst (.own [] .fz) (.p (.lit .non)::.p (.lit .non)::.fin (.io 15 (.ref 3 (.val (.p (.lit (.int 30))) .nil))) .nil)::.fin (.io 15 (.ref 3 (.val (.p (.lit (.int 3))) .nil))) .nil)))::.asg 6 (.fn 23 (.p (.var 2)::.p (.var 3)::.p (.var 4)::.fin (.fn 22 (.p (.var 3)::.p (.var 4)::.fin (.fz 5) .nil)) .nil))::.ifs (.p (.cmp .Gt (.var 2) (.lit (.int 6)))) (.asg 6 (.p (.lst (.own [] .fz) (.lst (.own [] .fz) (.lit (.str "great")::.lit .non::.nil)::.lst (.own [] .fz) (.lit (.str "great")::.lit .non::.nil)::.nil)))::.nil) .nil::.asg 7 (.fn 18 (.p (.var 2)::.p (.var 3)::.fin (.fz 5) .nil))::.asg 8 (.fn 18 (.p (.var 2)::.p (.var 4)::.fin (.fz 5) .nil))::.ifs (.cmp .Eq (.fin (.io 15 (.ref 1 (.val (.p (.lit (.int 3))) .nil))) (.lit (.int 0)::.nil))) (.asg 6 (.p (.lst (.own [] .fz) (.lst (.own [] .fz) (.lit (.str "unlike")::.lit .non::.nil)::.lst (.own [] .fz) (.lit (.str "unlike")::.lit .non::.nil)::.nil)))::.ifs (.cmp .Eq (.fin (.io 15 (.ref 1 (.val (.p (.lit (.int 2))) .nil))) (.lit (.int 0)::.nil))) (.asg 8 (.fn 18 (.bin .Add (.p (.bin .Add (.var 2) (.lit (.int 1)))::.fin (.io 15 (.ref 1 (.val (.p (.lit (.int 2))) .nil))) .nil)::.p (.var 4)::.fin (.fz 5) .nil))::.nil) (.asg 8 (.p (.fn 18 (.var 2::.var 4::.bin .Add (.var 5) (.lst (.own [] .fz) (.lit .non::.nil))::.nil)))::.nil)::.ifs (.cmp .Eq (.fin (.io 15 (.ref 1 (.val (.p (.lit (.int 2))) .nil))) (.lit (.int 0)::.nil))) (.par 7 8 (.var 8::.var 7::.nil)::.nil) .nil::.nil) .nil::.asg 9 (.p (.fn 17 (.tup .fz (.var 7::.var 8::.nil)::.nil)))::.pre [9] (.fo [10] (.nm 10) (.p (.e (.lst (.own [] .fz) (.lit (.str "parted")::.lit (.str "pairs")::.lit (.str "parted")::.nil)))) (.ifs (.p (.cmp .NotEq (.fn 20 (.var 10::.ix (.var 9) (.lit (.int 0))::.ix (.var 9) (.lit (.int 1))::.nil)) (.ix (.var 6) (.blt "int" (.cmp .Eq (.var 10) (.lit (.str "pairs"))::.nil))))) (.ret (.p (.lit (.bl PY)))::.nil) .nil::.nil))::.ret (.p (.cmp .Eq (.var 9) (.tup .fz (.var 7::.var 8::.nil))))::.nil
end
noncomputable abbrev IP:List Str:=["_law_script","_law_state_here","_law_ins","_law_one","_law_other","_law_outs","_law_due_here","_law_first","_law_second","_law_handed","_law_word"]
theorem LO:cF fns an 60 IP qQ=PU tV:=by rfl
theorem LP:aA IP ["_law_script"] (af qQ):=by walk_at "fsc"
noncomputable def Γ0:GG:=⟨λ_=>PV,λ_=>PV⟩
noncomputable def ψ0:Fn:=cw Γ0 1000 2 2 b0
noncomputable def Γ_0:GG:=Γ0.addI 0 ψ0
noncomputable def ψ1:Fn:=cw Γ_0 1000 1 1 b1
noncomputable def Γ_1:GG:=Γ_0.addI 1 ψ1
noncomputable def ψ2:Fn:=cw Γ_1 1000 1 1 b2
noncomputable def Γ_2:GG:=Γ_1.addI 2 ψ2
noncomputable def ψ3:Fn:=cw Γ_2 1000 2 5 b3
noncomputable def Γ_3:GG:=Γ_2.addI 3 ψ3
noncomputable def ψ4:Fn:=cw Γ_3 1000 3 5 b4
noncomputable def Γ_4:GG:=Γ_3.addI 4 ψ4
noncomputable def ψ8:Fn:=cw Γ_4 1000 2 2 b8
noncomputable def Γ_8:GG:=Γ_4.addI 8 ψ8
noncomputable def ψ9:Fn:=cw Γ_8 1000 1 1 b9
noncomputable def Γ_9:GG:=Γ_8.addI 9 ψ9
noncomputable def AU:Fn:=cw Γ_9 1000 1 1 La
noncomputable def Γ_10:GG:=Γ_9.addI 10 AU
noncomputable def Gn:Fn:=cw Γ_10 1000 2 2 Ld
noncomputable def Γ_11:GG:=Γ_10.addI 11 Gn
noncomputable def Cr:Fn:=cw Γ_11 1000 2 2 Lm
noncomputable def Γ_14:GG:=Γ_11.addI 14 Cr
noncomputable def Go:Fn:=cw Γ_14 1000 2 12 IC
noncomputable def Γ_13:GG:=Γ_14.addI 13 Go
noncomputable def Gp:Fn:=cw Γ_13 1000 3 8 Lh
noncomputable def Γ_12:GG:=Γ_13.addI 12 Gp
noncomputable def ψ7:Fn:=cw Γ_12 1000 2 10 b7
noncomputable def Γ_7:GG:=Γ_12.addI 7 ψ7
noncomputable def ψ5:Fn:=cw Γ_7 1000 2 4 b5
noncomputable def Γ_5:GG:=Γ_7.addI 5 ψ5
noncomputable def ψ6:Fn:=cw Γ_5 1000 2 4 b6
noncomputable def Γ_6:GG:=Γ_5.addI 6 ψ6
noncomputable def Gq:Fm:=pI Γ_6 1000 2 3 [0] Lp
noncomputable def Γ_15:GG:=Γ_6.addM 15 Gq
noncomputable def IQ:Fn:=cw Γ_15 1000 1 3 Ls
noncomputable def Γ_16:GG:=Γ_15.addI 16 IQ
noncomputable def LQ:Fn:=recI Γ_16 17 1000 1 1 v8 40
noncomputable def Γ_17:GG:=Γ_16.addI 17 LQ
noncomputable def v9:Fn:=cw Γ_17 1000 3 4 Ly
noncomputable def Γ_18:GG:=Γ_17.addI 18 v9
noncomputable def IU:Fn:=cw Γ_18 1000 2 2 LB
noncomputable def Γ_19:GG:=Γ_18.addI 19 IU
noncomputable abbrev cl(s:IS)(pn:List Nat):Ro->RX:=e7 (dh Γ_12 1000 s pn)
noncomputable abbrev tX:Ro->RX:=e7 λρ=>PU (.nx ρ)
noncomputable def wa(f f':Ro->RX):Ro->RX:=λρ=>match f ρ with
 |some r=>PU r
 |none=>f' ρ
noncomputable def vG(es:gg)(P:List D->Bool):Ro->RX:=λρ=>match aW Γ_12.fn es ρ with
 |some kds=>if P (kds.map (·.2))=PX then PU PV else PV
 |none=>PV
noncomputable def Fg:List D->Bool
 |[.int n]=>decide (300<n)
 |_=>PY
noncomputable def Fh:gg:=.cons (.bin .Add (.blt "len" (.cons (.var 2) .nil)) (.lit (.int 1))) .nil
noncomputable def IV(pn:List Nat):Ro->RX:=match b7 with
 |.cons _ (.cons _ (.cons _ (.cons _ (.cons _ (.cons (.wh _ _ (.cons (.fo _ _ _ (.cons a0 (.cons a1 (.cons (.ifs tt (.cons e0 er) _) _)))) _)) _)))))=>λρ=>bI (cl a0 pn ρ) λρ=>bI (cl a1 pn ρ) λρ=>bI (gX (bh Γ_12 tt ρ) (λρ=>bI (wa (cl e0 pn) (vG Fh Fg) ρ) (e7 (aP Γ_12 1000 er pn))) tX) tX
 |_=>λ_=>PV
noncomputable def Fk:Ro->RX:=match b7 with
 |.cons _ (.cons _ (.cons _ (.cons _ (.cons _ (.cons (.wh _ _ (.cons (.fo fg tg it _) (.cons au _))) _)))))=>λρ=>bI (kY [] fg tg IV (dA Γ_12 it ρ)) λρ=>bI (cl au [] ρ) tX
 |_=>λ_=>PV
noncomputable def wb:gg:=.cons (.var 0) (.cons (.var 1) .nil)
noncomputable def x7(P:List D->Bool):Ro->RX:=match b7 with
 |.cons s0 (.cons s1 (.cons s2 (.cons s3 (.cons s4 (.cons (.wh fg t _) r)))))=>λρ=>bI (wa (vG wb P) (cl s0 []) ρ) λρ=>bI (cl s1 [] ρ) λρ=>bI (cl s2 [] ρ) λρ=>bI (cl s3 [] ρ) λρ=>bI (cl s4 [] ρ) λρ=>bI (dN fg (bh Γ_12 t) Fk 1000 ρ) (e7 (aP Γ_12 1000 r []))
 |_=>λ_=>PV
noncomputable def eT:List D->Bool
 |[.nd .tup [.int i,_,_,.nd .lst o],.nd .tup [.int j,_,_,.nd .lst p]]=>!(decide (i=j)&&decide (o.length=p.length))
 |_=>PY
noncomputable def fw:List D->Bool
 |[.nd .tup [.int i,_,_,.nd .lst o],.nd .tup [.int j,_,_,.nd .lst p]]=>decide (i=j)&&decide (o.length=p.length)&&decide (6<i)
 |_=>PY
noncomputable def qf(P:List D->Bool)(ds:List D):Bool:=match x7 P (gU 10 (ds.map yc)) with
 |some PV=>decide (ds.length=2)
 |_=>PY
noncomputable def Cs:Fn
 |[.str w,x,y]=>if PyData.strOk w=PY then PV else if eT [x,y]=PX then PU (.fr (.own [] .fz),.lst [.str "unlike",.non]) else if qf fw [x,y]=PX then PU (.fr (.own [] .fz),.lst [.str "great",.non]) else match (if jJ (.str w) (.str "parted")=PX then ψ5 [x,y] else ψ6 [x,y]) with
  |some (.sh,d)=>PU (.fr (.own [] .fz),.lst [.str "told",d])
  |_=>PV
 |_=>PV
noncomputable def Γ_20:GG:=Γ_19.addI 20 Cs
noncomputable def IW:Fm:=pI Γ_20 1000 1 2 [0] LG
noncomputable def Γ_21:GG:=Γ_20.addM 21 IW
noncomputable def IX:Fn:=cw Γ_21 1000 3 5 LJ
noncomputable def Γ_22:GG:=Γ_21.addI 22 IX
noncomputable def AV:Fn:=cw Γ_22 1000 4 8 IM
noncomputable def rH:GG:=Γ_22.addI 23 AV
noncomputable def IY:Fn:=cw rH 1000 1 11 tV
noncomputable abbrev k0:Ow:=.own [] .fz
structure Ci where
 ins:Nat
 mems:List (Bool×Nat)
 gates:List (Nat×List Nat)
 outs:List Nat
noncomputable abbrev iD(n:Nat):D:=.int (n:Int)
noncomputable abbrev bD(b:Bool):D:=.int (b.toNat:Int)
noncomputable def iK(m:Bool×Nat):D:=.tup [bD m.1,iD m.2]
noncomputable def iL(g:Nat×List Nat):D:=.tup [iD g.1,.tup (g.2.map iD)]
noncomputable def cD(c:Ci):D:=.tup [iD c.ins,.lst (c.mems.map iK),.lst (c.gates.map iL),.lst (c.outs.map iD)]
noncomputable def Ci.n(c:Ci):Nat:=c.ins+c.mems.length+c.gates.length
noncomputable def MS(n:Nat)(gs:List (Nat×List Nat)):Prop:=∀(k:Nat) g,gs[k]?=PU g->g.2.length<=3/\g.1<2^2^g.2.length/\∀p∈g.2,p<n+k
structure Ok(c:Ci):Prop where
 g:MS (c.ins+c.mems.length) c.gates
 m:∀m∈c.mems,m.2<c.n
 o:∀o∈c.outs,o<c.n
 bi:c.ins<=6
 bm:c.mems.length<=100
 bg:c.gates.length<=100
 bo:c.outs.length<=100
noncomputable def g7:List Bool->Nat
 |[]=>0
 |b::bs=>b.toNat+2*g7 bs
noncomputable def fj(vs:List Bool)(g:Nat×List Nat):List Bool:=vs++[g.1.testBit (g7 (g.2.map λp=>vs.getD p PY))]
noncomputable def vals(c:Ci)(st ins:List Bool):List Bool:=c.gates.foldl fj (ins++st)
noncomputable def cW(c:Ci)(st ins:List Bool):List Bool:=c.outs.map λp=>(vals c st ins).getD p PY
noncomputable def nextOf(c:Ci)(st ins:List Bool):List Bool:=c.mems.map λm=>(vals c st ins).getD m.2 PY
noncomputable def n9(c:Ci):List Bool:=c.mems.map (·.1)
noncomputable def rb(n i:Nat):List Bool:=(M4 n).map λk=>i.testBit (n-1-k)
theorem og{n i:Nat}:(rb n i).length=n:=by simp[rb]
theorem mB:∀(bs:List Bool) (b:Bool),g7 (bs++[b])=g7 bs+2^bs.length*b.toNat
 |[],b=>by simp[g7]
 |a::bs,b=>by
  simp only[N7,g7,mB bs b,NF,OZ,Nat.mul_add];rw[Nat.mul_comm (2^bs.length) 2,Pi];lia
theorem tY(a b:Nat):Builtin.bitAnd (a:Int) b=((a &&& b:Nat):Int):=by
 rw[PyProof.Rows.bitAnd_pp (by lia) (by lia)];rfl
theorem AW:∀a b:Nat,a+b=(a ^^^ b)+2*(a &&& b):=by
 intro a
 induction a using Nat.strongRecOn with
 |ind a ih=>
  intro b;by_cases h0:a=0
  ·subst h0;simp
  have:=ih (a / 2) (by lia) (b / 2);rw[<- Nat.xor_div_two,<- Nat.and_div_two] at this;have h1:(a &&& b)%2=1↔a%2=1/\b%2=1:=Nat.and_mod_two_eq_one;have h2:(a ^^^ b)%2=1↔¬(a%2=1↔b%2=1):=Nat.xor_mod_two_eq_one
  lia
theorem AX(a b:Nat):Builtin.bitXor (a:Int) b=((a ^^^ b:Nat):Int):=by
 rw[PyProof.Rows.bitXor_and,tY];have:=AW a b
 lia
theorem AY(a i:Nat):Builtin.bitAnd ((a:Int) / 2^i) 1=((a.testBit i).toNat:Int):=by
 rw[PyProof.Rows.bitAnd_m1,Nat.testBit_eq_decide_div_mod_eq];have:(a:Int) / 2^i=((a / 2^i:Nat):Int):=by simp
 rw[this];rcases Nat.mod_two_eq_zero_or_one (a / 2^i) with h|h
 ·rw[decide_eq_false (by lia)];show _=((0:Nat):Int);lia
 ·rw[decide_eq_true h];show _=((1:Nat):Int);lia
theorem AZ(a b x i:Nat):(a ^^^ ((a ^^^ b) &&& x)).testBit i=if x.testBit i=PX then b.testBit i else a.testBit i:=by
 rw[Nat.testBit_xor,Nat.testBit_and,Nat.testBit_xor]
 cases a.testBit i<;>cases b.testBit i<;>cases x.testBit i<;>rfl
noncomputable abbrev W(n:Nat):Nat:=2^2^n-1
noncomputable def zk(n x:Nat)(b:Nat->Bool):Prop:=x<2^2^n/\∀i,i<2^n->x.testBit i=b i
theorem yy(n:Nat)(b:Bool):zk n (W n*b.toNat) λ_=>b:=by
 have hp:0<2^2^n:=Oo _
 cases b with
 |false=>exact⟨by simpa using hp,λi _=>by simp⟩
 |true=>exact⟨by simp[W];lia,λi hi=>by simp[W,Nat.testBit_two_pow_sub_one,hi]⟩
noncomputable def vH(n t s m:Nat)(bs:Nat->List Bool)(L:List Nat):Prop:=L.length=2^m/\∀(j:Nat) x,L[j]?=PU x->zk n x λi=>t.testBit (g7 (bs i)+2^s*j)
theorem IZ(n t m:Nat):vH n t 0 m (λ_=>[]) ((M4 (2^m)).map λj=>W n*(t.testBit j).toNat):=by
 refine⟨by simp,λj x h=>?_⟩;rw[M0] at h
 cases e:(M4 (2^m))[j]? with
 |none=>rw[e] at h;cases h
 |some k=>
  rw[e] at h;cases h;have hj:=(MZ.mp e).1;rw[Nn] at hj;rw[Np hj] at e;cases e;have:=yy n (t.testBit j);refine⟨this.1,λi hi=>?_⟩;rw[this.2 i hi];simp[g7]
theorem vI{n t s m x:Nat}{bs:Nat->List Bool}{L:List Nat}(h:vH n t s (m+1) bs L)(hs:∀i,(bs i).length=s)(hx:zk n x b):vH n t (s+1) m (λi=>bs i++[b i]) ((M4 (2^m)).map λj=>L.getD (2*j) 0 ^^^ ((L.getD (2*j) 0 ^^^ L.getD (2*j+1) 0) &&& x)):=by
 refine⟨by simp,λj y hy=>?_⟩;rw[M0] at hy
 cases e:(M4 (2^m))[j]? with
 |none=>rw[e] at hy;cases hy
 |some k=>
  rw[e] at hy;cases hy;have hj:=(MZ.mp e).1;rw[Nn] at hj;rw[Np hj] at e;cases e;have hl:=h.1;rw[OZ] at hl;have e0:L[2*j]?=PU (L.getD (2*j) 0):=by rw[Nf,Na (by lia)];rfl
  have e1:L[2*j+1]?=PU (L.getD (2*j+1) 0):=by rw[Nf,Na (by lia)];rfl
  have c0:=h.2 _ _ e0;have c1:=h.2 _ _ e1;refine⟨Nat.xor_lt_two_pow c0.1 (Nat.and_lt_two_pow _ hx.1),λi hi=>?_⟩;show _=t.testBit (g7 (bs i++[b i])+2^(s+1)*j);rw[AZ,hx.2 i hi,c0.2 i hi,c1.2 i hi,mB,hs i]
  cases b i with
  |true=>
   rw[if_pos rfl];refine congrArg t.testBit ?_;show _=g7 (bs i)+2^s*1+2^(s+1)*j;rw[OZ,Nat.mul_add,Pi];lia
  |false=>
   rw[if_neg (by decide)];refine congrArg t.testBit ?_;show _=g7 (bs i)+2^s*0+2^(s+1)*j;rw[OZ,Pi];lia
theorem yz{n t s:Nat}{bs:Nat->List Bool}(h:vH n t s 0 bs L):∃x,L=[x]/\zk n x λi=>t.testBit (g7 (bs i)):=by
 have hl:L.length=1:=h.1
 match L,hl with
 |[x],_=>exact⟨x,rfl,by simpa using h.2 0 x rfl⟩
noncomputable def rJ(n:Nat)(vs:Nat->List Bool)(cs:List Nat):Prop:=(∀i,(vs i).length=cs.length)/\∀(p:Nat) x,cs[p]?=PU x->zk n x λi=>(vs i).getD p PY
theorem vJ{n x:Nat}{vs:Nat->List Bool}{cs:List Nat}{g:Nat×List Nat}(h:rJ n vs cs)(hx:zk n x λi=>g.1.testBit (g7 (g.2.map λp=>(vs i).getD p PY))):rJ n (λi=>fj (vs i) g) (cs++[x]):=by
 refine⟨λi=>by simp[fj,h.1 i],λp y hy=>?_⟩;by_cases hp:p<cs.length
 ·rw[Nz hp] at hy;have:=h.2 p y hy;refine⟨this.1,λi hi=>?_⟩;rw[this.2 i hi];simp only[fj,Nf];rw[Nz (by rw[h.1 i];exact hp)]
 ·have hp':p=cs.length:=by
   have:=(MZ.mp hy).1;simp at this;lia
  subst hp';rw[Nx (M8 _),OF] at hy;cases hy;refine⟨hx.1,λi hi=>?_⟩;rw[hx.2 i hi];simp only[fj,Nf];rw[Nx (by rw[h.1 i];exact M8 _),h.1 i,OF];rfl
noncomputable def ln(k n:Nat):Nat:=(M4 (2^n)).foldl (λa i=>if i.testBit k then a+2^i else a) 0
theorem A0:∀n,n<=6->∀k,k<n->ln k n<2^2^n/\∀i,i<2^n->(ln k n).testBit i=i.testBit k:=by decide +kernel
theorem I0{n:Nat}(hn:n<=6)(st:List Bool):rJ n (λi=>rb n i++st) ((M4 n).map (λk=>ln (n-1-k) n)++st.map λb=>W n*b.toNat):=by
 refine⟨λi=>by simp[rb],λp x hx=>?_⟩;by_cases hp:p<n
 ·rw[Nz (by simpa using hp),M0,Np hp] at hx;cases hx;have:=A0 n hn (n-1-p) (by lia);refine⟨this.1,λi hi=>?_⟩;show _=(rb n i++st).getD p PY;rw[this.2 i hi,Nf,Nz (by simpa[rb] using hp)];unfold rb;rw[M0,Np hp];rfl
 ·rw[Nx (by simp;lia),M0] at hx;simp only[MY,Nn] at hx
  cases e:st[p-n]? with
  |none=>rw[e] at hx;cases hx
  |some b=>
   rw[e] at hx;cases hx;have:=yy n b;refine⟨this.1,λi hi=>?_⟩;show _=(rb n i++st).getD p PY;rw[this.2 i hi,Nf,Nx (by simp[rb];lia)];simp only[rb,MY,Nn];rw[e];rfl
theorem cr(h:Wp φ λx=>x=r):φ=PU r:=by obtain⟨x,e,rfl⟩:=h;exact e
theorem JH{α:Type}{a:Option α}{r:α}{Q:α->Prop}(h:Wp a λx=>x=r)(q:Q r):Wp a Q:=h.mono λx e=>by subst e;exact q
section
variable {Γ:GG} {N:Nat} {pn:List Nat} {ρ:Ro} {Q:Res->Prop} {rest:bZ}
theorem bE(h:Wp (aP Γ N rest pn ρ) Q):Wp (aP Γ N .nil pn ρ) (Kt Γ N rest pn Q):=bn (cP h)
theorem bq{z:Bool}(h:Wp (bG Γ.fn t ρ) λr=>r=z)(h1:z=PX->Wp (aP Γ N a pn ρ) (Kt Γ N rest pn Q))(h2:z=PY->Wp (aP Γ N b pn ρ) (Kt Γ N rest pn Q)):Wp (aP Γ N (.cons (.ifs (.p t) a b) rest) pn ρ) Q:=
 tT (fS (h.mono λx hx=>by subst hx;exact⟨h1,h2⟩))
end
section
variable {Γ:Nat->Option Fn} {ρ:Ro} {Q:KD->Prop} {k k':Kd}
theorem yA{a b:Nat}(q:Q (.sh,iD (a ^^^ b))):Wp (dZ .BitXor (k,iD a) (k',iD b)) Q:=⟨(.sh,.int (Builtin.bitXor a b)),rfl,by rw[AX];exact q⟩
theorem Fl{a b:Nat}(q:Q (.sh,iD (a &&& b))):Wp (dZ .BitAnd (k,iD a) (k',iD b)) Q:=⟨(.sh,.int (Builtin.bitAnd a b)),rfl,by rw[tY];exact q⟩
theorem yB{x i:Nat}(ha:Wp (aj Γ a ρ) λy=>y.2=iD x)(hb:Wp (aj Γ b ρ) λy=>y.2=iD i)(q:Q (.sh,bD (x.testBit i))):Wp (aj Γ (.bin .BitAnd (.bin .RShift a b) (.lit (.int 1))) ρ) Q:=by
 refine ak (ak (ha.mono λy hy=>hb.mono λz hz=>?_));obtain⟨ky,dy⟩:=y;obtain⟨kz,dz⟩:=z;cases(show dy=_ from hy);cases(show dz=_ from hz);refine E8 (by lia) (ad ⟨(.sh,.int (Builtin.bitAnd ((x:Int) / 2^((i:Int)).toNat) 1)),rfl,?_⟩);rw[show((i:Int)).toNat=i from NJ i,AY];exact q
theorem Fo{α:Type}{f:α->D}{l:List α}{ys:List D}(hl:ys.length=l.length)(h:∀(i:Nat) y,ys[i]?=PU y->∃a,l[i]?=PU a/\y=f a):ys=l.map f:=by
 refine Pz λi=>?_;rw[M0]
 cases e:ys[i]? with
 |none=>
  have:l[i]?=PV:=NL (by have:=List.getElem?_eq_none_iff.mp e;lia);rw[this];rfl
 |some y=>
  obtain⟨a,e1,rfl⟩:=h i y e;rw[e1];rfl
theorem tZ{α:Type}{l:List α}{f g:α->D}{r:Ow}{fe:D->Option (Option KD)}(h:∀a∈l,Wp (fe (f a)) λo=>∃kd,o=PU (kd,g a)/\dc r (kd,g a)=PX):Wp (a8 r fe (l.map f)) λys=>ys=l.map g:=by
 refine K7 (λj y=>∃a,l[j]?=PU a/\y=g a) (λj d hd=>?_) λys hy hp=>Fo (by rw[hy,MY]) hp;rw[M0] at hd
 cases e:l[j]? with
 |none=>rw[e] at hd;cases hd
 |some a=>
  rw[e] at hd;cases hd;exact(h a (NS e)).mono λo ⟨kd,e1,e2⟩=>⟨_,e1,e2,a,rfl,rfl⟩
theorem eU(n:Nat):en 0 n=(M4 n).map iD:=by
 unfold en;rw[Po,NJ];exact NP λk _=>by rw[O0]
theorem oh{α:Type}{l:List α}{f g:α->D}{hd:Hd}{r:Ow}{cap:List (Option Nat)}{tg:IT}{a elt:IE}(hh:hd=.lst\/hd=.tup)(ha:Wp (aj Γ a ρ) λx=>jK x.1 (l.map f)=PX/\x.2=.nd hd (l.map f))(hl:l.length<=100000)
  (h:∀a∈l,Wp (eM tg (eB Γ .non) (aj Γ elt) (cL ρ cap) (f a)) λo=>∃kd,o=PU (kd,g a)/\dc r (kd,g a)=PX) (q:Q (.fr (.own [] r),.lst (l.map g))):Wp (aj Γ (.comp r cap tg (.e a) .non elt) ρ) Q:=by
 refine jP (pS (ha.mono λx hx=>?_));obtain⟨kx,dx⟩:=x;obtain⟨h1,h2⟩:=hx;cases(show dx=_ from h2);rcases hh with rfl|rfl
 ·exact g6 h1 ⟨by simpa using hl,JH (tZ h) q⟩
 ·exact Fd h1 ⟨by simpa using hl,JH (tZ h) q⟩
theorem vK{n:Nat}{g:Nat->D}{r:Ow}{cap:List (Option Nat)}{tg:IT}{a elt:IE}(ha:Wp (aj Γ a ρ) λx=>x.2=iD n)(hn:n<=100000)
  (h:∀i,i<n->Wp (eM tg (eB Γ .non) (aj Γ elt) (cL ρ cap) (iD i)) λo=>∃kd,o=PU (kd,g i)/\dc r (kd,g i)=PX) (q:Q (.fr (.own [] r),.lst ((M4 n).map g))):Wp (aj Γ (.comp r cap tg (.rng (.lit (.int 0)) a) .non elt) ρ) Q:=by
 refine jP (lc (ad (ha.mono λx hx=>?_)));obtain⟨kx,dx⟩:=x;cases(show dx=_ from hx);refine li (dP (by lia) (by lia) (by lia) (by lia) (by lia)) ⟨?_,?_⟩
 ·show(en 0 (n:Int)).length<=_;rw[eU,MY,Nn];exact hn
 ·show Wp (a8 r _ (en 0 (n:Int))) _;rw[eU];exact JH (tZ λi hi=>h i (OK.mp hi)) q
theorem t0{fe:Ro->Option KD}{Q:Option KD->Prop}(hn:dH [(1,d)] ρ0=PX)(h:Wp (fe (setAll [(1,d)] ρ0)) λx=>Q (PU x)):Wp (eM (.nm 1) (eB Γ .non) fe ρ0 d) Q:=yu (ps:=[(1,d)]) rfl hn rfl h
theorem LR{a b:D}{fe:Ro->Option KD}{ρ0:Ro}{Q:Option KD->Prop}(hn:dH [(1,a),(2,b)] ρ0=PX)(h:Wp (fe (setAll [(1,a),(2,b)] ρ0)) λx=>Q (PU x)):Wp (eM (.tp [.nm 1,.nm 2]) (eB Γ .non) fe ρ0 (.tup [a,b])) Q:=yu (ps:=[(1,a),(2,b)]) rfl hn rfl h
theorem aB{xs:List D}{n:Nat}{z:Int}(hh:hd=.lst\/hd=.tup)(hz:z=n)(hd':xs[n]?=PU d)(q:Q (xf k n,d)):Wp (uV (PU (k,.nd hd xs)) (PU (k',.int z))) Q:=by
 subst hz;have hl:=(MZ.mp hd').1;rcases hh with rfl|rfl
 ·exact E9 (n:=n) (by rw[n0 (by lia) (by lia)];rfl) hd' q
 ·exact Fa (n:=n) (by rw[n0 (by lia) (by lia)];rfl) hd' q
end
theorem t5(a:Nat){w:Nat}(hw:w<=1000):ψ0 [iD a,iD w]=PU (.fr k0,.lst ((M4 w).map λk=>bD (a.testBit k))):=by
 unfold ψ0;refine cr (dB rfl ?_);unfold b0
 walk_at "nm"
 exact a9 (aw (vK (n:=w) (aa rfl rfl) (by lia) (λi hi=>t0 rfl (yB (x:=a) (i:=i) (aa rfl rfl) (aa rfl rfl) ⟨_,rfl,rfl⟩)) ⟨rfl,bw rfl rfl⟩))
theorem Fp{α:Type}(l:List α)(f:α->Bool):l.map (λx=>bD (f x))=(l.map f).map bD:=by rw[Nl];rfl
theorem iM{c:Ci}(h:Ok c):ψ1 [cD c]=PU (.fr k0,.lst ((n9 c).map bD)):=by
 unfold ψ1;refine cr (dB rfl ?_);unfold b1
 walk_at "nm"
 have hm:=h.bm;refine a9 (aw (oh (l:=c.mems) (f:=iK) (g:=λm=>bD m.1) (.inl rfl) (aQ (aa rfl (ad (aB (n:=1) (.inr rfl) rfl rfl ⟨rfl,rfl⟩)))) (by lia) (λm _=>LR rfl (aa rfl ⟨_,rfl,rfl⟩)) ⟨rfl,bw rfl ?_⟩));rw[Fp];rfl
theorem vL{n:Nat}(hn:n<=6):ψ2 [iD n]=PU (.sh,iD (W n)):=by
 unfold ψ2;refine cr (dB rfl ?_);unfold b2
 walk_at "nm"
 have h1:(1:Int)*2^((n:Int)).toNat=((2^n:Nat):Int):=by rw[NJ];simp
 have h2:2^n<=64:=NT (n:=2) (by decide) hn;have h3:0<=(1:Int)*2^((n:Int)).toNat/\(1:Int)*2^((n:Int)).toNat<=1000000:=by rw[h1];clear h1;generalize 2^n=p at h2;lia
 refine a9 (aw (ak (ak (ad (ak (ad (aa rfl (nZ ⟨by lia,by lia,by decide⟩ (nZ ⟨h3.1,h3.2,by decide⟩ (ad (ld ⟨rfl,bw rfl ?_⟩)))))))))));rw[h1,NJ];have:0<2^2^n:=Oo _;show(Kd.sh,D.int _)=(Kd.sh,D.int _);congr 2;rw[Int.one_mul,show((2:Int)^2^n)=((2^2^n:Nat):Int) by simp,Int.ofNat_sub (by lia)];rfl
noncomputable def rK:List (Nat×Nat):=[(0,1),(0,2),(1,2),(0,3),(1,3),(2,3),(0,4),(1,4),(2,4),(3,4),(0,5),(1,5),(2,5),(3,5),(4,5),(0,6),(1,6),(2,6),(3,6),(4,6),(5,6)]
theorem vM:∀n,n<=6->∀k,k<n->(k,n)∈rK:=by decide +kernel
theorem rL:∀p∈rK,ψ3 [iD p.1,iD p.2]=PU (.sh,iD (ln p.1 p.2)):=by
 intro p hp;simp only[rK,M7,NH,or_false] at hp
 rcases hp with rfl|rfl|rfl|rfl|rfl|rfl|rfl|rfl|rfl|rfl|rfl|rfl|rfl|rfl|rfl|rfl|rfl|rfl|rfl|rfl|rfl<;>kernel_rfl
theorem vN{k n:Nat}(hn:n<=6)(hk:k<n):ψ3 [iD k,iD n]=PU (.sh,iD (ln k n)):=rL _ (vM n hn k hk)
theorem Ja:G.jr 2 PV (PU 2)=[0]/\G.jr 2 (PU 1) (PU 2)=[1]:=by decide +kernel
theorem Jb:G.jr 4 PV (PU 2)=[0,2]/\G.jr 4 (PU 1) (PU 2)=[1,3]:=by decide +kernel
theorem Jc:G.jr 8 PV (PU 2)=[0,2,4,6]/\G.jr 8 (PU 1) (PU 2)=[1,3,5,7]:=by decide +kernel
theorem Cu{z:Int}{Q:KD->Prop}(h:jK k xs=PX/\1<=z)(q:Q (.fr bQ,.lst (G.cJ xs l (PU z)))):Wp (uX (PU (k,.nd .lst xs)) (PU l) (PU (k',.int z))) Q:=⟨_,if_pos h,q⟩
theorem yC:∀{L:List Nat} {m:Nat},m<=2->L.length=2^(m+1)->o5 (PU (.fr bQ,.lst (G.cJ (L.map iD) PV (PU 2)))) (PU (.fr bQ,.lst (G.cJ (L.map iD) (PU 1) (PU 2))))=PU ([],(M4 (2^m)).map λj=>D.tup [iD (L.getD (2*j) 0),iD (L.getD (2*j+1) 0)]):=by
 intro L m hm hl
 match m,hm with
 |0,_=>
  match L,hl with
  |[a,b],_=>
   unfold G.cJ;rw[show(Oz iD [a,b]).length=2 from rfl,Ja.1,Ja.2];rfl
 |1,_=>
  match L,hl with
  |[a,b,c,d],_=>
   unfold G.cJ;rw[show(Oz iD [a,b,c,d]).length=4 from rfl,Jb.1,Jb.2];rfl
 |2,_=>
  match L,hl with
  |[a,b,c,d,e,f,g,h],_=>
   unfold G.cJ;rw[show(Oz iD [a,b,c,d,e,f,g,h]).length=8 from rfl,Jc.1,Jc.2];rfl
theorem Cv{n:Nat}(hn:n<=6):((W n:Nat):Int).natAbs<lim:=by
 have:2^n<=64:=NT (n:=2) (by decide) hn;have:W n<2^64:=M6 (Nat.sub_lt (Oo _) (by decide)) (NT (by decide) this);rw[Ob];exact Oq this (by unfold lim;decide)
theorem A1{n t:Nat}{xs:List Nat}{bs:Nat->List Bool}(hn:n<=6)(hl:xs.length<=3)(hb:∀i,(bs i).length=xs.length)(hx:∀(j:Nat) x,xs[j]?=PU x->zk n x λi=>(bs i).getD j PY) :
  ∃y,ψ4 [iD t,.lst (xs.map iD),iD (W n)]=PU (.sh,iD y)/\zk n y λi=>t.testBit (g7 (bs i)):=by
 suffices h:Wp (ψ4 [iD t,.lst (xs.map iD),iD (W n)]) λr=>∃y,r=(.sh,iD y)/\zk n y λi=>t.testBit (g7 (bs i)) by
  obtain⟨r,e,y,rfl,hy⟩:=h;exact⟨y,e,hy⟩
 unfold ψ4;refine dB rfl ?_;unfold b4
 walk_at "nm"
 have hp:2^xs.length<=8:=NT (n:=2) (by decide) hl;have h1:(1:Int)*2^(((xs.map iD).length:Int)).toNat=((2^xs.length:Nat):Int):=by rw[NJ,MY];simp
 refine aY (aw (oh (l:=M4 (2^xs.length)) (f:=λj=>bD (t.testBit j)) (g:=λj=>iD (W n*(t.testBit j).toNat)) (.inl rfl) (cb (φ:=ψ0) rfl (ac (aa rfl (ac (ak (ad (bv (ac (aa rfl (ae (ci (nZ ⟨by lia,by rw[MY];lia,by decide⟩ (ae (bt ?_)))))))))))))) (by simp;lia) (λj _=>t0 rfl (ak (aa rfl (aa rfl (jk ⟨Cv hn,?_⟩ ⟨.sh,?_,rfl⟩))))) ⟨⟨rfl,by decide⟩,?_⟩))
 ·show Wp (ψ0 [iD t,.int ((1:Int)*2^(((xs.map iD).length:Int)).toNat)]) _;rw[h1];exact⟨_,t5 t (by lia),rfl,.inl rfl,rfl,rfl⟩
 ·cases t.testBit j<;>decide
 ·show PU (Kd.sh,D.int _)=PU (Kd.sh,D.int _);rw[OG]
 show Wp (aP _ _ _ _ [PU ⟨PY,.fz,iD t⟩,PU ⟨PY,.fz,.lst (xs.map iD)⟩,PU ⟨PY,.fz,iD (W n)⟩,PU ⟨PY,k0,.lst ((M4 (2^xs.length)).map λj=>iD (W n*(t.testBit j).toNat))⟩,PV]) _;refine my (fc (pS (aa rfl (g6 rfl ⟨λs ρ=>s<=xs.length/\∃L x4,ρ=[PU ⟨PY,.fz,iD t⟩,PU ⟨PY,.fz,.lst (xs.map iD)⟩,PU ⟨PY,.fz,iD (W n)⟩,PU ⟨PY,k0,.lst (L.map iD)⟩,x4]/\vH n t s (xs.length-s) (λi=>(bs i).take s) L,⟨NG _,_,PV,?_,IZ n t xs.length⟩,λs d ρ hd hI=>?_,λρ hI=>?_⟩))))
 ·rw[Nl];rfl
 ·obtain⟨hs,L,x4,rfl,hT⟩:=hI;have hd:(xs.map iD)[s]?=PU d:=hd;rw[M0] at hd
  cases e:xs[s]? with
  |none=>rw[e] at hd;cases hd
  |some x=>
   rw[e] at hd;cases hd;have hs':=(MZ.mp e).1;obtain⟨m,hm⟩:∃m,xs.length-s=m+1:=⟨xs.length-s-1,by lia⟩;rw[hm] at hT;refine⟨[(4,iD x)],rfl,rfl,?_⟩;show Wp (aP _ _ _ [] [PU ⟨PY,.fz,iD t⟩,PU ⟨PY,.fz,.lst (xs.map iD)⟩,PU ⟨PY,.fz,iD (W n)⟩,PU ⟨PY,k0,.lst (L.map iD)⟩,PU ⟨PY,.fz,iD x⟩]) _;have hz:=yC (L:=L) (m:=m) (by lia) hT.1;have hst:=vI hT (λi=>by rw[NN,hb i];lia) (hx s x e);refine aY (aw (jP (yo (ym (aa rfl (rs (ad (Cu ⟨rfl,by decide⟩ (ym (aa rfl (yn (ad ⟨1,rfl,ad (Cu ⟨rfl,by decide⟩ ⟨_,hz,?_⟩)⟩))))))))))));have h2m:2^m<=8:=NT (n:=2) (by decide) (show m<=3 by lia);refine⟨by simp;lia,JH (tZ (g:=λj=>iD (L.getD (2*j) 0 ^^^ ((L.getD (2*j) 0 ^^^ L.getD (2*j+1) 0) &&& x))) λj _=>LR rfl (ak (aa rfl (ak (ak (aa rfl (aa rfl (yA (aa rfl (Fl (yA ⟨_,rfl,rfl⟩))))))))))) ⟨⟨rfl,by decide⟩,bn ⟨_,.inl rfl,by lia,(M4 (2^m)).map (λj=>L.getD (2*j) 0 ^^^ ((L.getD (2*j) 0 ^^^ L.getD (2*j+1) 0) &&& x)),PU ⟨PY,.fz,iD x⟩,?_,?_⟩⟩⟩
   ·rw[Nl];rfl
   ·rw[show xs.length-(s+1)=m by lia]
    have:∀i,(bs i).take (s+1)=(bs i).take s++[(bs i).getD s PY]:=λi=>by
     rw[Og,Nf,Na (by rw[hb i];exact hs')];rfl
    simp only[this];exact hst
 ·obtain⟨hs,L,x4,rfl,hT⟩:=hI;have hlen:(xs.map iD).length=xs.length:=MY _;have hT:vH n t (xs.map iD).length (xs.length-(xs.map iD).length) (λi=>(bs i).take (xs.map iD).length) L:=hT;rw[hlen,OF] at hT;obtain⟨y,rfl,hy⟩:=yz hT;have:∀i,(bs i).take xs.length=bs i:=λi=>by rw[<- hb i];exact Oi
  simp only[this] at hy;refine a9 (aw (aQ (aa rfl (ad (aB (n:=0) (.inl rfl) rfl rfl ⟨rfl,bw rfl ⟨y,rfl,hy⟩⟩)))))
theorem pW{cs:List Nat}(hl:cs.length<=1000)(i:Nat):Cr [.lst (cs.map iD),iD i]=PU (.fr k0,.lst (cs.map λx=>bD (x.testBit i))):=by
 unfold Cr;refine cr (dB rfl ?_);unfold Lm
 walk_at "nm"
 exact a9 (aw (oh (l:=cs) (f:=iD) (.inl rfl) (aa rfl ⟨rfl,rfl⟩) (by lia) (λx _=>t0 rfl (yB (x:=x) (i:=i) (aa rfl rfl) (aa rfl rfl) ⟨_,rfl,rfl⟩)) ⟨rfl,bw rfl rfl⟩))
theorem A2{n:Nat}{vs:Nat->List Bool}{cs:List Nat}(h:rJ n vs cs){ps:List Nat}(hp:∀p∈ps,p<cs.length):(∀i,(ps.map λp=>(vs i).getD p PY).length=(ps.map λp=>cs.getD p 0).length)/\∀(j:Nat) x,(ps.map λp=>cs.getD p 0)[j]?=PU x->zk n x λi=>(ps.map λp=>(vs i).getD p PY).getD j PY:=by
 refine⟨λi=>by simp,λj x hx=>?_⟩;rw[M0] at hx
 cases e:ps[j]? with
 |none=>rw[e] at hx;cases hx
 |some p=>
  rw[e] at hx;cases hx;have hl:=hp p (NS e);have:=h.2 p (cs.getD p 0) (by rw[Nf,Na hl];rfl);refine⟨this.1,λi hi=>?_⟩;rw[this.2 i hi];simp[e]
theorem yD{cs:List Nat}{p:Nat}(h:p<cs.length):(cs.map iD)[p]?=PU (iD (cs.getD p 0)):=by
 rw[M0,Nf,Na h];rfl
noncomputable def fU(c:Ci)(st:List Bool)(i:Nat):D:=.tup [.lst ((cW c st (rb c.ins i)).map bD),.lst ((nextOf c st (rb c.ins i)).map bD)]
theorem pX{c:Ci}{st:List Bool}(h:Ok c)(hs:st.length=c.mems.length):Go [cD c,.lst (st.map bD)]=PU (.fr k0,.lst ((M4 (2^c.ins)).map (fU c st))):=by
 have h2:2^c.ins<=64:=NT (n:=2) (by decide) h.bi;have hi:=h.bi;have hm:=h.bm;have hg:=h.bg;have ho:=h.bo
 have tail:∀(cs:List Nat) (x8 x9:Option Sl),rJ c.ins (λi=>vals c st (rb c.ins i)) cs->cs.length=c.n->Wp (aP Γ_14 1000 (match IC with|.cons _ (.cons _ (.cons _ (.cons _ r)))=>r|r=>r) [] [PU ⟨PY,.fz,cD c⟩,PU ⟨PY,.fz,.lst (st.map bD)⟩,PU ⟨PY,.fz,iD c.ins⟩,PU ⟨PY,.fz,.lst (c.mems.map iK)⟩,PU ⟨PY,.fz,.lst (c.gates.map iL)⟩,PU ⟨PY,.fz,.lst (c.outs.map iD)⟩,PU ⟨PY,.fz,iD (W c.ins)⟩,PU ⟨PY,k0,.lst (cs.map iD)⟩,x8,x9,PV,PV]) λr=>Wp (gW (PU r)) λx=>x=(.fr k0,.lst ((M4 (2^c.ins)).map (fU c st))):=by
  intro cs x8 x9 hC hl;unfold IC;have hn:c.n<=300:=by unfold Ci.n;lia
  have h1:(1:Int)*2^((c.ins:Int)).toNat=((2^c.ins:Nat):Int):=by rw[NJ];simp
  refine aY (aw (oh (l:=c.outs) (f:=iD) (g:=λo=>iD (cs.getD o 0)) (.inl rfl) (aa rfl ⟨rfl,rfl⟩) (by lia) (λo ho=>t0 rfl (aQ (aa rfl (aa rfl (aB (n:=o) (.inl rfl) rfl (yD (by rw[hl];exact h.o o ho)) ⟨_,rfl,rfl⟩))))) ⟨⟨rfl,by decide⟩,?_⟩));refine aY (aw (oh (l:=c.mems) (f:=iK) (g:=λm=>iD (cs.getD m.2 0)) (.inl rfl) (aa rfl ⟨rfl,rfl⟩) (by lia) (λm hm=>LR rfl (aQ (aa rfl (aa rfl (aB (n:=m.2) (.inl rfl) rfl (yD (by rw[hl];exact h.m m hm)) ⟨_,rfl,rfl⟩))))) ⟨⟨rfl,by decide⟩,?_⟩));refine a9 (tQ (fc (lc (ad (ak (ad (aa rfl (nZ ⟨by lia,by lia,by decide⟩ ?_))))))));rw[h1];have hlen:(en 0 ((2^c.ins:Nat):Int)).length=2^c.ins:=by rw[eU,MY,Nn]
  generalize hp:2^c.ins=p at *;refine li (dP (by lia) (by lia) (by lia) (by lia) (by lia)) ⟨rfl,by show(en 0 (p:Int)).length<=100000;lia,?_⟩;show Wp (aN .fz _ (en 0 (p:Int)) [PV,PV,PV,PU ⟨PY,k0,.lst (c.mems.map λm=>iD (cs.getD m.2 0))⟩,PU ⟨PY,k0,.lst (c.outs.map λo=>iD (cs.getD o 0))⟩]) _;refine Cq (λj ys ρ=>ys=(M4 j).map (fU c st)/\∃k k',ρ=[PV,PV,PV,PU ⟨PY,k,.lst (c.mems.map λm=>iD (cs.getD m.2 0))⟩,PU ⟨PY,k',.lst (c.outs.map λo=>iD (cs.getD o 0))⟩]) ⟨rfl,_,_,rfl⟩ (λj d ys ρ hd hI=>?_) λys ρ hI=>?_
  ·obtain⟨rfl,hj⟩:=lj hd;obtain⟨rfl,k,k',rfl⟩:=hI;rw[O0] at hj⊢;have hj:j<2^c.ins:=by lia
   have e1:Cr [.lst (c.outs.map λo=>iD (cs.getD o 0)),iD j]=PU (.fr k0,.lst ((cW c st (rb c.ins j)).map bD)):=by
    have:=pW (cs:=c.outs.map λo=>cs.getD o 0) (by simp;lia) j;rw[Nl] at this;refine this.trans ?_;unfold cW;rw[Nl,Nl];congr 3;refine NP λo ho=>?_;show bD _=bD _;rw[(hC.2 o (cs.getD o 0) (by rw[Nf,Na (by rw[hl];exact h.o o ho)];rfl)).2 j hj]
   have e2:Cr [.lst (c.mems.map λm=>iD (cs.getD m.2 0)),iD j]=PU (.fr k0,.lst ((nextOf c st (rb c.ins j)).map bD)):=by
    have:=pW (cs:=c.mems.map λm=>cs.getD m.2 0) (by simp;lia) j;rw[Nl] at this;refine this.trans ?_;unfold nextOf;rw[Nl,Nl];congr 3;refine NP λm hm=>?_;show bD _=bD _;rw[(hC.2 m.2 (cs.getD m.2 0) (by rw[Nf,Na (by rw[hl];exact h.m m hm)];rfl)).2 j hj]
   refine yw (ps:=[(1,iD j)]) rfl ⟨rfl,rfl⟩ rfl (jm (aD (lg (φ:=Cr) rfl (aU (lf rfl (ac (aa rfl (ae (bt ⟨_,e1,rfl,.inl rfl,rfl,aU (lg (φ:=Cr) rfl (aU (lf rfl (ac (aa rfl (ae (bt ⟨_,e2,rfl,.inl rfl,ae (bY rfl ⟨_,rfl,rfl,?_,_,_,rfl⟩)⟩)))))))⟩)))))))));rw[OH,Nw];rfl
  ·obtain⟨rfl,k,k',rfl⟩:=hI;refine⟨rfl,rfl,bw rfl ?_⟩;show(_,D.lst ((M4 (en 0 (p:Int)).length).map _))=_;rw[hlen];rfl
 unfold Go;refine cr (dB rfl ?_);unfold IC at tail⊢
 walk_at "nm"
 refine rF (aw (aa rfl ⟨_,_,_,rfl,rfl,⟨rfl,rfl⟩,?_⟩));show Wp (aP _ _ _ _ [PU ⟨PY,.fz,cD c⟩,PU ⟨PY,.fz,.lst (st.map bD)⟩,PU ⟨PY,.fz,iD c.ins⟩,PU ⟨PY,.fz,.lst (c.mems.map iK)⟩,PU ⟨PY,.fz,.lst (c.gates.map iL)⟩,PU ⟨PY,.fz,.lst (c.outs.map iD)⟩,PV,PV,PV,PV,PV,PV]) _;refine aY (aw (cb (φ:=ψ2) rfl (ac (aa rfl (ae (bt ⟨_,vL hi,rfl,.inl rfl,⟨rfl,by decide⟩,?_⟩))))));refine aY (aw (ak (vK (n:=c.ins) (g:=λk=>iD (ln (c.ins-1-k) c.ins)) (aa rfl rfl) (by lia) (λk hk=>t0 rfl (cb (φ:=ψ3) rfl (ac (ak (ak (aa rfl (ad (ld (aa rfl (ld (ac (aa rfl (ae (bt ?_)))))))))))))) (oh (l:=st) (f:=bD) (g:=λb=>iD (W c.ins*b.toNat)) (.inl rfl) (aa rfl ⟨rfl,rfl⟩) (by lia) (λb _=>t0 rfl (ak (aa rfl (aa rfl (jk ⟨Cv hi,?_⟩ ⟨.sh,?_,rfl⟩))))) (jl ⟨rfl,rfl,by simp;lia⟩ ⟨⟨rfl,by decide⟩,?_⟩)))))
 ·refine⟨(.sh,iD (ln (c.ins-1-k) c.ins)),?_,rfl,.inl rfl,.sh,rfl,rfl⟩;show ψ3 [.int ((c.ins:Int)-1-k),iD c.ins]=_;rw[show(c.ins:Int)-1-k=((c.ins-1-k:Nat):Int) by lia];exact vN hi (by lia)
 ·cases b<;>decide
 ·show PU (Kd.sh,D.int _)=PU (Kd.sh,D.int _);rw[OG]
 have hC0:=I0 hi st;have hl0:((M4 c.ins).map (λk=>ln (c.ins-1-k) c.ins)++st.map λb=>W c.ins*b.toNat).length=c.ins+c.mems.length:=by simp[hs]
 have he0:((M4 c.ins).map λk=>iD (ln (c.ins-1-k) c.ins))++(st.map λb=>iD (W c.ins*b.toNat))=((M4 c.ins).map (λk=>ln (c.ins-1-k) c.ins)++st.map λb=>W c.ins*b.toNat).map iD:=by rw[Nw,Nl,Nl];rfl
 rw[he0];generalize (M4 c.ins).map (λk=>ln (c.ins-1-k) c.ins)++(st.map λb=>W c.ins*b.toNat)=cs0 at *;show Wp (aP _ _ _ _ [PU ⟨PY,.fz,cD c⟩,PU ⟨PY,.fz,.lst (st.map bD)⟩,PU ⟨PY,.fz,iD c.ins⟩,PU ⟨PY,.fz,.lst (c.mems.map iK)⟩,PU ⟨PY,.fz,.lst (c.gates.map iL)⟩,PU ⟨PY,.fz,.lst (c.outs.map iD)⟩,PU ⟨PY,.fz,iD (W c.ins)⟩,PU ⟨PY,k0,.lst (cs0.map iD)⟩,PV,PV,PV,PV]) _;refine my (fc (pS (aa rfl (g6 rfl ⟨λs ρ=>∃cs x8 x9,ρ=[PU ⟨PY,.fz,cD c⟩,PU ⟨PY,.fz,.lst (st.map bD)⟩,PU ⟨PY,.fz,iD c.ins⟩,PU ⟨PY,.fz,.lst (c.mems.map iK)⟩,PU ⟨PY,.fz,.lst (c.gates.map iL)⟩,PU ⟨PY,.fz,.lst (c.outs.map iD)⟩,PU ⟨PY,.fz,iD (W c.ins)⟩,PU ⟨PY,k0,.lst (cs.map iD)⟩,x8,x9,PV,PV]/\cs.length=c.ins+c.mems.length+s/\rJ c.ins (λi=>(c.gates.take s).foldl fj (rb c.ins i++st)) cs,⟨cs0,PV,PV,rfl,hl0,hC0⟩,λs d ρ hd hI=>?_,λρ hI=>?_⟩))))
 ·obtain⟨cs,x8,x9,rfl,hl,hC⟩:=hI;have hd:(c.gates.map iL)[s]?=PU d:=hd;rw[M0] at hd
  cases e:c.gates[s]? with
  |none=>rw[e] at hd;cases hd
  |some g=>
   rw[e] at hd;cases hd;obtain⟨g1,g2,g3⟩:=h.g s g e;have hs':=(MZ.mp e).1;have hpk:=A2 hC (ps:=g.2) λp hp=>by rw[hl];exact g3 p hp
   obtain⟨y,ey,hy⟩:=A1 (t:=g.1) hi (by simpa using g1) hpk.1 hpk.2;refine⟨[(8,iD g.1),(9,.tup (g.2.map iD))],rfl,rfl,?_⟩;show Wp (aP _ _ _ [] [PU ⟨PY,.fz,cD c⟩,PU ⟨PY,.fz,.lst (st.map bD)⟩,PU ⟨PY,.fz,iD c.ins⟩,PU ⟨PY,.fz,.lst (c.mems.map iK)⟩,PU ⟨PY,.fz,.lst (c.gates.map iL)⟩,PU ⟨PY,.fz,.lst (c.outs.map iD)⟩,PU ⟨PY,.fz,iD (W c.ins)⟩,PU ⟨PY,k0,.lst (cs.map iD)⟩,PU ⟨PY,.fz,iD g.1⟩,PU ⟨PY,.fz,.tup (g.2.map iD)⟩,PV,PV]) _;rw[Nl] at ey;refine gz (jQ (cb (φ:=ψ4) rfl (ac (aa rfl (ac (oh (l:=g.2) (f:=iD) (g:=λp=>iD (cs.getD p 0)) (.inr rfl) (aa rfl ⟨rfl,rfl⟩) (by lia) (λp hp=>t0 rfl (aQ (aa rfl (aa rfl (aB (n:=p) (.inl rfl) rfl (yD (by rw[hl];exact g3 p hp)) ⟨_,rfl,rfl⟩))))) (ac (aa rfl (ae (bt ⟨_,ey,rfl,.inl rfl,[],.fz,_,rfl,⟨by simp,rfl,by rw[MY];lia⟩,bn ⟨_,.inl rfl,cs++[y],PU ⟨PY,.fz,iD g.1⟩,PU ⟨PY,.fz,.tup (g.2.map iD)⟩,?_,by simp;lia,?_⟩⟩))))))))))
   ·rw[Nw];rfl
   ·have:∀vs,(c.gates.take (s+1)).foldl fj vs=fj ((c.gates.take s).foldl fj vs) g:=λvs=>by
     rw[Og,e,List.foldl_append];rfl
    simp only[this];exact vJ hC hy
 ·obtain⟨cs,x8,x9,rfl,hl,hC⟩:=hI;have hl:cs.length=c.ins+c.mems.length+(c.gates.map iL).length:=hl;have hC:rJ c.ins (λi=>(c.gates.take (c.gates.map iL).length).foldl fj (rb c.ins i++st)) cs:=hC;rw[MY] at hl hC;rw[Oi] at hC;exact tail cs PV PV hC hl
section
variable {Γ:Nat->Option Fn} {ρ:Ro} {Q:KD->Prop}
theorem Fs(h:Wp (aj Γ a ρ) λx=>Wp (aj Γ b ρ) λy=>Wp (qI (PU x) (PU y)) Q):Wp (aj Γ (.rev a b) ρ) Q:=by
 obtain⟨x,ex,y,ey,z,ez,q⟩:=h;exact⟨z,by rw[Ae,ex,ey];exact ez,q⟩
theorem LS{xs:List D}(h:jK k xs=PX)(q:Q (.fr bQ,.lst xs.reverse)):Wp (qI (PU (k,.nd .lst xs)) (PU (k',.int (-1)))) Q:=⟨_,if_pos ⟨rfl,h⟩,q⟩
theorem Fu{i:Int}(h:Wp (aj Γ a ρ) λx=>x.2=.int i)(q:Q (.sh,.int (-i))):Wp (aj Γ (.neg a) ρ) Q:=by
 obtain⟨⟨k,d⟩,e,hd⟩:=h;cases(show d=_ from hd);exact⟨_,by rw[Ab,e];rfl,q⟩
theorem t6{m:Nat}(h:Wp (aj Γ k ρ) λx=>Wp (aj Γ a ρ) λy=>Wp (js m (PU x) (PU y)) Q):Wp (aj Γ (.dspT m k a) ρ) Q:=by
 obtain⟨x,ex,y,ey,z,ez,q⟩:=h;exact⟨z,by rw[xy,ex,ey];exact ez,q⟩
end
theorem Cw:∀x y:List Bool,PyData.eqvAll (oW (x.map bD)) (oW (y.map bD))=decide (x=y)
 |[],[]=>by simp[oW,PyData.eqvAll]
 |[],_::_=>by simp[oW,PyData.eqvAll]
 |_::_,[]=>by simp[oW,PyData.eqvAll]
 |a::x,b::y=>by
  have:=Cw x y;simp only[Nu,oW,PyData.eqvAll,this,py,PyData.eqv]
  cases a<;>cases b<;>simp
theorem Jd(x y:List Bool):jJ (.lst (x.map bD)) (.lst (y.map bD))=decide (x=y):=by
 unfold jJ;simp only[py,PyData.eqv];exact Cw x y
theorem Cy(n:Nat)(x:List Bool):cj (n+1) (.lst (x.map bD))=PX:=by
 simp only[cj,MX,decide_eq_true_eq];refine⟨by lia,jS λd hd=>?_⟩;obtain⟨b,_,rfl⟩:=NK.mp hd;rfl
theorem Fw{x y:List Bool}{T:Bool->Prop}(q:T (decide (x=y))):Wp (cu .Eq (.lst (x.map bD)) (.lst (y.map bD))) T:=gZ ⟨Cy _ _,Cy _ _⟩ (by rw[Jd];exact q)
noncomputable abbrev P:=List Bool×List Bool
noncomputable def aE(p:P):D:=.tup [.lst (p.1.map bD),.lst (p.2.map bD)]
noncomputable def pY(p:P):D:=.tup [.tup (p.1.map bD),.tup (p.2.map bD)]
noncomputable def bK(b:Bool):aS:=.inl (b.toNat:Int)
noncomputable def pk(p:P):DK:=.inr [.inr (p.1.map bK),.inr (p.2.map bK)]
noncomputable def t7(a b:Ci)(p:P)(x:List Bool):Bool:=decide (cW a p.1 x=cW b p.2 x)
noncomputable def t9(a b:Ci)(p:P)(x:List Bool):P:=(nextOf a p.1 x,nextOf b p.2 x)
theorem rM:∀{x y:List Bool},x.map bK=y.map bK->x=y
 |[],[],_=>rfl
 |a::x,b::y,h=>by
  simp only[Nu,List.cons.injEq] at h
  have:a=b:=by
   have:=h.1;simp only[bK,Sum.inl.injEq] at this
   cases a<;>cases b<;>first|rfl|exact absurd this (by decide)
  rw[this,rM h.2]
 |[],_::_,h=>by simp at h
 |_::_,[],h=>by simp at h
theorem Fx(h:pk p=pk q):p=q:=by
 unfold pk at h;simp only[Sum.inr.injEq,List.cons.injEq] at h;exact Prod.ext (rM h.1) (rM h.2.1)
theorem yE:∀x:List Bool,fI (x.map bD)=PU (x.map bK)
 |[]=>rfl
 |a::x=>by simp only[Nu,fI,yE x];rfl
theorem oi(p:P):lA (pY p)=PU (pk p):=by
 show(kC [.tup (p.1.map bD),.tup (p.2.map bD)]).map Sum.inr=_;simp only[kC,zQ,yE,OD];rfl
theorem pZ(fs:List P)(p:P):(bN (fs.map pk) (pk p)).isSome=decide (p∈fs):=by
 unfold bN;rw[Pg,List.any_map,Bool.eq_iff_iff];simp only[List.any_eq_true,Function.comp,decide_eq_true_eq];exact⟨λ⟨q,hq,e⟩=>Fx e▸hq,λh=>⟨p,h,rfl⟩⟩
theorem Fz(n i:Nat):((M4 n).map λk=>bD (i.testBit k)).reverse=(rb n i).map bD:=by
 refine Pz λj=>?_;by_cases hj:j<n
 ·rw[List.getElem?_reverse (by simpa using hj)];simp only[MY,Nn,rb,Nl];rw[M0,M0,Np hj,Np (by lia)];rfl
 ·rw[NL (by simp;lia),NL (by simp[rb];lia)]
theorem mC{n:Nat}(hn:n<=6)(i:Nat):Gn [iD i,iD n]=PU (.fr k0,.lst ((rb n i).map bD)):=by
 unfold Gn;refine cr (dB rfl ?_);unfold Ld
 walk_at "nm"
 refine a9 (aw (Fs (cb (φ:=ψ0) rfl (ac (aa rfl (ac (aa rfl (ae (bt ⟨_,t5 i (w:=n) (by lia),rfl,.inl rfl,Fu (i:=1) (ad rfl) (LS rfl ⟨rfl,bw rfl ?_⟩)⟩)))))))));rw[Fz];rfl
theorem oj(p:P):AU [aE p]=PU (.sh,pY p):=by
 unfold AU;refine cr (dB rfl ?_);unfold La
 walk_at "nm"
 exact a9 (aw (dO (ac (bv (ac (aQ (aa rfl (ad (aB (n:=0) (.inr rfl) rfl rfl (ae (iJ rfl (ac (bv (ac (aQ (aa rfl (ad (aB (n:=1) (.inr rfl) rfl rfl (ae (iJ rfl (ae (bY rfl ⟨rfl,bw rfl rfl⟩))))))))))))))))))))))
theorem A3{n:Nat}(hn:n<=300):ψ9 [iD n]=PU (.sh,.non):=by
 unfold ψ9;refine cr (dB rfl ?_);unfold b9
 walk_at "nm"
 refine bq (z:=PY) (aI (aa rfl (ad (fP (decide_eq_false (by lia)))))) (λe=>by cases e) λ_=>bE (bn (yx rfl))
theorem mE{a b:Ci}(ha:Ok a)(hi:a.ins=b.ins)(ho:a.outs.length=b.outs.length):ψ8 [cD a,cD b]=PU (.sh,.non):=by
 unfold ψ8;refine cr (dB rfl ?_);unfold b8
 walk_at "nm"
 have:=ha.bi;refine bq (z:=PY) (k9 (aI (aQ (aa rfl (ad (aB (n:=0) (.inr rfl) rfl rfl (aQ (aa rfl (ad (aB (n:=0) (.inr rfl) rfl rfl (pT ?_))))))))))) (λe=>by cases e) λ_=>bE ?_
 ·rw[hi,decide_eq_true rfl];refine⟨λ_=>k8 (aI (bv (ac (aQ (aa rfl (ad (aB (n:=3) (.inr rfl) rfl rfl (ae (ci (bv (ac (aQ (aa rfl (ad (aB (n:=3) (.inr rfl) rfl rfl (ae (ci (pT ?_)))))))))))))))))),λh=>rfl⟩;rw[MY,MY,ho,decide_eq_true rfl];rfl
 ·exact bq (z:=PY) (aI (aQ (aa rfl (ad (aB (n:=0) (.inr rfl) rfl rfl (ad (fP (decide_eq_false (by lia))))))))) (λe=>by cases e) λ_=>bE (bn (yx rfl))
noncomputable def A4(a b:Ci)(p:P)(i:Nat):D:=.tup [.bl (t7 a b p (rb a.ins i)),aE (t9 a b p (rb a.ins i))]
theorem A5{α:Type}(l:List α)(f g:α->D):uZ (l.map f) (l.map g)=l.map λi=>.tup [f i,g i]:=by
 unfold uZ;rw[List.zipWith_map,List.zipWith_self]
theorem ua{a b:Ci}{p:P}(ha:Ok a)(hb:Ok b)(hi:a.ins=b.ins)(h1:p.1.length=a.mems.length)(h2:p.2.length=b.mems.length):Gp [cD a,cD b,aE p]=PU (.fr k0,.lst ((M4 (2^a.ins)).map (A4 a b p))):=by
 unfold Gp;refine cr (dB rfl ?_);unfold Lh
 walk_at "nm"
 have hp:2^a.ins<=64:=NT (n:=2) (by decide) ha.bi;refine aY (aw (aG (ae (aC rfl ⟨⟨rfl,by decide⟩,?_⟩))));show Wp (aP _ _ _ _ [PU ⟨PY,.fz,cD a⟩,PU ⟨PY,.fz,cD b⟩,PU ⟨PY,.fz,aE p⟩,PU ⟨PY,k0,.lst []⟩,PV,PV,PV,PV]) _
 have hz:o5 (PU (.fr k0,.lst ((M4 (2^a.ins)).map (fU a p.1)))) (PU (.fr k0,.lst ((M4 (2^b.ins)).map (fU b p.2))))=PU ([],(M4 (2^a.ins)).map λi=>.tup [fU a p.1 i,fU b p.2 i]):=by
  rw[<- hi,<- A5];rfl
 refine my (fc (yo (cb (φ:=Go) rfl (ac (aa rfl (ac (aQ (aa rfl (ad (aB (n:=0) (.inr rfl) rfl rfl (ae (bt ⟨_,pX ha h1,rfl,.inl rfl,cb (φ:=Go) rfl (ac (aa rfl (ac (aQ (aa rfl (ad (aB (n:=1) (.inr rfl) rfl rfl (ae (bt ⟨_,pX hb h2,rfl,.inl rfl,⟨_,hz,λs ρ=>∃x4 x5 x6 x7,ρ=[PU ⟨PY,.fz,cD a⟩,PU ⟨PY,.fz,cD b⟩,PU ⟨PY,.fz,aE p⟩,PU ⟨PY,k0,.lst ((M4 s).map (A4 a b p))⟩,x4,x5,x6,x7],⟨PV,PV,PV,PV,rfl⟩,λs d ρ hd hI=>?_,λρ hI=>?_⟩⟩)))))))))⟩))))))))))))
 ·obtain⟨x4,x5,x6,x7,rfl⟩:=hI;have hd:((M4 (2^a.ins)).map λi=>D.tup [fU a p.1 i,fU b p.2 i])[s]?=PU d:=hd;rw[M0] at hd
  cases e:(M4 (2^a.ins))[s]? with
  |none=>rw[e] at hd;cases hd
  |some s'=>
   have hs:=(MZ.mp e).1;rw[Nn] at hs;rw[Np hs] at e;cases e;rw[Np hs] at hd;cases hd;refine⟨[(4,.lst ((cW a p.1 (rb a.ins s)).map bD)),(5,.lst ((nextOf a p.1 (rb a.ins s)).map bD)),(6,.lst ((cW b p.2 (rb b.ins s)).map bD)),(7,.lst ((nextOf b p.2 (rb b.ins s)).map bD))],rfl,rfl,?_⟩;show Wp (aP _ _ _ [] [PU ⟨PY,.fz,cD a⟩,PU ⟨PY,.fz,cD b⟩,PU ⟨PY,.fz,aE p⟩,PU ⟨PY,k0,.lst ((M4 s).map (A4 a b p))⟩,PU ⟨PY,.fz,.lst ((cW a p.1 (rb a.ins s)).map bD)⟩,PU ⟨PY,.fz,.lst ((nextOf a p.1 (rb a.ins s)).map bD)⟩,PU ⟨PY,.fz,.lst ((cW b p.2 (rb b.ins s)).map bD)⟩,PU ⟨PY,.fz,.lst ((nextOf b p.2 (rb b.ins s)).map bD)⟩]) _;refine gz (jQ (dO (ac (eS (aa rfl (aa rfl (Fw (ac (dO (ac (aa rfl (ac (aa rfl (ae (bY rfl (ae (bY rfl ⟨[],.fz,_,rfl,⟨NG _,rfl,by simp;lia⟩,bn ⟨_,.inl rfl,PU ⟨PY,.fz,.lst ((cW a p.1 (rb a.ins s)).map bD)⟩,PU ⟨PY,.fz,.lst ((nextOf a p.1 (rb a.ins s)).map bD)⟩,PU ⟨PY,.fz,.lst ((cW b p.2 (rb b.ins s)).map bD)⟩,PU ⟨PY,.fz,.lst ((nextOf b p.2 (rb b.ins s)).map bD)⟩,?_⟩⟩)))))))))))))))));rw[OH,Nw,<- hi];rfl
 ·obtain⟨x4,x5,x6,x7,rfl⟩:=hI;refine a9 (gy rfl ⟨rfl,bw rfl ?_⟩);show(_,D.lst ((M4 ((M4 (2^a.ins)).map λi=>D.tup [fU a p.1 i,fU b p.2 i]).length).map _))=_;rw[MY,Nn];rfl
noncomputable def Gr(I n k:Nat):Bool×Nat:=(decide (k=0),I+(k+n-1)%n)
noncomputable def JI(I n:Nat):Option Nat->Nat
 |none=>I+n
 |some v=>I+v%n
noncomputable def aJ(I n:Nat)(os:List (Option Nat)):Ci:=⟨I,(M4 n).map (Gr I n),[(0,[])],os.map (JI I n)⟩
noncomputable def jT(n t:Nat):List Bool:=(M4 n).map λk=>decide (k=t%n)
noncomputable def qg(n t:Nat):Option Nat->Bool
 |none=>PY
 |some v=>decide (v%n=t%n)
theorem eV{n t:Nat}:(jT n t).length=n:=by simp[jT]
theorem gf{I n:Nat}{os:List (Option Nat)}:(aJ I n os).mems.length=n:=by simp[aJ]
theorem rN{n t k:Nat}(hk:k<n):(jT n t).getD k PY=decide (k=t%n):=by
 unfold jT;rw[Nf,M0,Np hk];rfl
section
variable {I n t:Nat} {os:List (Option Nat)} {x:List Bool}
theorem CA(hn:0<n)(hn2:n<=100)(hI:I<=6)(ho:os.length<=100):Ok (aJ I n os):=by
 have hN:(aJ I n os).n=I+n+1:=by simp[Ci.n,aJ]
 refine⟨λk g hg=>?_,λm hm=>?_,λo ho=>?_,hI,by rw[gf];exact hn2,by simp[aJ],by simpa[aJ] using ho⟩
 ·have hg:([(0,[])]:List (Nat×List Nat))[k]?=PU g:=hg
  cases k with
  |zero=>cases hg;exact⟨by simp,by simp,λp hp=>by simp at hp⟩
  |succ k=>cases hg
 ·rw[hN];obtain⟨k,_,rfl⟩:=NK.mp (show m∈(M4 n).map (Gr I n) from hm);have:=N5 (k+n-1) hn;show I+(k+n-1)%n<_
  lia
 ·rw[hN];obtain⟨o',_,rfl⟩:=NK.mp (show o∈os.map (JI I n) from ho)
  cases o' with
  |none=>show I+n<_;lia
  |some v=>
   have:=N5 v hn;show I+v%n<_
   lia
theorem ub(hx:x.length=I):vals (aJ I n os) (jT n t) x=(x++jT n t)++[PY]:=by
 show fj (x++jT n t) (0,[])=_;unfold fj;simp
theorem CB{k:Nat}(hx:x.length=I)(hk:k<n):(vals (aJ I n os) (jT n t) x).getD (I+k) PY=decide (k=t%n):=by
 rw[ub hx,Nf,Nz (by rw[ND,eV];lia),Nx (by lia),hx,Ot,<- Nf,rN hk]
theorem yF{k:Nat}(hn:0<n)(hk:k<n):((k+n-1)%n=t%n)↔k=(t+1)%n:=by
 have h1:=N5 t hn;have h2:(t+1)%n=(t%n+1)%n:=by rw[Nat.mod_add_mod]
 rw[h2];by_cases e:t%n+1=n
 ·rw[e,Nat.mod_self];by_cases hk0:k=0
  ·subst hk0;rw[Nat.zero_add,Ol (by lia)]
   lia
  ·rw[show k+n-1=(k-1)+n by lia,Ox,Ol (by lia)]
   lia
 ·rw[Ol (show t%n+1<n by lia)];by_cases hk0:k=0
  ·subst hk0;rw[Nat.zero_add,Ol (by lia)]
   lia
  ·rw[show k+n-1=(k-1)+n by lia,Ox,Ol (by lia)]
   lia
theorem uc(hn:0<n)(hx:x.length=I):nextOf (aJ I n os) (jT n t) x=jT n (t+1):=by
 unfold nextOf;show((M4 n).map (Gr I n)).map _=(M4 n).map _;rw[Nl];refine NP λk hk=>?_;have hk:=OK.mp hk;show(vals (aJ I n os) (jT n t) x).getD (I+(k+n-1)%n) PY=decide (k=(t+1)%n);rw[CB hx (N5 _ hn)];exact decide_eq_decide.mpr (yF hn hk)
theorem ud(hn:0<n)(hx:x.length=I):cW (aJ I n os) (jT n t) x=os.map (qg n t):=by
 unfold cW;show(os.map (JI I n)).map _=_;rw[Nl];refine NP λo _=>?_
 cases o with
 |none=>
  show(vals (aJ I n os) (jT n t) x).getD (I+n) PY=PY;rw[ub hx,Nf,Nx (by rw[ND,eV];lia),ND,eV,hx,OF];rfl
 |some v=>
  show(vals (aJ I n os) (jT n t) x).getD (I+v%n) PY=decide (v%n=t%n);exact CB hx (N5 _ hn)
theorem iN(hn:0<n):n9 (aJ I n os)=jT n 0:=by
 unfold n9;show((M4 n).map (Gr I n)).map _=(M4 n).map _;rw[Nl];refine NP λk _=>?_;show decide (k=0)=decide (k=0%n);rw[Pq]
theorem ue{t':Nat}(hn:0<n)(h:jT n t=jT n t'):t%n=t'%n:=by
 have h1:=N5 t hn;have:(jT n t).getD (t%n) PY=(jT n t').getD (t%n) PY:=by rw[h]
 rw[rN h1,rN h1,decide_eq_true rfl] at this;exact of_decide_eq_true this.symm
theorem uf{t':Nat}(h:t%n=t'%n):jT n t=jT n t':=by unfold jT;rw[h]
end
noncomputable abbrev dQ(a b t:Nat):P:=(jT a t,jT b t)
noncomputable def d8(a b:Nat)(os:List (Option Nat))(t:Nat):Bool:=decide (os.map (qg a t)=os.map (qg b t))
section
variable {I a b t:Nat} {os:List (Option Nat)} {x:List Bool}
theorem p0(ha:0<a)(hb:0<b)(hx:x.length=I):t7 (aJ I a os) (aJ I b os) (dQ a b t) x=d8 a b os t:=by
 unfold t7 d8;rw[ud ha hx,ud hb hx]
theorem ug(ha:0<a)(hb:0<b)(hx:x.length=I):t9 (aJ I a os) (aJ I b os) (dQ a b t) x=dQ a b (t+1):=by
 unfold t9;rw[uc ha hx,uc hb hx]
theorem CC{t':Nat}(ha:0<a)(hb:0<b):dQ a b t=dQ a b t'↔t%a=t'%a/\t%b=t'%b:=
 ⟨λh=>⟨ue ha (congrArg Prod.fst h),ue hb (congrArg Prod.snd h)⟩,λh=>by rw[dQ,dQ,uf h.1,uf h.2]⟩
theorem p5{m:Nat}(ha:0<a)(hb:0<b)(hm:m<=Nk a b):((M4 m).map (dQ a b)).Nodup:=by
 unfold List.Nodup;rw[List.pairwise_map];refine List.Pairwise.imp_of_mem (λ{u v} hu hv h e=>?_) List.pairwise_lt_range;have hv:=OK.mp hv;obtain⟨e1,e2⟩:=(CC ha hb).mp e;have d:=Nat.lcm_dvd (Od (NX e1.symm)) (Od (NX e2.symm));have:=Nat.le_of_dvd (by lia) d
 lia
theorem yG(ha:0<a)(hb:0<b):dQ a b (Nk a b)=dQ a b 0:=(CC ha hb).mpr ⟨by rw[Pq];exact O9 (O1 a b),by rw[Pq];exact O9 (PB a b)⟩
end
theorem mF{ft:Ro->Option (Bool×Ro)}{fb:Ro->Option Res}{Q:Res->Prop}(I:Nat->Ro->Prop)(hs:∀m ρ,I m ρ->Wp (ft (clrN fg ρ)) λp=>(p.1=PY->Q (.nx p.2))/\(p.1=PX->Wp (fb p.2) λr=>(∃ρ' m',(r=.nx ρ'\/r=.ct ρ')/\m'<m/\I m' ρ')\/∃k d ρ',r=.rt k d ρ'/\Q (.rt k d ρ'))):∀n m ρ,m<n->I m ρ->Wp (gR fg ft fb n ρ) Q
 |0,m,ρ,h,_=>absurd h (OI _)
 |n+1,m,ρ,h,hI=>by
  obtain⟨⟨b,ρ1⟩,e1,q1,q2⟩:=hs m ρ hI
  cases b with
  |false=>exact⟨.nx ρ1,by unfold gR;rw[e1],q1 rfl⟩
  |true=>
   obtain⟨r,e2,hr⟩:=q2 rfl;rcases hr with⟨ρ',m',hr,hm,hI'⟩|⟨k,d,ρ',rfl,q⟩
   ·obtain⟨x,e3,q3⟩:=mF I hs n m' ρ' (by lia) hI';refine⟨x,?_,q3⟩;unfold gR;rw[e1];dsimp only at e2⊢;rw[e2]
    rcases hr with rfl|rfl<;>exact e3
   ·refine⟨_,?_,q⟩;unfold gR;rw[e1];dsimp only at e2⊢;rw[e2]
theorem CD{Γ:GG}{N:Nat}{pn:List Nat}{ρ:Ro}{Q:Res->Prop}{rest:bZ}{fg:List Nat}{t:MT}{b:bZ}(I:Nat->Ro->Prop){m0:Nat}(hm:m0<N)(h0:I m0 ρ)
  (hs:∀m ρ,I m ρ->Wp (bh Γ t (clrN fg ρ)) λp=>(p.1=PY->Wp (aP Γ N rest pn p.2) Q)/\(p.1=PX->Wp (aP Γ N b pn p.2) λr=>(∃ρ' m',(r=.nx ρ'\/r=.ct ρ')/\m'<m/\I m' ρ')\/∃k d ρ',r=.rt k d ρ'/\Q (.rt k d ρ'))):Wp (aP Γ N (.cons (.wh fg t b) rest) pn ρ) Q:=by
 obtain⟨r,e,q⟩:=mF (fg:=fg) (ft:=bh Γ t) (fb:=aP Γ N b pn) (Q:=Kt Γ N rest pn Q) I (λm ρ hI=>(hs m ρ hI).mono λp hp=>⟨hp.1,λe=>(hp.2 e).mono λr hr=>hr.imp id λ⟨k,d,ρ',e,q⟩=>⟨k,d,ρ',e,q⟩⟩) N m0 ρ hm h0;exact ck ⟨r,by rw[EN];exact e,q⟩
noncomputable abbrev iR(a b:Ci)(p:P)(i:Nat):P:=t9 a b p (rb a.ins i)
noncomputable abbrev vO(a b:Ci)(p:P)(i:Nat):Bool:=t7 a b p (rb a.ins i)
noncomputable abbrev JJ:=List (List (List Bool))
noncomputable def eW(r:List (List Bool)):D:=.lst (r.map λx=>.lst (x.map bD))
noncomputable def yH:Option (List (List Bool))->D
 |none=>.non
 |some r=>eW r
noncomputable def Gs(fs:List P):D:=.nd (.dic 4 (fs.map pk)) (fs.map λ_=>.bl PX)
theorem CF{fs:List P}{T:Bool->Prop}(q:T (!decide (p∈fs))):Wp (cu .NotIn (pY p) (Gs fs)) T:=by
 refine⟨!decide (p∈fs),?_,q⟩
 show(match lA (pY p) with|some k=>if uU 4 k=PX then PU (!(bN (fs.map pk) k).isSome) else PV|none=>PV)=_
 rw[oi,<- pZ];rfl
theorem FA{es:List Ow}{fs:List P}{p:P}(hp:p∉fs)(hl:fs.length<1000)(he:es.length<=fs.length):lG es .fz (.dic 4 (fs.map pk)) (fs.map λ_=>.bl PX) (pY p) (.sh,.bl PX)=PU (.dic 4 ((fs++[p]).map pk),(fs++[p]).map λ_=>.bl PX):=by
 have hf:bN (fs.map pk) (pk p)=PV:=by
  have:=pZ fs p;rw[decide_eq_false hp] at this
  cases e:bN (fs.map pk) (pk p) with
  |none=>rfl
  |some j=>rw[e] at this;cases this
 unfold lG;rw[oi];dsimp only;rw[if_pos ⟨rfl,by rw[MY];lia⟩,hf];dsimp only;rw[if_pos ⟨by rw[MY];exact he,rfl⟩,Nw,Nw];rfl
theorem yI{ds:List D}{P:List Nat×List D->Prop}(h:jK k ds=PX)(q:P (xt k,ds.mapIdx λi d=>D.tup [.int i,d])):Wp (uY (PU (k,.nd .lst ds))) P:=by
 refine⟨_,?_,q⟩
 show(if jK k ds=PX then PU (xt k,ds) else PV).map _=_
 rw[if_pos h];rfl
noncomputable abbrev RS(a b:Ci)(at_:Nat)(fs:List P)(rows:JJ)(x6 x7 x8 x9:Option Sl):Ro:=[PU ⟨PY,.fz,cD a⟩,PU ⟨PY,.fz,cD b⟩,PU ⟨PY,k0,.lst (fs.map aE)⟩,PU ⟨PY,k0,.lst (rows.map eW)⟩,PU ⟨PY,k0,Gs fs⟩,PU ⟨PY,.fz,iD at_⟩,x6,x7,x8,x9]
noncomputable abbrev aT(d:D):Option Sl:=PU ⟨PY,.fz,d⟩
theorem A6{a b:Ci}{at_:Nat}{fs:List P}{rows:JJ}{p:P}{r:List (List Bool)}{s:Nat}(ha:Ok a)(hr:rows[at_]?=PU r)(hrl:r.length<=1000)(hf:fs.length<=900)(hw:rows.length<=1000)(h3:vO a b p s=PX->iR a b p s∉fs->fs.length<300){Q:Res->Prop}
  (q1:vO a b p s=PY->∀ρ,Q (.rt .sh (.tup [eW (r++[rb a.ins s]),.lst (fs.map aE)]) ρ)) (q2:vO a b p s=PX->iR a b p s∉fs->∀x9,Q (.nx (RS a b at_ (fs++[iR a b p s]) (rows++[r++[rb a.ins s]]) (aT (iD s)) (aT (.bl PX)) (aT (aE (iR a b p s))) x9))) (q3:vO a b p s=PX->iR a b p s∈fs->∀x9,Q (.nx (RS a b at_ fs rows (aT (iD s)) (aT (.bl PX)) (aT (aE (iR a b p s))) x9))) :
  Wp (aP Γ_12 1000 (match b7 with|.cons _ (.cons _ (.cons _ (.cons _ (.cons _ (.cons (.wh _ _ (.cons (.fo _ _ _ c) _)) _)))))=>c|c=>c) [] (RS a b at_ fs rows (aT (iD s)) (aT (.bl (vO a b p s))) (aT (aE (iR a b p s))) PV)) Q:=by
 unfold b7;refine aY (aw (ak (aQ (aa rfl (aa rfl (aB (n:=at_) (d:=eW r) (.inl rfl) rfl (by rw[M0,hr];rfl) (aG (ac (cb (φ:=Gn) rfl (ac (aa rfl (ac (aQ (aa rfl (ad (aB (n:=0) (.inr rfl) rfl rfl (ae (bt ⟨_,mC ha.bi s,rfl,.inl rfl,ae (aC rfl (jl ⟨rfl,rfl,by simp;lia⟩ ⟨⟨rfl,by decide⟩,?_⟩))⟩))))))))))))))))));have e9:(r.map λx=>D.lst (x.map bD))++[D.lst ((rb a.ins s).map bD)]=(r++[rb a.ins s]).map λx=>D.lst (x.map bD):=by rw[Nw];rfl
 show Wp (aP _ _ _ [] (RS a b at_ fs rows (aT (iD s)) (aT (.bl (vO a b p s))) (aT (aE (iR a b p s))) (PU ⟨PY,k0,.lst ((r.map λx=>D.lst (x.map bD))++[D.lst ((rb a.ins s).map bD)])⟩))) _;rw[e9]
 cases hal:vO a b p s with
 |false=>
  refine bq (z:=PX) (nX (d7 rfl (aa rfl (n6 rfl rfl)))) (λ_=>?_) λe=>by cases e
  exact a9 (jm (aD (gy rfl ⟨rfl,aU (gy rfl (ae (bY rfl ⟨rfl,dY (q1 hal _)⟩)))⟩)))
 |true=>
  refine bq (z:=PY) (nX (d7 rfl (aa rfl (n6 rfl rfl)))) (λe=>by cases e) λ_=>bE ?_;have hke:=oj (iR a b p s);refine bq (z:=!decide (iR a b p s∈fs)) (aI (cb (φ:=AU) rfl (ac (aa rfl (ae (bt ⟨_,hke,rfl,.inl rfl,aa rfl (CF rfl)⟩)))))) (λe=>?_) λe=>bE (bn ?_)
  ·have hq:iR a b p s∉fs:=by simpa using e
   refine gz (aw (cb (φ:=ψ9) rfl (ac (ak (bv (ac (aa rfl (ae (ci (ad (bL (ae (bt ⟨(.sh,.non),?_,rfl,.inl rfl,?_⟩)))))))))))))
   ·show ψ9 [.int (((fs.map aE).length:Int)+1)]=_;rw[MY];exact A3 (n:=fs.length+1) (h3 hal hq)
   refine tS (aw (ad (AT rfl (cb (φ:=AU) rfl (ac (aa rfl (ae (bt ⟨_,hke,rfl,.inl rfl,n4 rfl rfl rfl (n5 (FA hq (by lia) (NG _)) ?_)⟩))))))));refine gz (jQ (aa rfl ⟨[],.fz,_,rfl,⟨NG _,rfl,by rw[MY];lia⟩,?_⟩));refine gz (yr rfl (gy rfl ⟨[],.fz,_,rfl,⟨NG _,rfl,by rw[MY];lia⟩,bn (cP (bn ?_))⟩));have e1:fs.map aE++[aE (iR a b p s)]=(fs++[iR a b p s]).map aE:=by rw[Nw];rfl
   have e2:rows.map eW++[D.lst ((r++[rb a.ins s]).map λx=>D.lst (x.map bD))]=(rows++[r++[rb a.ins s]]).map eW:=(Nw (f:=eW) (l₁:=rows) (l₂:=[r++[rb a.ins s]])).symm;show Q (.nx [PU ⟨PY,.fz,cD a⟩,PU ⟨PY,.fz,cD b⟩,PU ⟨PY,k0,.lst (fs.map aE++[aE (iR a b p s)])⟩,PU ⟨PY,k0,.lst (rows.map eW++[D.lst ((r++[rb a.ins s]).map λx=>D.lst (x.map bD))])⟩,PU ⟨PY,k0,Gs (fs++[iR a b p s])⟩,PU ⟨PY,.fz,iD at_⟩,aT (iD s),aT (.bl PX),aT (aE (iR a b p s)),PV]);rw[e1,e2];exact q2 hal hq _
  ·have hq:decide (iR a b p s∈fs)=PX:=by simpa using e
   exact q3 hal (of_decide_eq_true hq) _
noncomputable def g8(a b m:Nat):List P:=(M4 m).map (dQ a b)
noncomputable def jB(I:Nat):List Bool:=M3 I PY
noncomputable def wc(I m:Nat):JJ:=(M4 m).map λt=>M3 t (jB I)
theorem eX{a b m:Nat}:(g8 a b m).length=m:=by simp[g8]
theorem A7{I m:Nat}:(wc I m).length=m:=by simp[wc]
theorem rO{a b m k:Nat}(h:k<m):(g8 a b m)[k]?=PU (dQ a b k):=by
 unfold g8;rw[M0,Np h];rfl
theorem yJ{I m k:Nat}(h:k<m):(wc I m)[k]?=PU (M3 k (jB I)):=by
 unfold wc;rw[M0,Np h];rfl
theorem fsR_succ{a b m:Nat}:g8 a b m++[dQ a b m]=g8 a b (m+1):=by unfold g8;rw[OH,Nw];rfl
theorem yK{I m:Nat}:wc I m++[M3 m (jB I)]=wc I (m+1):=by unfold wc;rw[OH,Nw];rfl
theorem A8{I:Nat}:rb I 0=jB I:=by
 unfold rb jB;rw[List.eq_replicate_iff];refine⟨by simp,λb hb=>?_⟩;obtain⟨k,_,rfl⟩:=NK.mp hb;exact Nat.zero_testBit _
theorem p6{I k:Nat}:M3 k (jB I)++[rb I 0]=M3 (k+1) (jB I):=by rw[A8,List.replicate_succ']
theorem yL{a b m t:Nat}(h:t<m):dQ a b t∈g8 a b m:=NS (rO h)
theorem uh{a b k:Nat}(ha:0<a)(hb:0<b)(h:k+1<Nk a b):dQ a b (k+1)∉g8 a b (k+1):=λz=>by
 have nd:=p5 (m:=k+2) ha hb h;have e:(M4 (k+2)).map (dQ a b)=g8 a b (k+1)++[dQ a b (k+1)]:=fsR_succ.symm;rw[e,List.nodup_append] at nd;exact nd.2.2 _ z _ (List.mem_singleton_self _) rfl
noncomputable def lH(a b k:Nat):Nat:=if k+1<Nk a b then k+2 else k+1
structure Rg(I a b:Nat)(os:List (Option Nat)):Prop where
 a0:0<a
 b0:0<b
 a1:a<=100
 b1:b<=100
 i:I<=6
 o:os.length<=100
theorem Rg.oa{I a b:Nat}{os:List (Option Nat)}(h:Rg I a b os):Ok (aJ I a os):=CA h.a0 h.a1 h.i h.o
theorem Rg.ob{I a b:Nat}{os:List (Option Nat)}(h:Rg I a b os):Ok (aJ I b os):=CA h.b0 h.b1 h.i h.o
noncomputable abbrev RT(I a b:Nat)(os:List (Option Nat))(k m:Nat)(x6 x7 x8 x9:Option Sl):Ro:=RS (aJ I a os) (aJ I b os) k (g8 a b m) (wc I m) x6 x7 x8 x9
theorem FB{a b k:Nat}:k+1<=lH a b k/\lH a b k<=k+2:=by unfold lH;split<;>lia
theorem ol{a b k:Nat}(ha:0<a)(hb:0<b)(hk:k+1<=Nk a b):dQ a b (k+1)∈g8 a b (lH a b k):=by
 unfold lH;split
 ·exact yL (by lia)
 ·rw[show k+1=Nk a b by lia,yG ha hb];exact yL (Ps λz=>by lia)
theorem ui{I a b k:Nat}{os:List (Option Nat)}{x9:Option Sl}(h:Rg I a b os)(hk:k+1<=Nk a b)(hk3:k<=300)(h3:d8 a b os k=PX->k+1<Nk a b->k+1<300){Q:Res->Prop}
  (q1:d8 a b os k=PY->∀(fs':List P) ρ,Q (.rt .sh (.tup [eW (M3 (k+1) (jB I)),.lst (fs'.map aE)]) ρ)) (q2:d8 a b os k=PX->∀x6 x7 x8 x9,Q (.nx (RT I a b os (k+1) (lH a b k) x6 x7 x8 x9))) :
  Wp (aP Γ_12 1000 (match b7 with|.cons _ (.cons _ (.cons _ (.cons _ (.cons _ (.cons (.wh _ _ c) _)))))=>c|c=>c) [] (RT I a b os k (k+1) PV PV PV x9)) Q:=by
 have body:=@A6 (aJ I a os) (aJ I b os) k;unfold b7 at body⊢;have hnx:=FB (a:=a) (b:=b) (k:=k);have eal:∀s,vO (aJ I a os) (aJ I b os) (dQ a b k) s=d8 a b os k:=λs=>p0 h.a0 h.b0 og;have enx:∀s,iR (aJ I a os) (aJ I b os) (dQ a b k) s=dQ a b (k+1):=λs=>ug h.a0 h.b0 og;refine rG (fc (rA (cb (φ:=Gp) rfl (ac (aa rfl (ac (aa rfl (ac (aQ (aa rfl (aa rfl (aB (n:=k) (d:=aE (dQ a b k)) (.inl rfl) rfl (by rw[M0,rO (NR k)];rfl) (ae (bt ⟨_,ua h.oa h.ob rfl (by rw[gf,eV]) (by rw[gf,eV]),rfl,.inl rfl,yI rfl ⟨λs ρ=>∃m x6 x7 x8 x9,ρ=RT I a b os k m x6 x7 x8 x9/\(s=0->m=k+1)/\(0<s->m=lH a b k/\d8 a b os k=PX),λkd d ρ=>kd=.sh/\∃fs':List P,d=.tup [eW (M3 (k+1) (jB I)),.lst (Oz aE fs')]/\d8 a b os k=PY,⟨k+1,PV,PV,PV,x9,rfl,λ_=>rfl,λz=>absurd z (NU _)⟩,λs d ρ hd hI=>?_,λρ hI=>?_,λkd d ρ hR=>?_⟩⟩))))))))))))))
 ·obtain⟨m,x6,x7,x8,x9,rfl,hm0,hm1⟩:=hI;have hd:(((M4 (2^I)).map (A4 (aJ I a os) (aJ I b os) (dQ a b k))).mapIdx λi d=>D.tup [.int i,d])[s]?=PU d:=hd;rw[OC,M0] at hd
  cases e:(M4 (2^I))[s]? with
  |none=>rw[e] at hd;cases hd
  |some s'=>
   have hs:=(MZ.mp e).1;rw[Nn] at hs;rw[Np hs] at hd;cases hd;refine⟨[(6,iD s),(7,.bl (vO (aJ I a os) (aJ I b os) (dQ a b k) s)),(8,aE (iR (aJ I a os) (aJ I b os) (dQ a b k) s))],rfl,rfl,?_⟩
   have hm:k<m/\m<=k+2:=by
    rcases Oc s with z|z
    ·have:=hm0 z;lia
    ·have:=(hm1 z).1;lia
   refine body (s:=s) (p:=dQ a b k) (r:=M3 k (jB I)) h.oa (yJ hm.1) (by rw[N1];lia) (by rw[eX];lia) (by rw[A7];lia) (λhal hni=>?_) (λhal ρ=>?_) (λhal hni x9=>?_) λhal hin x9=>?_
   ·rw[eal] at hal;rw[enx] at hni;rw[eX];rcases Oc s with z|z
    ·rw[hm0 z] at hni⊢;refine h3 hal (Decidable.byContradiction λw=>hni ?_);have:=ol (a:=a) (b:=b) (k:=k) h.a0 h.b0 hk;unfold lH at this;rwa [if_neg w] at this
    ·rw[(hm1 z).1] at hni;exact absurd (ol h.a0 h.b0 hk) hni
   ·rw[eal] at hal;rcases Oc s with z|z
    ·refine .inr ⟨.sh,_,ρ,rfl,rfl,g8 a b m,?_,hal⟩;rw[z];show D.tup [eW (M3 k (jB I)++[rb I 0]),_]=_;rw[p6]
    ·rw[(hm1 z).2] at hal;cases hal
   ·rw[eal] at hal;rw[enx] at hni;rcases Oc s with z|z
    ·have hm':=hm0 z;subst hm'
     have hlt:k+1<Nk a b:=Decidable.byContradiction λw=>hni (by
      have:=ol (a:=a) (b:=b) (k:=k) h.a0 h.b0 hk;unfold lH at this;rwa [if_neg w] at this)
     refine .inl ⟨_,.inl rfl,k+2,aT (iD s),aT (.bl PX),aT (aE (iR (aJ I a os) (aJ I b os) (dQ a b k) s)),x9,?_,λw=>absurd w (PK s),λ_=>⟨by unfold lH;rw[if_pos hlt],hal⟩⟩;have e1:g8 a b (k+1)++[iR (aJ I a os) (aJ I b os) (dQ a b k) s]=g8 a b (k+2):=by rw[enx];exact fsR_succ
     have e2:wc I (k+1)++[M3 k (jB I)++[rb (aJ I a os).ins s]]=wc I (k+2):=by
      rw[z];show wc I (k+1)++[M3 k (jB I)++[rb I 0]]=_;rw[p6];exact yK
     rw[e1,e2]
    ·rw[(hm1 z).1] at hni;exact absurd (ol h.a0 h.b0 hk) hni
   ·rw[eal] at hal;rw[enx] at hin;refine .inl ⟨_,.inl rfl,m,aT (iD s),aT (.bl PX),aT (aE (iR (aJ I a os) (aJ I b os) (dQ a b k) s)),x9,rfl,λw=>absurd w (PK s),λ_=>⟨?_,hal⟩⟩;rcases Oc s with z|z
    ·rw[hm0 z] at hin⊢;unfold lH;rw[if_neg λw=>uh h.a0 h.b0 w hin]
    ·exact(hm1 z).1
 ·obtain⟨m,x6,x7,x8,x9,rfl,hm0,hm1⟩:=hI;have hl:(((M4 (2^I)).map (A4 (aJ I a os) (aJ I b os) (dQ a b k))).mapIdx λi d=>D.tup [.int i,d]).length=2^I:=by rw[List.length_mapIdx,MY,Nn]
  have hm1:0<(((M4 (2^I)).map (A4 (aJ I a os) (aJ I b os) (dQ a b k))).mapIdx λi d=>D.tup [.int i,d]).length->m=lH a b k/\d8 a b os k=PX:=hm1;obtain⟨rfl,hal⟩:=hm1 (by rw[hl];exact Oo I);show Wp (aP _ _ _ [] (RT I a b os k (lH a b k) PV PV PV PV)) _;exact Iy rfl (aw (ad ⟨by decide,⟨.int ((k:Int)+1),rfl,bn (q2 hal PV PV PV PV)⟩⟩))
 ·obtain⟨rfl,fs',rfl,hF⟩:=hR;exact⟨rfl,q1 hF fs' _⟩
open PySem L2 J
theorem Je{Γ:GG}{N:Nat}{pn:List Nat}{ρ:Ro}{Q:Res->Prop}{rest:bZ}{is:List Nat}{s:IS}(h:Wp (aP Γ N (.cons s rest) pn (frzN is ρ)) Q):Wp (aP Γ N (.cons (.pre is s) rest) pn ρ) Q:=by
 obtain⟨r,e,q⟩:=h;refine⟨r,?_,q⟩;rw[aP] at e⊢;rw[show dh Γ N (.pre is s) pn ρ=dh Γ N s pn (frzN is ρ) by rw[AI]];exact e
section
variable {Γ:Nat->Option Fn} {ρ:Ro} {a b:IE} {r:gg} {T:Bool->Prop}
theorem we{i:Nat}{φ:Fn}{x:KD}{Q:KD->Prop}(hΓ:Γ i=PU φ)(he:Wp (aW Γ es ρ) λkds=>kds.map (·.2)=ds/\(kds.all λp=>oy p.1 p.2)=PX)(hφ:φ ds=PU x)(hb:bX x.1=PY)(q:Q x):Wp (aj Γ (.fn i es) ρ) Q:=
 cb hΓ (he.mono λkds hk=>bt ⟨x,by rw[hk.1];exact hφ,hb,.inl hk.2,q⟩)
end
noncomputable def vP(a b k:Nat):Nat:=if k<Nk a b then k+1 else Nk a b
theorem A9{a b k:Nat}(h:k<Nk a b):lH a b k=vP a b (k+1):=by unfold lH vP;split<;>lia
theorem uj{a b:Nat}(ha:0<a)(hb:0<b):0<Nk a b:=Ps λz=>by
 have:=O1 a b;have h2:=p5 (m:=0) ha hb (NG _);rw[z] at this;have h3:a*b=0:=by rw[<- Nat.gcd_mul_lcm a b,z,Nat.mul_zero]
 have:=Nat.mul_pos ha hb
 lia
noncomputable def rP(a b:Nat)(os:List (Option Nat)):Prop:=∀k,k+1<Nk a b->(∀j,j<=k->d8 a b os j=PX)->k+1<300
theorem lp{I a b:Nat}{os:List (Option Nat)}(h:Rg I a b os)(hF:rP a b os){R:KD->Prop}
  (q1:∀T (fs':List P),T<Nk a b->(∀j,j<T->d8 a b os j=PX)->d8 a b os T=PY->R (.sh,.tup [eW (M3 (T+1) (jB I)),.lst (fs'.map aE)])) (q2:(∀j,j<Nk a b->d8 a b os j=PX)->R (.sh,.tup [.non,.lst ((g8 a b (Nk a b)).map aE)])):Wp (ψ7 [cD (aJ I a os),cD (aJ I b os)]) R:=by
 have hL:=uj h.a0 h.b0
 have few:∀k,k<Nk a b->(∀j,j<k->d8 a b os j=PX)->k<=300:=λk hk hA=>by
  cases k with
  |zero=>lia
  |succ k=>have:=hF k hk (λj hj=>hA j (by lia));lia
 unfold ψ7;refine dB rfl ?_;have turn:=@ui I a b;unfold b7 at turn⊢
 walk_at "nm"
 refine gz (aw (we (φ:=ψ8) (ds:=[cD (aJ I a os),cD (aJ I b os)]) rfl (ac (aa rfl (ac (aa rfl (ae ⟨rfl,rfl⟩))))) (mE h.oa rfl (by simp[aJ])) rfl ?_));refine aY (aw (aG (ac (dO (ac (we (φ:=ψ1) (ds:=[cD (aJ I a os)]) rfl (ac (aa rfl (ae ⟨rfl,rfl⟩))) (iM h.oa) rfl (ac (we (φ:=ψ1) (ds:=[cD (aJ I b os)]) rfl (ac (aa rfl (ae ⟨rfl,rfl⟩))) (iM h.ob) rfl (ae (bY rfl (ae (aC rfl ⟨⟨rfl,by decide⟩,?_⟩))))))))))));refine aY (aw (aG (ac (aG (ae (aC rfl (ae (aC rfl ⟨⟨rfl,by decide⟩,?_⟩))))))));rw[iN h.a0,iN h.b0];refine aY (aw (t6 (cb (φ:=AU) rfl (ac (aQ (aa rfl (ad (aB (n:=0) (d:=aE (dQ a b 0)) (.inl rfl) rfl rfl (ae (bt ⟨_,oj (dQ a b 0),rfl,.inl rfl,ad ⟨(.fr bQ,Gs [dQ a b 0]),?_,⟨rfl,by decide⟩,?_⟩⟩))))))))))
 ·unfold js;dsimp only;rw[oi];rfl
 refine aY (aw (ad ⟨⟨rfl,by decide⟩,?_⟩));show Wp (aP _ _ _ [] (RT I a b os 0 1 PV PV PV PV)) _;refine CD (λm ρ=>∃k x6 x7 x8 x9,ρ=RT I a b os k (vP a b k) x6 x7 x8 x9/\k<=Nk a b/\k<=301/\m+k=302/\∀j,j<k->d8 a b os j=PX) (m0:=302) (by decide) ⟨0,PV,PV,PV,PV,by rw[vP,if_pos hL],NG _,by decide,rfl,λj hj=>absurd hj (OI _)⟩ λm ρ hI=>?_;obtain⟨k,x6,x7,x8,x9,rfl,hkL,hk1,hme,hA⟩:=hI;show Wp (bh _ _ (RT I a b os k (vP a b k) PV PV PV x9)) _;refine fS (aI (aa rfl (bv (ac (aa rfl (ae (ci (yp ⟨λe=>?_,λe=>?_⟩))))))))
 ·have hat:¬(k:Int)<(((g8 a b (vP a b k)).map aE).length:Int):=of_decide_eq_false e;rw[MY,eX] at hat
  have hk:k=Nk a b:=by unfold vP at hat;split at hat<;>lia
  have hc:vP a b k=Nk a b:=by unfold vP;rw[if_neg (by lia)]
  rw[hc];exact a9 (jm (aD (aw (ad ⟨rfl,aU (gy rfl (ae (bY rfl ⟨rfl,bw rfl (q2 λj hj=>hA j (by lia))⟩)))⟩))))
 ·have hat:(k:Int)<(((g8 a b (vP a b k)).map aE).length:Int):=of_decide_eq_true e;rw[MY,eX] at hat
  have hk:k<Nk a b:=by unfold vP at hat;split at hat<;>lia
  have hc:vP a b k=k+1:=by unfold vP;rw[if_pos hk]
  rw[hc];have h300:=few k hk hA;refine turn h hk h300 (λhal hlt=>hF k hlt λj hj=>?_) (λhal fs' ρ=>.inr ⟨_,_,_,rfl,bw rfl (q1 k fs' hk hA hal)⟩) λhal x6 x7 x8 x9=>.inl ⟨_,m-1,.inl rfl,by lia,k+1,x6,x7,x8,x9,by rw[A9 hk],by lia,by lia,by lia,λj hj=>?_⟩
  ·by_cases e:j=k
   ·rw[e];exact hal
   ·exact hA j (by lia)
  ·by_cases e:j=k
   ·rw[e];exact hal
   ·exact hA j (by lia)
theorem mH{fs:List P}(h:ψ7 [cD a,cD b]=PU (.sh,.tup [yH row,.lst (fs.map aE)])):ψ5 [cD a,cD b]=PU (.sh,yH row):=by
 unfold ψ5;refine cr (dB rfl ?_);unfold b5
 walk_at "nm"
 refine rF (aw (cb (φ:=ψ7) rfl (ac (aa rfl (ac (aa rfl (ae (bt ⟨_,h,rfl,.inl rfl,_,_,_,rfl,rfl,⟨rfl,rfl⟩,?_⟩))))))))
 exact a9 (aw (aa rfl ⟨by cases row<;>rfl,by cases row<;>exact bw rfl rfl⟩))
noncomputable def FC(row:Option (List (List Bool)))(fs:List P):D:=match row with
 |none=>.lst (fs.map aE)
 |some _=>.non
theorem p7{fs:List P}(h:ψ7 [cD a,cD b]=PU (.sh,.tup [yH row,.lst (fs.map aE)])):ψ6 [cD a,cD b]=PU (.sh,FC row fs):=by
 unfold ψ6;refine cr (dB rfl ?_);unfold b6
 walk_at "nm"
 refine rF (aw (cb (φ:=ψ7) rfl (ac (aa rfl (ac (aa rfl (ae (bt ⟨_,h,rfl,.inl rfl,_,_,_,rfl,rfl,⟨rfl,rfl⟩,?_⟩))))))))
 cases row with
 |none=>exact a9 (aw (k7 (aI (aa rfl (ad (cH ⟨λ_=>aa rfl ⟨rfl,bw rfl rfl⟩,λe=>by cases e⟩))))))
 |some r=>exact a9 (aw (k7 (aI (aa rfl (ad (cH ⟨λe=>(by cases e),λ_=>ad ⟨rfl,bw rfl rfl⟩⟩))))))
noncomputable def qh(d:D):Prop:=∃(xs:List Int) (s:Int),d=.lst ((xs++[s]).map D.int)/\(∀x∈xs,0<=x)/\0<=s/\s<2305843009213693951
theorem Ba{ρ:Ro}{i:Nat}{Q:Kd×D×Ro->Prop}(h:ρ[i]?=PU (PU ⟨PY,k0,.nd .lst (d::ds)⟩))(q:Q (.sh,d,ρ.set i (PU ⟨PY,k0,.lst ds⟩))):Wp (ba Γ (.mut "pop" (.nm i) (.cons (.lit (.int 0)) .nil)) ρ) Q:=by
 refine⟨_,?_,q⟩;rw[nJ,aW,aW,sK];show lD "pop" i (qX Γ.fn (.nm i) ρ) (PU [(.sh,.int 0)]) ρ=_;rw[qX,h]
 show(match nI "pop" [] .fz (d::ds) [(.sh,.int 0)],ρ[i]? with|some (d',ds'),PU (PU ⟨PY,k,_⟩)=>PU (Kd.sh,d',ρ.set i (PU ⟨PY,k,id (.lst ds')⟩))|_,_=>PV)=_
 have e0:seqIndex? 0 (d::ds).length=PU 0:=by unfold seqIndex?;simp
 have:nI "pop" [] .fz (d::ds) [(.sh,.int 0)]=PU (d,ds):=by
  show(if l0 (.own [] .fz)=PX/\-(2^63)<=(0:Int)/\(0:Int)<2^63 then(match seqIndex? 0 (d::ds).length with|some j=>((d::ds)[j]?).map λx=>(x,(d::ds).eraseIdx j)|none=>PV) else PV)=_
  rw[if_pos ⟨rfl,by decide,by decide⟩,e0];rfl
 rw[this,h];rfl
theorem Bb{m:Nat}{Q:Kd×D×List (Option nC)->Prop}(h:qh d)(hm:0<m)(hm2:m<2^64)(q:∀(r:Nat) d',r<m->qh d'->Q (.sh,iD r,[PU (k0,d'),PV])):Wp (Gq [(k0,d),(.fz,iD m)]) Q:=by
 have ml:((m:Nat):Int).natAbs<lim:=by
  rw[Ob];exact Oq hm2 (by unfold lim;decide)
 have rr:∀z:Int,∃r:Nat,z%(m:Int)=(r:Int)/\r<m:=λz=>by
  have h1:=O5 z (show(m:Int)≠0 by lia);have h2:=OP z (show(0:Int)<(m:Int) by lia);exact⟨(z%(m:Int)).toNat,by lia,by lia⟩
 obtain⟨xs,s,rfl,hx,hs0,hs1⟩:=h;unfold Gq;refine IA rfl ?_;unfold Lp
 walk_at "nm"
 cases xs with
 |nil=>
  refine bq (z:=PY) (aI (bv (ac (aa rfl (ae (ci (ad (fP rfl)))))))) (λe=>by cases e) λ_=>bE ?_
  have hl1:s.natAbs<lim:=by
   have h1:s.natAbs<2^64:=by lia
   exact Oq h1 (by unfold lim;decide)
  refine tS (aw (ak (ak (ak (aQ (aa rfl (ad (aB (n:=0) (d:=.int s) (.inl rfl) rfl rfl (ad (jk ⟨hl1,by decide⟩ (ad (bL (ad (cI (by decide) (AT rfl (ad (n4 rfl rfl rfl (n5 rfl ?_))))))))))))))))));have h1:=O5 (s*1181783497276652981+12345678910987) (show(2305843009213693951:Int)≠0 by decide);have h2:=OP (s*1181783497276652981+12345678910987) (show(0:Int)<2305843009213693951 by decide);generalize (s*1181783497276652981+12345678910987)%2305843009213693951=t at h1 h2⊢;obtain⟨r,e,hr⟩:=rr (t / 65537);show Wp (aP _ _ _ _ [PU ⟨PY,k0,.lst [.int t]⟩,aT (iD m),PV]) _;refine a9 (aw (ak (ak (aQ (aa rfl (ad (aB (n:=0) (d:=.int t) (.inl rfl) rfl rfl (ad (nY ⟨by decide,by decide⟩ (aa rfl (cI (by lia) ⟨rfl,jA rfl ?_⟩)))))))))));show Q (.sh,.int (t / 65537%(m:Int)),_);rw[e];exact q r (.lst [.int t]) hr ⟨[],t,rfl,λx hx=>by simp at hx,h1,h2⟩
 |cons x xs=>
  have hx0:=hx x Nm;refine bq (z:=PX) (aI (bv (ac (aa rfl (ae (ci (ad (fP (decide_eq_true ?_))))))))) (λ_=>?_) λe=>by cases e
  ·rw[MY];simp;lia
  obtain⟨r,e,hr⟩:=rr x;refine aY (aw (ak (aQ (aa rfl (ad (aB (n:=0) (d:=.int x) (.inl rfl) rfl rfl (aa rfl (cI (by lia) ⟨⟨rfl,by decide⟩,?_⟩))))))));rw[e];refine tS (aw (ak (aQ (aa rfl (ad (aB (n:=0) (d:=.int x) (.inl rfl) rfl rfl (aa rfl (nY ⟨by lia,ml⟩ (AT rfl (ad (n4 rfl rfl rfl (n5 (r:=(.lst,.int (x / (m:Int))::(xs++[s]).map D.int)) ?_ ?_))))))))))))
  ·show(match kn ((x::xs++[s]).map D.int).length 0 with|some j=>if dc .fz (.sh,.int (x / (m:Int)))=PX then PU (Hd.lst,((x::xs++[s]).map D.int).set j (.int (x / (m:Int)))) else PV|none=>PV)=_
   rw[n0 (by decide) (by simp;lia)];rfl
  have hq0:0<=x / (m:Int):=Int.ediv_nonneg hx0 (by lia);have hxs:∀y∈xs,0<=y:=λy hy=>hx y (Ng _ hy);show Wp (aP _ _ _ _ [PU ⟨PY,k0,.lst (.int (x / (m:Int))::(xs++[s]).map D.int)⟩,aT (iD m),aT (iD r)]) _;refine bq (z:=decide (x / (m:Int)=0)) (aI (aQ (aa rfl (ad (aB (n:=0) (d:=.int (x / (m:Int))) (.inl rfl) rfl rfl (ad (eE rfl))))))) (λ_=>?_) λ_=>bE ?_
  ·refine gz (Ba rfl (bn (cP (a9 (aw (aa rfl ⟨rfl,dY (jA rfl (q r _ hr ⟨xs,s,rfl,hxs,hs0,hs1⟩))⟩))))))
  ·refine a9 (aw (aa rfl ⟨rfl,dY (jA rfl (q r _ hr ⟨x / (m:Int)::xs,s,rfl,λy hy=>?_,hs0,hs1⟩))⟩));rcases M7.mp hy with rfl|hy
   ·exact hq0
   ·exact hxs y hy
theorem iO{Γ:GG}{ρ:Ro}{i m:Nat}{Q:Kd×D×Ro->Prop}(hΓ:Γ.fm 15=PU Gq)(hρ:ρ[i]?=PU (PU ⟨PY,k0,d⟩))(h:qh d)(he:Wp (aj Γ.fn e ρ) λx=>x=(.sh,iD m))(hm:0<m)(hm2:m<2^64)(q:∀(r:Nat) d',r<m->qh d'->Q (.sh,iD r,ρ.set i (PU ⟨PY,k0,d'⟩))):Wp (ba Γ (.io 15 (.ref i (.val (.p e) .nil))) ρ) Q:=by
 refine Co hΓ (rE hρ (yt (aw (he.mono λx hx=>?_))));subst hx;refine⟨rfl,rD ⟨by simp[dS],[(k0,d),(.fz,iD m)],?_,Bb h hm hm2 λr d' hr hs=>⟨rfl,rfl,q r d' hr hs⟩⟩⟩
 show(match ρ[i]?,PU [((.fz:Ow),iD m)] with|some (PU ⟨PY,k,d⟩),PU ks=>PU ((k,d)::ks)|_,_=>PV)=_
 rw[hρ]
theorem CG{f:D->Option (Option KD)}(P:D->Prop):∀{ds:List D},(∀d∈ds,Wp (f d) λo=>o=PV\/∃kd,o=PU kd/\dc r kd=PX/\P kd.2)->Wp (a8 r f ds) λys=>ys.length<=ds.length/\∀y∈ys,P y
 |[],_=>⟨[],rfl,M8 _,λy hy=>by simp at hy⟩
 |d::ds,h=>by
  obtain⟨ys,e1,l1,p1⟩:=CG P (ds:=ds) λx hx=>h x (Ng _ hx);obtain⟨o,e2,ho⟩:=h d Nm;rcases ho with rfl|⟨kd,rfl,hf,hp⟩
  ·exact⟨ys,by simp[a8,e1,e2],by simp;lia,p1⟩
  ·refine⟨kd.2::ys,by simp[a8,e1,e2,hf],by simp;lia,λy hy=>?_⟩;rcases M7.mp hy with rfl|hy
   ·exact hp
   ·exact p1 y hy
theorem FD{ft:Ro->Option Bool}{fe:Ro->Option KD}{Q:Option KD->Prop}(h1:nA tg d=PU ps)(h2:dH ps ρ0=PX)(h:Wp (ft (setAll ps ρ0)) λb=>(b=PX->Wp (fe (setAll ps ρ0)) λx=>Q (PU x))/\(b=PY->Q PV)):Wp (eM tg ft fe ρ0 d) Q:=by
 obtain⟨b,eb,q1,q2⟩:=h
 cases b with
 |true=>exact yu h1 h2 eb (q1 rfl)
 |false=>exact⟨PV,by unfold eM;rw[h1];dsimp only;rw[if_pos h2,eb],q2 rfl⟩
theorem yM{Q:KD->Prop}{i:Int}(q:Q (.sh,.int (if i<0 then -i else i))):Wp (jD "abs" [(k,.int i)]) Q:=⟨_,rfl,q⟩
theorem uk:∀{ys:List D},(∀y∈ys,∃z:Int,y=.int z/\0<=z)->∃zs:List Int,ys=zs.map D.int/\∀z∈zs,0<=z
 |[],_=>⟨[],rfl,λz hz=>by simp at hz⟩
 |y::ys,h=>by
  obtain⟨zs,rfl,hz⟩:=uk (ys:=ys) λx hx=>h x (Ng _ hx);obtain⟨z,rfl,h0⟩:=h y Nm;exact⟨z::zs,rfl,λx hx=>(M7.mp hx).elim (λe=>e▸h0) (hz x)⟩
theorem yN{ns:List Int}(hl:ns.length<=63){Q:KD->Prop}(q:∀d,qh d->Q (.fr k0,d)):Wp (IQ [.scr ns]) Q:=by
 obtain⟨ms,em,lm⟩:∃ms:List Int,qH (ns.map D.int) PV (PU 63)=ms.map D.int/\ms.length<=63:=by
  refine⟨(ns.drop (HT.lu (ns.map D.int).length 0 PV)).take (HT.lu (ns.map D.int).length (ns.map D.int).length (PU 63)-HT.lu (ns.map D.int).length 0 PV),?_,?_⟩
  ·unfold qH;rw[List.map_take,List.map_drop]
  ·rw[NN,PF];lia
 have hsl:∀{Γ:Nat->Option Fn} {ρ:Ro} {R:KD->Prop},ρ[0]?=PU (PU ⟨PY,.fz,.scr ns⟩)->R (.fr bQ,.lst (ms.map D.int))->Wp (aj Γ (.sl (.var 0) .non (.som (.lit (.int 63)))) ρ) R:=λh q=>Cm (aa h (rs (yn (ad ⟨63,rfl,⟨(.fr bQ,.lst (qH (ns.map D.int) PV (PU 63))),rfl,by rw[em];exact q⟩⟩))));unfold IQ;refine dB rfl ?_;unfold Ls
 walk_at "nm"
 refine aY (aw (ad ⟨⟨rfl,by decide⟩,?_⟩));refine my (fc (pS (hsl rfl (g6 rfl ⟨λs ρ=>∃(t:Int) (x2:Option Sl),ρ=[aT (.scr ns),aT (.int t),x2]/\0<=t/\t<2305843009213693951,⟨1000003,PV,rfl,by decide,by decide⟩,λs d ρ hd hI=>?_,λρ hI=>?_⟩))))
 ·obtain⟨t,x2,rfl,h0,h1⟩:=hI;have hd:(ms.map D.int)[s]?=PU d:=hd;rw[M0] at hd
  cases e:ms[s]? with
  |none=>rw[e] at hd;cases hd
  |some z=>
   rw[e] at hd;cases hd;refine⟨[(2,.int z)],rfl,rfl,?_⟩;show Wp (aP _ _ _ [] [aT (.scr ns),aT (.int t),aT (.int z)]) _;have hl1:t.natAbs<lim:=Oq (show t.natAbs<2^64 by lia) (by unfold lim;decide);refine aY (aw (ak (ak (ak (ak (aa rfl (ad (jk ⟨hl1,by decide⟩ (ak (aa rfl (ak (ad (ad (rB (by decide) (cI (by decide) (bL (ad (bL (ad (cI (by decide) ⟨⟨rfl,by decide⟩,bn ⟨_,.inl rfl,_,_,rfl,O5 _ (by decide),OP _ (by decide)⟩⟩))))))))))))))))))))
 ·obtain⟨t,x2,rfl,h0,h1⟩:=hI;refine a9 (aw (ak (jP (pS (hsl rfl (g6 rfl ⟨by rw[MY];lia,(CG (λy=>∃z:Int,y=.int z/\0<=z) λd hd=>?_).mono λys hy=>?_⟩))))))
  ·obtain⟨z,_,rfl⟩:=NK.mp hd;refine FD (ps:=[(1,.int z)]) rfl rfl (aI (bv (ac (aa rfl (ae (yM (ak (ad (ad (rB (by decide) (Cn ⟨λ_=>bv (ac (aa rfl (ae (yM (.inr ⟨_,rfl,rfl,_,rfl,?_⟩))))),λ_=>.inl rfl⟩)))))))))))
   split<;>lia
  ·obtain⟨zs,rfl,hz⟩:=uk hy.2;rw[MY,MY] at hy;refine aG (ac (aa rfl (ae (aC rfl (jl ⟨rfl,rfl,by simp;lia⟩ ⟨rfl,bw rfl (q _ ⟨zs,t,?_,hz,h0,h1⟩)⟩)))));rw[Nw];rfl
noncomputable def pl:Nat->D->Bool
 |_,.int _=>PX
 |n+1,.nd .lst ds=>decide (ds.length<=1000)&&ds.all (pl n)
 |n+1,.nd .tup ds=>decide (ds.length<=1000)&&ds.all (pl n)
 |_,_=>PY
noncomputable def LU:D->Kd
 |.nd .lst _=>.fr k0
 |.nd .tup _=>.fr (.own [] k0)
 |_=>.sh
theorem Bc:∀(n:Nat) (d:D),pl n d=PX->recI Γ_16 17 1000 1 1 v8 (n+1) [d]=PU (LU d,d):=by
 intro n
 induction n with
 |zero=>
  intro d h
  cases d with
  |int i=>
   show cw (Γ_16.addI 17 (recI Γ_16 17 1000 1 1 v8 0)) 1000 1 1 v8 [.int i]=_;refine cr (dB rfl ?_);unfold v8
   walk_at "nm"
   exact bq (z:=PY) (d7 rfl (fN (aa rfl ⟨PY,rfl,PY,rfl,rfl⟩))) (λe=>by cases e) λ_=>bE (bq (z:=PY) (d7 rfl (fN (aa rfl ⟨PY,rfl,PY,rfl,rfl⟩))) (λe=>by cases e) λ_=>bE (a9 (aw (aa rfl ⟨rfl,bw rfl rfl⟩))))
  |nd hd ds=>cases hd<;>cases h
  |_=>cases h
 |succ n ih=>
  intro d h;show cw (Γ_16.addI 17 (recI Γ_16 17 1000 1 1 v8 (n+1))) 1000 1 1 v8 [d]=_;refine cr (dB rfl ?_);unfold v8
  walk_at "nm"
  have comp:∀{r:Ow} {hd:Hd} {ds:List D} {Q:KD->Prop},(hd=.lst\/hd=.tup)->ds.length<=1000->(∀x∈ds,pl n x=PX)->(∀x∈ds,dc r (LU x,x)=PX)->Q (.fr (.own [] r),.lst ds)->Wp (aj (Γ_16.addI 17 (recI Γ_16 17 1000 1 1 v8 (n+1))).fn (.comp r [PV,PV,PV] (.nm 1) (.e (.var 0)) .non (.fn 17 (.cons (.var 1) .nil))) [PU ⟨PY,.fz,.nd hd ds⟩]) Q:=by
   intro r hd ds Q hh hl hp hf q
   have:=oh (Γ:=(Γ_16.addI 17 (recI Γ_16 17 1000 1 1 v8 (n+1))).fn) (ρ:=[PU ⟨PY,.fz,.nd hd ds⟩]) (Q:=Q) (l:=ds) (f:=λx=>x) (g:=λx=>x) (hd:=hd) (r:=r) (cap:=[PV,PV,PV]) (tg:=.nm 1) (a:=.var 0) (elt:=.fn 17 (.cons (.var 1) .nil)) hh (aa rfl ⟨rfl,by rw[List.map_id'];rfl⟩) (by lia) (λx hx=>t0 rfl (we (φ:=recI Γ_16 17 1000 1 1 v8 (n+1)) (ds:=[x]) rfl (ac (aa rfl (ae ⟨rfl,rfl⟩))) (ih x (hp x hx)) (by cases x with|nd h ds=>cases h<;>rfl|_=>rfl) ⟨_,rfl,hf x hx⟩)) (by rw[List.map_id'];exact q)
   exact this
  cases d with
  |int i=>
   exact bq (z:=PY) (d7 rfl (fN (aa rfl ⟨PY,rfl,PY,rfl,rfl⟩))) (λe=>by cases e) λ_=>bE (bq (z:=PY) (d7 rfl (fN (aa rfl ⟨PY,rfl,PY,rfl,rfl⟩))) (λe=>by cases e) λ_=>bE (a9 (aw (aa rfl ⟨rfl,bw rfl rfl⟩))))
  |nd hd ds=>
   cases hd with
   |lst=>
    have h:(decide (ds.length<=1000)&&ds.all (pl n))=PX:=h;rw[MX,decide_eq_true_eq,Ny] at h;refine bq (z:=PX) (d7 rfl (fN (aa rfl ⟨PX,rfl,PX,rfl,rfl⟩))) (λ_=>a9 (aw (comp (.inl rfl) h.1 h.2 (λx _=>?_) ⟨rfl,dY (bw rfl rfl)⟩))) λe=>by cases e
    cases x with
    |nd hd ds=>cases hd<;>rfl
    |_=>rfl
   |tup=>
    have h:(decide (ds.length<=1000)&&ds.all (pl n))=PX:=h;rw[MX,decide_eq_true_eq,Ny] at h;refine bq (z:=PY) (d7 rfl (fN (aa rfl ⟨PY,rfl,PY,rfl,rfl⟩))) (λe=>by cases e) λ_=>bE (bq (z:=PX) (d7 rfl (fN (aa rfl ⟨PX,rfl,PX,rfl,rfl⟩))) (λ_=>a9 (aw (bv (ac (comp (.inr rfl) h.1 h.2 (λx hx=>?_) (ae (iJ rfl ⟨rfl,dY (bw rfl rfl)⟩))))))) λe=>by cases e);have hx':=h.2 x hx
    cases n with
    |zero=>
     cases x with
     |int i=>rfl
     |nd hd ds=>cases hd<;>cases hx'
     |_=>cases hx'
    |succ n=>
     cases x with
     |int i=>rfl
     |nd hd ds=>cases hd<;>first|rfl|cases hx'
     |_=>cases hx'
   |_=>cases h
  |_=>cases h
theorem om:∀(n:Nat) (d:D),pl n d=PX->pl (n+1) d=PX
 |0,.int _,_=>rfl
 |0,.nd hd ds,h=>by cases hd<;>cases h
 |0,.non,h=>by cases h
 |0,.bl _,h=>by cases h
 |0,.str _,h=>by cases h
 |0,.scr _,h=>by cases h
 |n+1,.int _,_=>rfl
 |n+1,.nd .lst ds,h=>by
  have h:(decide (ds.length<=1000)&&ds.all (pl n))=PX:=h;show(decide (ds.length<=1000)&&ds.all (pl (n+1)))=PX;rw[MX,Ny] at h⊢;exact⟨h.1,λx hx=>om n x (h.2 x hx)⟩
 |n+1,.nd .tup ds,h=>by
  have h:(decide (ds.length<=1000)&&ds.all (pl n))=PX:=h;show(decide (ds.length<=1000)&&ds.all (pl (n+1)))=PX;rw[MX,Ny] at h⊢;exact⟨h.1,λx hx=>om n x (h.2 x hx)⟩
 |n+1,.nd (.dic _ _) ds,h=>by cases h
 |n+1,.nd (.obj _ _) ds,h=>by cases h
 |n+1,.non,h=>by cases h
 |n+1,.bl _,h=>by cases h
 |n+1,.str _,h=>by cases h
 |n+1,.scr _,h=>by cases h
theorem yO{n:Nat}(h:pl n d=PX):∀k,pl (n+k) d=PX
 |0=>h
 |k+1=>om _ _ (yO h k)
theorem FE{d:D}{n:Nat}(hn:n<=39)(h:pl n d=PX):LQ [d]=PU (LU d,d):=by
 have:=Bc 39 d (by have:=yO h (39-n);rwa [show n+(39-n)=39 by lia] at this);exact this
theorem Bd{n:Nat}{l:List Nat}:(l.map iD).all (pl n)=PX:=by
 rw[Ny];intro x hx;obtain⟨k,_,rfl⟩:=NK.mp hx
 cases n<;>rfl
theorem CH{Γ:GG}{N:Nat}{pn:List Nat}{ρ:Ro}{Q:Res->Prop}{rest:bZ}{i j:Nat}{es:gg}(h:Wp (aW Γ.fn es ρ) λl=>∃x y,l=[x,y]/\((oy x.1 x.2=PX/\oy y.1 y.2=PX)/\i≠j/\i∉pn/\j∉pn)/\Wp (aP Γ N rest pn (lF [i,j] [x.2,y.2] [] .fz ρ)) Q):Wp (aP Γ N (.cons (.par i j es) rest) pn ρ) Q:=by
 obtain⟨l,e,x,y,rfl,ho,q⟩:=h;exact ck ⟨.nx _,by rw[AF,e];exact if_pos ho,cP q⟩
theorem Be{x y:Bool}{T:Bool->Prop}(q:T (!(x==y))):Wp (cu .NotEq (.bl x) (.bl y)) T:=rC ⟨rfl,rfl⟩ (by
 have:jJ (.bl x) (.bl y)=(x==y):=by unfold jJ py;simp[PyData.eqv]
 rw[this];exact q)
theorem FF{a b:Nat}(hb:b<=100):IU [iD a,iD b]=PU (.sh,iD (OX a b)):=by
 unfold IU;refine cr (dB rfl ?_);unfold LB
 walk_at "nm"
 refine CD (λm ρ=>∃x y:Nat,ρ=[aT (iD x),aT (iD y)]/\OX x y=OX a b/\y<=m) (m0:=100) (by decide) ⟨a,b,rfl,rfl,hb⟩ λm ρ hI=>?_;obtain⟨x,y,rfl,hg,hy⟩:=hI;refine fS (aI (aa rfl (ad (fP ⟨λe=>?_,λe=>?_⟩))))
 ·have h0:¬(0:Int)<(y:Int):=of_decide_eq_false e;have hz:y=0:=by lia
  subst hz;rw[Nat.gcd_zero_right] at hg;subst hg;exact a9 (aw (aa rfl ⟨rfl,bw rfl rfl⟩))
 ·have hy0:(0:Int)<(y:Int):=of_decide_eq_true e;refine CH (ac (aa rfl (ac (ak (aa rfl (aa rfl (cI hy0 (ae ⟨_,_,rfl,⟨⟨rfl,rfl⟩,by decide,by simp,by simp⟩,bn (.inl ⟨_,x%y,.inl rfl,?_,y,x%y,?_,?_,M8 _⟩)⟩))))))))
  ·have:=N5 x (show 0<y by lia)
   lia
  ·show [aT (iD y),aT (.int ((x:Int)%(y:Int)))]=_;rw[<- N8]
  ·rw[<- hg,Nat.gcd_comm x y,Nat.gcd_rec y x,Nat.gcd_comm]
noncomputable def oD:Option Nat->D
 |none=>.non
 |some v=>iD v
theorem alR_all{a b t:Nat}{os:List (Option Nat)}:d8 a b os t=PX↔∀o∈os,qg a t o=qg b t o:=by
 unfold d8;rw[decide_eq_true_eq];exact List.map_inj_left
theorem Bf{a b t v:Nat}(ha:0<a)(hb:0<b):∀{Γ:Nat->Option Fn} {ρ:Ro},ρ[0]?=PU (aT (iD a))->ρ[1]?=PU (aT (iD b))->ρ[3]?=PU (aT (iD t))->ρ[4]?=PU (aT (iD v))->Wp (bG Γ (.cmp .NotEq (.cmp .Eq (.bin .Mod (.var 3) (.var 0)) (.bin .Mod (.var 4) (.var 0))) (.cmp .Eq (.bin .Mod (.var 3) (.var 1)) (.bin .Mod (.var 4) (.var 1)))) ρ) λr=>r=!(qg a t (PU v)==qg b t (PU v)):=by
 intro Γ ρ h0 h1 h3 h4;have ha':(0:Int)<(a:Int):=by lia
 have hb':(0:Int)<(b:Int):=by lia
 have e:∀n:Nat,decide ((t:Int)%(n:Int)=(v:Int)%(n:Int))=qg n t (PU v):=λn=>by
  show _=decide (v%n=t%n);rw[<- N8,<- N8];exact decide_eq_decide.mpr ⟨λz=>by lia,λz=>by lia⟩
 refine aI (eS (ak (aa h3 (aa h0 (cI ha' (ak (aa h4 (aa h0 (cI ha' (eE (eS (ak (aa h3 (aa h1 (cI hb' (ak (aa h4 (aa h1 (cI hb' (eE (Be ?_)))))))))))))))))))));rw[e,e]
noncomputable abbrev RU(a b:Nat)(os:List (Option Nat))(x3 x4:Option Sl):Ro:=[aT (iD a),aT (iD b),aT (.lst (os.map oD)),x3,x4]
noncomputable abbrev Bg(n:Nat):D:=.lst [.str "row",iD n]
noncomputable abbrev vQ(n:Nat):D:=.lst [.str "pairs",iD n]
theorem Bh{a b:Nat}{os:List (Option Nat)}(ha:0<a)(hb:0<b)(ha1:a<=100)(hb1:b<=100)(ho:os.length<=100){R:KD->Prop}
  (q1:∀T,T<a*b->(∀j,j<T->d8 a b os j=PX)->d8 a b os T=PY->R (.fr k0,Bg (T+1))) (q2:(∀j,j<a*b->d8 a b os j=PX)->R (.fr k0,vQ (Nk a b))):Wp (IX [iD a,iD b,.lst (os.map oD)]) R:=by
 have hab:a*b<=100*100:=Nat.mul_le_mul ha1 hb1
 have la:((a:Int).natAbs<lim/\(b:Int).natAbs<lim):=by
  rw[Ob,Ob];exact⟨NA ha1 (by unfold lim;decide),NA hb1 (by unfold lim;decide)⟩
 unfold IX;refine dB rfl ?_;unfold LJ
 walk_at "nm"
 refine rG (fc (lc (ad (ak (aa rfl (aa rfl (jk la ?_)))))));rw[<- OG];refine li (dP (by lia) (by lia) (by lia) (by lia) (by lia)) ⟨λs ρ=>∃x3 x4,ρ=RU a b os x3 x4/\∀j,j<s->d8 a b os j=PX,λkd d ρ=>kd=.fr k0/\∃T,d=Bg (T+1)/\T<a*b/\(∀j,j<T->d8 a b os j=PX)/\d8 a b os T=PY,⟨PV,PV,rfl,λj hj=>absurd hj (OI _)⟩,λs d ρ hd hI=>?_,λρ hI=>?_,λkd d ρ hR=>?_⟩
 ·obtain⟨x3,x4,rfl,hA⟩:=hI;obtain⟨rfl,hj⟩:=lj hd;have hj':s<a*b:=by lia
  rw[O0];refine⟨[(3,iD s)],rfl,rfl,?_⟩;show Wp (aP _ _ _ _ (RU a b os (aT (iD s)) PV)) _;refine rG (fc (pS (aa rfl (g6 rfl ⟨λi ρ=>∃x4,ρ=RU a b os (aT (iD s)) x4/\∀j,j<i->∀o,os[j]?=PU o->qg a s o=qg b s o,λkd d ρ=>kd=.fr k0/\d=Bg (s+1)/\d8 a b os s=PY,⟨PV,rfl,λj hj=>absurd hj (OI _)⟩,λi d ρ hd hI=>?_,λρ hI=>?_,λkd d ρ hR=>?_⟩))))
  ·obtain⟨x4,rfl,hB⟩:=hI;have hd:(os.map oD)[i]?=PU d:=hd;rw[M0] at hd
   cases eo:os[i]? with
   |none=>rw[eo] at hd;cases hd
   |some o=>
    rw[eo] at hd;cases hd
    have up:qg a s o=qg b s o->∀j,j<i+1->∀o,os[j]?=PU o->qg a s o=qg b s o:=λhe j hj o' ho'=>by
     by_cases ej:j=i
     ·subst ej;rw[eo] at ho';cases ho';exact he
     ·exact hB j (by lia) o' ho'
    refine⟨[(4,oD o)],rfl,rfl,?_⟩;show Wp (aP _ _ _ _ (RU a b os (aT (iD s)) (aT (oD o)))) _
    cases o with
    |none=>
     refine bq (z:=PX) (aI (aa rfl (ad (cH rfl)))) (λ_=>Iz (Cp (.inl ⟨_,.inr rfl,_,rfl,up rfl⟩))) λe=>by cases e
    |some v=>
     refine bq (z:=PY) (aI (aa rfl (ad (cH rfl)))) (λe=>by cases e) λ_=>bE ?_;refine bq (Bf ha hb rfl rfl rfl rfl) (λe=>?_) λe=>bE (bn (.inl ⟨_,.inl rfl,_,rfl,up ?_⟩))
     ·refine a9 (aw (aG (ac (ad (ac (ak (aa rfl (ad (bL (ae (aC rfl ⟨rfl,dY (.inr ⟨_,_,_,rfl,rfl,rfl,?_⟩)⟩)))))))))))
      cases hx:d8 a b os s with
      |false=>rfl
      |true=>
       have:=alR_all.mp hx _ (NS eo);rw[this] at e;simp at e
     ·simpa using e
  ·obtain⟨x4,rfl,hB⟩:=hI;refine bn (.inl ⟨_,.inl rfl,_,_,rfl,λj hj=>?_⟩);by_cases ej:j=s
   ·subst ej;refine alR_all.mpr λo ho'=>?_;obtain⟨k,hk⟩:=List.mem_iff_getElem?.mp ho';refine hB k ?_ o hk;show k<(os.map oD).length;rw[MY];exact(MZ.mp hk).1
   ·exact hA j (by lia)
  ·obtain⟨rfl,rfl,hF⟩:=hR;exact⟨rfl,.inr ⟨_,_,_,rfl,rfl,s,rfl,hj',hA,hF⟩⟩
 ·obtain⟨x3,x4,rfl,hA⟩:=hI;have hl:(en 0 ((a*b:Nat):Int)).length=a*b:=by rw[eU,MY,Nn]
  have hA:∀j,j<(en 0 ((a*b:Nat):Int)).length->d8 a b os j=PX:=hA;rw[hl] at hA;have hg:0<OX a b:=Nat.gcd_pos_of_pos_left _ ha;have hgl:OX a b<=100:=Nq (Nat.gcd_le_left _ ha) ha1;refine a9 (aw (aG (ac (ad (ac (ak (ak (aa rfl (aa rfl (jk la (we (φ:=IU) (ds:=[iD a,iD b]) rfl (ac (aa rfl (ac (aa rfl (ae ⟨rfl,rfl⟩))))) (FF hb1) rfl (nY ⟨by lia,?_⟩ (ae (aC rfl ⟨rfl,bw rfl ?_⟩))))))))))))))
  ·rw[Ob];exact NA hgl (by unfold lim;decide)
  ·have e:((a:Int)*(b:Int)) / ((OX a b:Nat):Int)=((Nk a b:Nat):Int):=by
    rw[<- OG,<- Int.natCast_ediv];rfl
   show R (.fr k0,.lst [.str "pairs",.int (((a:Int)*(b:Int)) / ((OX a b:Nat):Int))]);rw[e];exact q2 hA
 ·obtain⟨rfl,T,rfl,h1,h2,h3⟩:=hR;exact⟨rfl,bw rfl (q1 T h1 h2 h3)⟩
theorem oo{Q:KD->Prop}{b:Bool}(q:Q (.sh,.int (if b then 1 else 0))):Wp (jD "int" [(k,.bl b)]) Q:=⟨_,rfl,q⟩
theorem FG{Q:KD->Prop}{xs:List D}{n:Int}(h:jK k xs=PX/\0<=n/\n<=100000/\xs.length*n.toNat<=100000)(q:Q (.fr bQ,.lst (M3 n.toNat xs).flatten)):Wp (dZ .Mult (k,.nd .lst xs) (k',.int n)) Q:=⟨_,if_pos h,q⟩
theorem oq{b:Bool}:(if b=PX then(1:Int) else 0)=((b.toNat:Nat):Int):=by cases b<;>rfl
theorem Jf{I n k:Nat}(hn:0<n):D.tup [.int (if decide ((k:Int)=0)=PX then 1 else 0),.int ((I:Int)+((k:Int)+(n:Int)-1)%(n:Int))]=iK (Gr I n k):=by
 have e2:(k:Int)+(n:Int)-1=((k+n-1:Nat):Int):=by lia
 have e1:decide ((k:Int)=0)=decide (k=0):=decide_eq_decide.mpr ⟨λz=>by lia,λz=>by lia⟩;rw[e1,oq,e2,<- N8,<- OJ];rfl
theorem jU{I n:Nat}{os:List (Option Nat)}(hn:0<n)(hn1:n<=100)(ho:os.length<=100):v9 [iD I,iD n,.lst (os.map oD)]=PU (.sh,cD (aJ I n os)):=by
 have hn':(0:Int)<(n:Int):=by lia
 unfold v9;refine cr (dB rfl ?_);unfold Ly
 walk_at "nm"
 refine aY (aw (vK (n:=n) (g:=λk=>iK (Gr I n k)) (aa rfl rfl) (by lia) (λk hk=>t0 rfl (dO (ac (bv (ac (eS (aa rfl (ad (eE (ae (oo (ac (ak (aa rfl (ak (ak (ak (aa rfl (aa rfl (bL (ad (ld (aa rfl (cI hn' (bL (ae (bY rfl ⟨.sh,congrArg (λd=>PU (Kd.sh,d)) (Jf hn),rfl⟩))))))))))))))))))))))))))) ⟨⟨rfl,by decide⟩,?_⟩));refine a9 (jm (aD (aw (aa rfl ⟨rfl,aU (gy rfl (ac (aG (ac (dO (ac (ad (ac (dO (ae (bY rfl (ae (bY rfl (ae (aC rfl (ac (oh (l:=os) (f:=oD) (g:=λo=>iD (JI I n o)) (.inl rfl) (aa rfl ⟨rfl,rfl⟩) (by lia) (λo _=>?_) (ae (bY rfl ⟨rfl,bw rfl ?_⟩)))))))))))))))))))⟩))))
 ·cases o with
  |none=>exact t0 rfl (k7 (aI (aa rfl (ad (cH ⟨λ_=>ak (aa rfl (aa rfl (bL ⟨.sh,congrArg (λz=>PU (Kd.sh,D.int z)) (OJ I n).symm,rfl⟩))),λe=>by cases e⟩)))))
  |some v=>exact(t0 rfl (k7 (aI (aa rfl (ad (cH ⟨λe=>(by cases e),λ_=>ak (aa rfl (ak (aa rfl (aa rfl (cI hn' (bL ⟨.sh,congrArg (λz=>PU (Kd.sh,D.int z)) (show(I:Int)+(v:Int)%(n:Int)=((I+v%n:Nat):Int) by rw[<- N8,<- OJ]),rfl⟩))))))⟩))))))
 ·unfold cD aJ;simp only[Nl];rfl
theorem jV:cj 90 (.str "row")=PX:=by decide +kernel
theorem jW:cj 90 (.str "pairs")=PX:=by decide +kernel
theorem Bi:jJ (.str "row") (.str "row")=PX:=by decide +kernel
theorem ul:jJ (.str "pairs") (.str "row")=PY:=by decide +kernel
noncomputable abbrev ou(x:D):D:=.lst [.str "told",x]
noncomputable abbrev p8(x y:D):D:=.lst [x,y]
noncomputable abbrev grt:D:=.lst [.str "great",.non]
noncomputable abbrev unl:D:=.lst [.str "unlike",.non]
theorem Bj{I:Nat}:(M3 ((I:Int)).toNat [D.int 0]).flatten=(jB I).map bD:=by
 rw[NJ];unfold jB
 induction I with
 |zero=>rfl
 |succ I ih=>rw[NI,NI,Oe,Nu,ih];rfl
theorem yP{I a b n:Nat}(hI:I<=100)(hn:n<=10001):AV [iD I,iD a,iD b,Bg n]=PU (.fr k0,p8 (ou (eW (M3 n (jB I)))) (ou .non)):=by
 unfold AV;refine cr (dB rfl ?_);unfold IM
 walk_at "nm"
 refine bq (z:=PX) (aI (aQ (aa rfl (ad (aB (n:=0) (d:=.str "row") (.inl rfl) rfl rfl (ad (gZ ⟨jV,jV⟩ Bi))))))) (λ_=>?_) λe=>by cases e
 refine a9 (aw (aG (ac (aG (ac (ad (ac (vK (n:=n) (g:=λ_=>.lst ((jB I).map bD)) (aQ (aa rfl (ad (aB (n:=1) (d:=iD n) (.inl rfl) rfl rfl rfl)))) (by lia) (λk hk=>t0 rfl (ak (aG (ac (ad (ae (aC rfl (aa rfl (FG ⟨rfl,by lia,by lia,?_⟩ ⟨_,congrArg (λd=>PU (Kd.fr bQ,D.lst d)) Bj,rfl⟩))))))))) (ae (aC rfl (ac (aG (ac (ad (ac (ad (ae (aC rfl (ae (aC rfl ⟨rfl,dY (bw rfl ?_)⟩))))))))))))))))))))
 ·rw[NJ];simp;lia
 ·have e:(M4 n).map (λ_=>D.lst ((jB I).map bD))=(M3 n (jB I)).map λx=>.lst (x.map bD):=by
   rw[List.map_const',Nn,List.map_replicate]
  rw[e];rfl
theorem rQ{I a b n:Nat}(hn:300<n):AV [iD I,iD a,iD b,vQ n]=PU (.fr k0,p8 grt grt):=by
 unfold AV;refine cr (dB rfl ?_);unfold IM
 walk_at "nm"
 refine bq (z:=PY) (aI (aQ (aa rfl (ad (aB (n:=0) (d:=.str "pairs") (.inl rfl) rfl rfl (ad (gZ ⟨jW,jV⟩ ul))))))) (λe=>by cases e) λ_=>bE ?_;refine bq (z:=PX) (aI (aQ (aa rfl (ad (aB (n:=1) (d:=iD n) (.inl rfl) rfl rfl (ad (fP (decide_eq_true ?_)))))))) (λ_=>?_) λe=>by cases e
 ·lia
 ·exact a9 (aw (aG (ac (aG (ac (ad (ac (ad (ae (aC rfl (ac (aG (ac (ad (ac (ad (ae (aC rfl (ae (aC rfl ⟨rfl,dY (bw rfl rfl)⟩))))))))))))))))))))
theorem CI{a t k:Nat}:D.int (if decide ((t:Int)%(a:Int)=(k:Int))=PX then 1 else 0)=bD (decide (k=t%a)):=by
 have e:decide ((t:Int)%(a:Int)=(k:Int))=decide (k=t%a):=by
  rw[<- N8];exact decide_eq_decide.mpr ⟨λz=>by lia,λz=>by lia⟩
 rw[e,oq]
theorem rR{I a b n:Nat}(ha:0<a)(hb:0<b)(ha1:a<=100)(hb1:b<=100)(hn:n<=300):AV [iD I,iD a,iD b,vQ n]=PU (.fr k0,p8 (ou .non) (ou (.lst ((g8 a b n).map aE)))):=by
 have ha':(0:Int)<(a:Int):=by lia
 have hb':(0:Int)<(b:Int):=by lia
 unfold AV;refine cr (dB rfl ?_);unfold IM
 walk_at "nm"
 refine bq (z:=PY) (aI (aQ (aa rfl (ad (aB (n:=0) (d:=.str "pairs") (.inl rfl) rfl rfl (ad (gZ ⟨jW,jV⟩ ul))))))) (λe=>by cases e) λ_=>bE ?_;refine bq (z:=PY) (aI (aQ (aa rfl (ad (aB (n:=1) (d:=iD n) (.inl rfl) rfl rfl (ad (fP (decide_eq_false ?_)))))))) (λe=>by cases e) λ_=>bE ?_
 ·lia
 refine aY (aw (aG (ae (aC rfl ⟨⟨rfl,by decide⟩,?_⟩))));refine my (fc (lc (ad (aQ (aa rfl (ad (aB (n:=1) (d:=iD n) (.inl rfl) rfl rfl (li (dP (by lia) (by lia) (by lia) (by lia) (by lia)) ⟨λs ρ=>∃x4 x6 x7,ρ=[aT (iD I),aT (iD a),aT (iD b),aT (vQ n),x4,PU ⟨PY,k0,.lst ((g8 a b s).map aE)⟩,x6,x7],⟨PV,PV,PV,rfl⟩,λs d ρ hd hI=>?_,λρ hI=>?_⟩))))))))
 ·obtain⟨x4,x6,x7,rfl⟩:=hI;obtain⟨rfl,hj⟩:=lj hd;have hs:s<n:=by lia
  rw[O0];refine⟨[(4,iD s)],rfl,rfl,?_⟩;show Wp (aP _ _ _ [] [aT (iD I),aT (iD a),aT (iD b),aT (vQ n),aT (iD s),PU ⟨PY,k0,.lst ((g8 a b s).map aE)⟩,PV,PV]) _;refine aY (aw (vK (n:=a) (g:=λk=>bD (decide (k=s%a))) (aa rfl rfl) (by lia) (λk hk=>t0 rfl (bv (ac (eS (ak (aa rfl (aa rfl (cI ha' (aa rfl (eE (ae (oo ⟨.sh,congrArg (λd=>PU (Kd.sh,d)) CI,rfl⟩)))))))))))) ⟨⟨rfl,by decide⟩,?_⟩));refine aY (aw (vK (n:=b) (g:=λk=>bD (decide (k=s%b))) (aa rfl rfl) (by lia) (λk hk=>t0 rfl (bv (ac (eS (ak (aa rfl (aa rfl (cI hb' (aa rfl (eE (ae (oo ⟨.sh,congrArg (λd=>PU (Kd.sh,d)) CI,rfl⟩)))))))))))) ⟨⟨rfl,by decide⟩,?_⟩));refine gz (yr rfl (jm (aD (gy rfl ⟨rfl,aU (gy rfl (ae (bY rfl ⟨[],.fz,_,rfl,⟨NG _,rfl,by rw[MY,eX];lia⟩,bn ⟨_,.inl rfl,aT (iD s),PV,PV,?_⟩⟩)))⟩))))
  have e:(g8 a b (s+1)).map aE=(g8 a b s).map aE++[.tup [.lst ((M4 a).map λk=>bD (decide (k=s%a))),.lst ((M4 b).map λk=>bD (decide (k=s%b)))]]:=by
   rw[<- fsR_succ,Nw];show _++[D.tup [.lst (((M4 a).map _).map bD),.lst (((M4 b).map _).map bD)]]=_;rw[Nl,Nl];rfl
  rw[e];rfl
 ·obtain⟨x4,x6,x7,rfl⟩:=hI;have hl:(en 0 ((n:Nat):Int)).length=n:=by rw[eU,MY,Nn]
  show Wp (aP _ _ _ _ [aT (iD I),aT (iD a),aT (iD b),aT (vQ n),PV,PU ⟨PY,k0,.lst ((g8 a b (en 0 ((n:Nat):Int)).length).map aE)⟩,PV,PV]) _;rw[hl];exact a9 (jn (aD (aw (aG (ac (ad (ac (ad (ae (aC rfl ⟨rfl,aU (jn (aD (aw (ad ⟨rfl,aU (gy rfl (ae (aC rfl (ae (aC rfl ⟨rfl,bw rfl rfl⟩)))))⟩))))⟩))))))))))
structure Sz(I a b:Nat):Prop where
 a0:0<a
 b0:0<b
 a1:a<=43
 b1:b<=43
 i:I<=8
theorem LV:∀r,r<5->∃a b:Nat,Sz 0 a b/\[D.lst [iD 12,iD 25],D.lst [iD 7,iD 43],D.lst [iD 13,iD 23],D.lst [iD 25,iD 12],D.lst [iD 43,iD 7]][r]?=PU (.lst [iD a,iD b])
 |0,_=>⟨12,25,⟨by decide,by decide,by decide,by decide,by decide⟩,rfl⟩
 |1,_=>⟨7,43,⟨by decide,by decide,by decide,by decide,by decide⟩,rfl⟩
 |2,_=>⟨13,23,⟨by decide,by decide,by decide,by decide,by decide⟩,rfl⟩
 |3,_=>⟨25,12,⟨by decide,by decide,by decide,by decide,by decide⟩,rfl⟩
 |4,_=>⟨43,7,⟨by decide,by decide,by decide,by decide,by decide⟩,rfl⟩
 |n+5,h=>by lia
theorem lq{a b:Nat}:D.int ((a:Int)+(b:Int))=iD (a+b):=congrArg D.int (OJ a b).symm
theorem yQ{Q:Kd×D×List (Option nC)->Prop}(h:qh d)(q:∀I a b d',Sz I a b->qh d'->Q (.fr k0,.lst [iD I,iD a,iD b],[PU (k0,d')])):Wp (IW [(k0,d)]) Q:=by
 have three:∀{x y z m1 m2 m3:Nat} {d:D} {Q:Kd×D×Ro->Prop} {x1:Option Sl},qh d->0<m1->m1<1000->0<m2->m2<1000->0<m3->m3<1000->(∀r1 r2 r3 d',r1<m1->r2<m2->r3<m3->qh d'->Q (.fr k0,.lst [iD (x+r1),iD (y+r2),iD (z+r3)],[PU ⟨PY,k0,d'⟩,x1]))->Wp (ba Γ_20 (.lst (.own [] .fz) (.cons (.bin .Add (.cons (.p (.lit (iD x))) (.fin (.io 15 (.ref 0 (.val (.p (.lit (iD m1))) .nil))) .nil))) (.cons (.bin .Add (.cons (.p (.lit (iD y))) (.fin (.io 15 (.ref 0 (.val (.p (.lit (iD m2))) .nil))) .nil))) (.fin (.bin .Add (.cons (.p (.lit (iD z))) (.fin (.io 15 (.ref 0 (.val (.p (.lit (iD m3))) .nil))) .nil))) .nil)))) [PU ⟨PY,k0,d⟩,x1]) Q:=by
  intro x y z m1 m2 m3 d Q x1 h a1 b1 a2 b2 a3 b3 q;refine jn (aD (fQ (aD (aw (ad ⟨rfl,aU (iO (m:=m1) rfl rfl h (ad rfl) a1 (by lia) λr1 d1 hr1 h1=>ae ⟨_,_,rfl,bL ⟨rfl,?_⟩⟩)⟩)))));refine aD (fQ (aD (aw (ad ⟨rfl,aU (iO (m:=m2) rfl rfl h1 (ad rfl) a2 (by lia) λr2 d2 hr2 h2=>ae ⟨_,_,rfl,bL ⟨rfl,?_⟩⟩)⟩))));refine aU (fQ (aD (aw (ad ⟨rfl,aU (iO (m:=m3) rfl rfl h2 (ad rfl) a3 (by lia) λr3 d3 hr3 h3=>ae ⟨_,_,rfl,bL (ae (aC rfl ?_))⟩)⟩))));have:=q r1 r2 r3 d3 hr1 hr2 hr3 h3;rw[<- lq,<- lq,<- lq] at this;exact this
 unfold IW;refine IA rfl ?_;unfold LG
 walk_at "nm"
 refine aY (iO (m:=4) rfl rfl h (ad rfl) (by decide) (by decide) λr d1 hr h1=>⟨⟨rfl,by decide⟩,?_⟩);show Wp (aP _ _ _ _ [PU ⟨PY,k0,d1⟩,aT (iD r)]) _;refine bq (z:=decide ((r:Int)=0)) (aI (aa rfl (ad (eE rfl)))) (λe=>?_) λe0=>bE ?_
 ·refine a9 (fQ (aD (aw (aG (ac (ad (ae (aC rfl ⟨rfl,aU (yq (aD (aw (aG (ac (aG (ac (ad (ac (ad (ae (aC rfl (ac (aG (ac (ad (ac (ad (ae (aC rfl (ac (aG (ac (ad (ac (ad (ae (aC rfl (ac (aG (ac (ad (ac (ad (ae (aC rfl (ac (aG (ac (ad (ac (ad (ae (aC rfl (ae (aC rfl ⟨rfl,aU (iO (m:=5) rfl rfl h1 (ad rfl) (by decide) (by decide) λr2 d2 hr2 h2=>ae ⟨_,_,rfl,?_⟩)⟩))))))))))))))))))))))))))))))))))))))))))))))⟩))))))));obtain⟨a,b,hS,ha⟩:=LV r2 hr2;exact aB (n:=r2) (.inl rfl) rfl ha (ae ⟨_,_,rfl,jl ⟨rfl,rfl,show(1:Nat)+2<=100000 by decide⟩ ⟨rfl,dY (jA rfl (q 0 a b d2 hS h2))⟩⟩)
 refine bq (z:=decide ((r:Int)=1)) (aI (aa rfl (ad (eE rfl)))) (λe=>?_) λe1=>bE ?_
 ·exact a9 (three (x:=5) (y:=1) (z:=1) (m1:=4) (m2:=3) (m3:=3) h1 (by decide) (by decide) (by decide) (by decide) (by decide) (by decide) λr1 r2 r3 d' l1 l2 l3 h'=>⟨rfl,dY (jA rfl (q _ _ _ _ ⟨by lia,by lia,by lia,by lia,by lia⟩ h'))⟩)
 refine bq (z:=decide ((r:Int)=2)) (aI (aa rfl (ad (eE rfl)))) (λe=>?_) λe2=>bE ?_
 ·exact a9 (three (x:=1) (y:=1) (z:=1) (m1:=2) (m2:=7) (m3:=7) h1 (by decide) (by decide) (by decide) (by decide) (by decide) (by decide) λr1 r2 r3 d' l1 l2 l3 h'=>⟨rfl,dY (jA rfl (q _ _ _ _ ⟨by lia,by lia,by lia,by lia,by lia⟩ h'))⟩)
 refine a9 (jn (aD (aw (ad ⟨rfl,?_⟩))));refine aD (fQ (aD (aw (ad ⟨rfl,aU (iO (m:=30) rfl rfl h1 (ad rfl) (by decide) (by decide) λr2 d2 hr2 h2=>ae ⟨_,_,rfl,bL ⟨rfl,?_⟩⟩)⟩))));refine aU (fQ (aD (aw (ad ⟨rfl,aU (iO (m:=30) rfl rfl h2 (ad rfl) (by decide) (by decide) λr3 d3 hr3 h3=>ae ⟨_,_,rfl,bL (ae (aC rfl ⟨rfl,jA rfl ?_⟩))⟩)⟩))));have:=q 0 (1+r2) (1+r3) d3 ⟨by lia,by lia,by lia,by lia,by lia⟩ h3;rw[<- lq,<- lq] at this;exact this
theorem FH{T:Bool->Prop}(h:cj 90 x=PX)(q:T PY):Wp (cu .NotEq x x) T:=rC ⟨h,h⟩ (by rw[pV h];exact q)
theorem FI{T:Bool->Prop}(h:cj 90 x=PX)(q:T PX):Wp (cu .Eq x x) T:=gZ ⟨h,h⟩ (by rw[pV h];exact q)
theorem iP{ds:List D}{n:Nat}(h:∀x∈ds,cj n x=PX):cj (n+1) (.nd .lst ds)=PX:=by
 simp only[cj,MX,decide_eq_true_eq];exact⟨by lia,jS h⟩
theorem um{ds:List D}{n:Nat}(h:∀x∈ds,cj n x=PX):cj (n+1) (.nd .tup ds)=PX:=by
 simp only[cj,MX,decide_eq_true_eq];exact⟨by lia,jS h⟩
theorem Bk{n:Nat}{i:Int}:cj n (.int i)=PX:=by cases n<;>rfl
theorem lr{n:Nat}{x:List Bool}:cj (n+1) (.lst (x.map bD))=PX:=iP λd hd=>by
 obtain⟨b,_,rfl⟩:=NK.mp hd;exact Bk
theorem yR{n:Nat}:cj (n+2) (eW r)=PX:=iP λd hd=>by
 obtain⟨x,_,rfl⟩:=NK.mp hd;exact lr
theorem vR{n:Nat}{fs:List P}:cj (n+3) (.lst (fs.map aE))=PX:=iP λd hd=>by
 obtain⟨p,_,rfl⟩:=NK.mp hd;refine um λd hd=>?_;rcases M7.mp hd with rfl|hd
 ·exact lr
 rcases M7.mp hd with rfl|hd
 ·exact lr
 ·simp at hd
theorem ow{n:Nat}(hx:cj n x=PX)(hy:cj n y=PX):cj (n+1) (.lst [x,y])=PX:=iP λd hd=>by
 rcases M7.mp hd with rfl|hd
 ·exact hx
 rcases M7.mp hd with rfl|hd
 ·exact hy
 ·simp at hd
theorem yS:cj 89 (.str "told")=PX:=by decide +kernel
theorem vS:cj 89 (.str "great")=PX:=by decide +kernel
theorem Bl:cj 89 (.str "unlike")=PX:=by decide +kernel
theorem jX(h:cj 89 x=PX):cj 90 (ou x)=PX:=ow yS h
theorem jY:cj 90 grt=PX:=ow vS rfl
theorem eY:cj 90 unl=PX:=ow Bl rfl
theorem uo{I n:Nat}{os:List (Option Nat)}(hn:n<=100)(ho:os.length<=100):pl 4 (cD (aJ I n os))=PX:=by
 have e1:pl 3 (.lst ((aJ I n os).mems.map iK))=PX:=by
  show(decide (((aJ I n os).mems.map iK).length<=1000)&&((aJ I n os).mems.map iK).all (pl 2))=PX;rw[MX,decide_eq_true_eq,MY,gf,Ny];refine⟨by lia,λx hx=>?_⟩;obtain⟨m,_,rfl⟩:=NK.mp hx;rfl
 have e3:pl 3 (.lst ((aJ I n os).outs.map iD))=PX:=by
  show(decide (((aJ I n os).outs.map iD).length<=1000)&&((aJ I n os).outs.map iD).all (pl 2))=PX;rw[Bd,MY,show(aJ I n os).outs.length=os.length by simp[aJ],decide_eq_true (show os.length<=1000 by lia)];rfl
 show(decide ((4:Nat)<=1000)&&(PX&&(pl 3 (.lst ((aJ I n os).mems.map iK))&&(PX&&(pl 3 (.lst ((aJ I n os).outs.map iD))&&PX)))))=PX;rw[e1,e3];rfl
theorem ib{b n:Bool}(h:b=n):(if b=PX then(1:Int) else 0)=((n.toNat:Nat):Int):=by rw[h];exact oq
noncomputable def wf(x y:D)(A B:Ci):Prop:=Cs [.str "parted",cD A,cD B]=PU (.fr k0,x)/\Cs [.str "pairs",cD A,cD B]=PU (.fr k0,y)
theorem uq:cj 90 (.str "parted")=PX:=by decide +kernel
theorem ur:jJ (.str "parted") (.str "pairs")=PY:=by decide +kernel
theorem Bm:jJ (.str "pairs") (.str "pairs")=PX:=by decide +kernel
noncomputable abbrev RW(ns:List Int)(d dI da db dos x y:D)(A B:Ci)(x9 x10:Option Sl)(k5:Ow):Ro:=[aT (.scr ns),PU ⟨PY,k0,d⟩,aT dI,aT da,aT db,PU ⟨PY,k5,dos⟩,PU ⟨PY,k0,p8 x y⟩,aT (cD A),aT (cD B),x9,x10]
theorem rS:∀(n:Nat) (d:D) (m:Nat),pl n d=PX->n<=m->cj m d=PX
 |0,.int _,m,_,_=>by cases m<;>rfl
 |0,.nd hd ds,_,h,_=>by cases hd<;>cases h
 |0,.non,_,h,_=>by cases h
 |0,.bl _,_,h,_=>by cases h
 |0,.str _,_,h,_=>by cases h
 |0,.scr _,_,h,_=>by cases h
 |n+1,.int _,m,_,_=>by cases m<;>rfl
 |n+1,.nd .lst ds,m+1,h,hm=>by
  have h:(decide (ds.length<=1000)&&ds.all (pl n))=PX:=h;rw[MX,Ny] at h;exact iP λx hx=>rS n x m (h.2 x hx) (by lia)
 |n+1,.nd .tup ds,m+1,h,hm=>by
  have h:(decide (ds.length<=1000)&&ds.all (pl n))=PX:=h;rw[MX,Ny] at h;exact um λx hx=>rS n x m (h.2 x hx) (by lia)
 |n+1,.nd hd ds,0,h,hm=>by lia
 |n+1,.nd (.dic _ _) ds,_,h,_=>by cases h
 |n+1,.nd (.obj _ _) ds,_,h,_=>by cases h
 |n+1,.non,_,h,_=>by cases h
 |n+1,.bl _,_,h,_=>by cases h
 |n+1,.str _,_,h,_=>by cases h
 |n+1,.scr _,_,h,_=>by cases h
theorem Bn{ns:List Int}{d dI da db dos x y:D}{A B:Ci}{k5:Ow}(hA:pl 4 (cD A)=PX)(hB:pl 4 (cD B)=PX)(hx:cj 90 x=PX)(hy:cj 90 y=PX)(h:wf x y A B):Wp (aP rH 1000 (match tV with|.cons _ (.cons _ (.cons _ (.cons _ (.cons _ (.cons _ (.cons _ (.cons _ r)))))))=>r|r=>r) [] (RW ns d dI da db dos x y A B PV PV k5)) λr=>Wp (gW (PU r)) λx=>x=(.sh,.bl PX):=by
 have hp:pl 5 (.tup [cD A,cD B])=PX:=by
  show(decide ((2:Nat)<=1000)&&(pl 4 (cD A)&&(pl 4 (cD B)&&PX)))=PX;rw[hA,hB];rfl
 have hcd:cj 90 (.tup [cD A,cD B])=PX:=rS 5 _ 90 hp (by decide);unfold tV;refine aY (aw (we (φ:=LQ) (ds:=[.tup [cD A,cD B]]) rfl (ac (dO (ac (aa rfl (ac (aa rfl (ae (bY rfl (ae ⟨rfl,rfl⟩))))))))) (FE (n:=5) (by decide) hp) rfl ⟨⟨rfl,by decide⟩,?_⟩));show Wp (aP _ _ _ [] (RW ns d dI da db dos x y A B (PU ⟨PY,.own [] k0,.tup [cD A,cD B]⟩) PV k5)) _;refine Je ?_;show Wp (aP _ _ _ [] (RW ns d dI da db dos x y A B (aT (.tup [cD A,cD B])) PV k5)) _;refine my (fc (pS (aG (ac (ad (ac (ad (ac (ad (ae (aC rfl (g6 rfl ⟨λs ρ=>∃x10,ρ=RW ns d dI da db dos x y A B (aT (.tup [cD A,cD B])) x10 k5,⟨PV,rfl⟩,λs w ρ hd hI=>?_,λρ hI=>?_⟩))))))))))))
 ·obtain⟨x10,rfl⟩:=hI;have hd:[D.str "parted",D.str "pairs",D.str "parted"][s]?=PU w:=hd
  obtain⟨v,z,n,rfl,hv,hz,hn,hq⟩:∃(v:Str) (z:D) (n:Bool),w=.str v/\Cs [.str v,cD A,cD B]=PU (.fr k0,z)/\jJ (.str v) (.str "pairs")=n/\[x,y][n.toNat]?=PU z/\(cj 90 z=PX/\cj 90 (.str v)=PX):=by
   match s,hd with
   |0,hd=>cases hd;exact⟨_,x,PY,rfl,h.1,ur,rfl,hx,uq⟩
   |1,hd=>cases hd;exact⟨_,y,PX,rfl,h.2,Bm,rfl,hy,jW⟩
   |2,hd=>cases hd;exact⟨_,x,PY,rfl,h.1,ur,rfl,hx,uq⟩
   |n+3,hd=>cases hd
  refine⟨[(10,.str v)],rfl,rfl,?_⟩;show Wp (aP _ _ _ _ (RW ns d dI da db dos x y A B (aT (.tup [cD A,cD B])) (aT (.str v)) k5)) _;refine bq (z:=PY) (aI (we (φ:=Cs) (ds:=[.str v,cD A,cD B]) rfl (ac (aa rfl (ac (aQ (aa rfl (ad (aB (n:=0) (d:=cD A) (.inr rfl) rfl rfl (ac (aQ (aa rfl (ad (aB (n:=1) (d:=cD B) (.inr rfl) rfl rfl (ae ⟨rfl,rfl⟩))))))))))))) hv rfl (aQ (aa rfl (bv (ac (eS (aa rfl (ad (gZ ⟨hq.2,jW⟩ (ae (oo (aB (n:=n.toNat) (d:=z) (.inl rfl) (ib hz) hn (FH hq.1 rfl)))))))))))))) (λe=>by cases e) λ_=>bE (bn ⟨_,.inl rfl,aT (.str v),rfl⟩)
 ·obtain⟨x10,rfl⟩:=hI;exact a9 (aw (eS (aa rfl (dO (ac (aa rfl (ac (aa rfl (ae (bY rfl (FI hcd ⟨rfl,bw rfl rfl⟩)))))))))))
theorem Bo{Γ:GG}(hΓ:Γ.fm 15=PU Gq){k:Nat}{d:D}{R:List D×Ro->Prop}(h:qh d)(q:∀(os:List (Option Nat)) d',os.length=k->qh d'->R (os.map oD,[PV,PV,PV,PU ⟨PY,k0,d'⟩])) :
  Wp (aN .fz (gh [PV,PV,PV,PU 1] (.nm 1) (lE Γ .non) (ba Γ (.ix (.cons (.lst (.own [] .fz) (.cons (.p (.lit .non)) (.cons (.p (.lit .non)) (.fin (.io 15 (.ref 3 (.val (.p (.lit (.int 30))) .nil))) .nil)))) (.fin (.io 15 (.ref 3 (.val (.p (.lit (.int 3))) .nil))) .nil))))) ((M4 k).map iD) [PV,PV,PV,PU ⟨PY,k0,d⟩]) R:=by
 refine Cq (λj ys ρ=>∃(os:List (Option Nat)) (d:D),ys=os.map oD/\os.length=j/\qh d/\ρ=[PV,PV,PV,PU ⟨PY,k0,d⟩]) ⟨[],d,rfl,rfl,h,rfl⟩ (λj x ys ρ hx hI=>?_) λys ρ hI=>?_
 ·obtain⟨os,d,rfl,hl,hS,rfl⟩:=hI;refine yw (ps:=[(1,x)]) rfl ⟨rfl,rfl⟩ rfl (yq (aD (jn (aD (aw (ad ⟨rfl,aD (aw (ad ⟨rfl,aU (iO (m:=30) hΓ rfl hS (ad rfl) (by decide) (by decide) λv d1 hv h1=>ae (aC rfl ⟨rfl,aU (iO (m:=3) hΓ rfl h1 (ad rfl) (by decide) (by decide) λr d2 hr h2=>ae ⟨_,_,rfl,?_⟩)⟩))⟩))⟩))))))
  obtain⟨o,eo,ho⟩:∃o:Option Nat,[D.non,D.non,iD v][r]?=PU (oD o)/\oy (xf (.fr k0) r) (oD o)=PX:=by
   match r,hr with
   |0,_=>exact⟨PV,rfl,rfl⟩
   |1,_=>exact⟨PV,rfl,rfl⟩
   |2,_=>exact⟨PU v,rfl,rfl⟩
  have fo:∀k:Kd,dc .fz (eI k (oD o),oD o)=PX:=λk=>by cases o<;>cases k<;>rfl
  refine aB (n:=r) (d:=oD o) (.inl rfl) rfl eo ⟨_,rfl,fo _,os++[o],d2,?_,by simp[hl],h2,rfl⟩;rw[Nw];rfl
 ·obtain⟨os,d,rfl,hl,hS,rfl⟩:=hI;exact q os d (by rw[hl,MY,Nn]) hS
structure Ct:Prop where
 row:∀{I a b T:Nat} {os:List (Option Nat)},Sz I a b->I<=6->os.length<=2->T<a*b->(∀j,j<T->d8 a b os j=PX)->d8 a b os T=PY->wf (ou (eW (M3 (T+1) (jB I)))) (ou .non) (aJ I a os) (aJ I b os)
 prs:∀{I a b:Nat} {os:List (Option Nat)},Sz I a b->I<=6->os.length<=2->(∀j,j<a*b->d8 a b os j=PX)->Nk a b<=300->wf (ou .non) (ou (.lst ((g8 a b (Nk a b)).map aE))) (aJ I a os) (aJ I b os)
 grt:∀{I a b:Nat} {os:List (Option Nat)},Sz I a b->I<=6->os.length<=2->(∀j,j<a*b->d8 a b os j=PX)->300<Nk a b->wf grt grt (aJ I a os) (aJ I b os)
 gr6:∀{A B:Ci},A.ins=B.ins->A.outs.length=B.outs.length->6<A.ins->wf K53.grt K53.grt A B
 unl:∀{A B:Ci},¬(A.ins=B.ins/\A.outs.length=B.outs.length)->wf unl unl A B
noncomputable abbrev RY(ns:List Int)(d:D)(I a b:Nat)(os:List (Option Nat))(k5:Ow)(x y:D)(x7 x8:Option Sl):Ro:=[aT (.scr ns),PU ⟨PY,k0,d⟩,aT (iD I),aT (iD a),aT (iD b),PU ⟨PY,k5,.lst (os.map oD)⟩,PU ⟨PY,k0,p8 x y⟩,x7,x8,PV,PV]
theorem Bp{ns:List Int}{d x y:D}{I a b:Nat}{os:List (Option Nat)}(C:Ct)(hS:qh d)(hz:Sz I a b)(ho:os.length<=2)(hx:cj 90 x=PX)(hy:cj 90 y=PX)(h:wf x y (aJ I a os) (aJ I b os)) :
  Wp (aP rH 1000 (match tV with|.cons _ (.cons _ (.cons _ (.cons _ (.cons _ (.cons _ (.cons _ r))))))=>r|r=>r) [] (RY ns d I a b os .fz x y (aT (cD (aJ I a os))) (aT (cD (aJ I b os))))) λr=>Wp (gW (PU r)) λx=>x=(.sh,.bl PX):=by
 have fin:=@Bn ns;have ha:=hz.a1;have hb:=hz.b1;unfold tV at fin⊢;refine tT (jR (aU (iO (m:=3) rfl rfl hS (ad rfl) (by decide) (by decide) λr d hr hS=>ac (ad (ae ⟨_,_,rfl,eE ⟨λe=>?_,λe=>bE ?_⟩⟩)))))
 ·refine aY (aw (aG (ac (aG (ac (ad (ac (ad (ae (aC rfl (ac (aG (ac (ad (ac (ad (ae (aC rfl (ae (aC rfl ⟨⟨rfl,by decide⟩,?_⟩))))))))))))))))))));show Wp (aP _ _ _ [] (RY ns d I a b os .fz unl unl (aT (cD (aJ I a os))) (aT (cD (aJ I b os))))) _
  have last:∀{d:D} {I':Nat} {os':List (Option Nat)},qh d->os'.length<=100->¬(I=I'/\os.length=os'.length)->Wp (aP rH 1000 (.cons (.ifs (.cmp .Eq (.fin (.io 15 (.ref 1 (.val (.p (.lit (.int 2))) .nil))) (.cons (.lit (.int 0)) .nil))) (.cons (.par 7 8 (.cons (.var 8) (.cons (.var 7) .nil))) .nil) .nil) .nil) [] (RY ns d I a b os .fz unl unl (aT (cD (aJ I a os))) (aT (cD (aJ I' b os'))))) (Kt rH 1000 (match tV with|.cons _ (.cons _ (.cons _ (.cons _ (.cons _ (.cons _ (.cons _ (.cons _ r)))))))=>r|r=>r) [] λr=>Wp (gW (PU r)) λx=>x=(.sh,.bl PX)):=by
   intro d I' os' hS ho' hne;have ha':=uo (I:=I) (n:=a) (os:=os) (by lia) (by lia);have hb':=uo (I:=I') (n:=b) (os:=os') (by lia) (by lia);unfold tV;refine tT (jR (aU (iO (m:=2) rfl rfl hS (ad rfl) (by decide) (by decide) λr d hr hS=>ac (ad (ae ⟨_,_,rfl,eE ⟨λe=>?_,λe=>bE (bn (cP ?_))⟩⟩)))))
   ·refine CH (ac (aa rfl (ac (aa rfl (ae ⟨_,_,rfl,⟨⟨rfl,rfl⟩,by decide,by decide,by decide⟩,bn (cP (bn (cP ?_)))⟩)))));exact fin (d:=d) (dI:=iD I) (da:=iD a) (db:=iD b) (dos:=.lst (os.map oD)) (x:=unl) (y:=unl) (A:=aJ I' b os') (B:=aJ I a os) (k5:=.fz) hb' ha' eY eY (C.unl (by simp only[aJ,MY];lia))
   ·exact fin (d:=d) (dI:=iD I) (da:=iD a) (db:=iD b) (dos:=.lst (os.map oD)) (x:=unl) (y:=unl) (A:=aJ I a os) (B:=aJ I' b os') (k5:=.fz) ha' hb' eY eY (C.unl (by simp only[aJ,MY];lia))
  unfold tV at last;refine tT (jR (aU (iO (m:=2) rfl rfl hS (ad rfl) (by decide) (by decide) λr d hr hS=>ac (ad (ae ⟨_,_,rfl,eE ⟨λe=>?_,λe=>?_⟩⟩)))))
  ·refine aY (lg (φ:=v9) rfl (aD (fQ (aD (aw (ak (aa rfl (ad (bL ⟨rfl,aU (iO (m:=2) rfl rfl hS (ad rfl) (by decide) (by decide) λr d hr hS=>ae ⟨_,_,rfl,bL ⟨rfl,aD (aw (aa rfl ⟨rfl,aU (lf rfl (ae (bt ⟨(.sh,cD (aJ (I+1+r) b os)),?_,rfl,.inl rfl,⟨rfl,by decide⟩,bn (cP ?_)⟩)))⟩))⟩⟩)⟩)))))))))
   ·show v9 [.int ((I:Int)+1+(r:Int)),iD b,.lst (os.map oD)]=_;rw[show(I:Int)+1+(r:Int)=((I+1+r:Nat):Int) by lia];exact jU hz.b0 (by lia) (by lia)
   ·exact last (d:=d) (I':=I+1+r) (os':=os) hS (by lia) (by lia)
  ·have er:v9 [iD I,iD b,.lst ((os++[PV]).map oD)]=PU (.sh,cD (aJ I b (os++[PV]))):=jU hz.b0 (by lia) (by rw[ND];show os.length+1<=100;lia);refine aY (aw (we (φ:=v9) (ds:=[iD I,iD b,.lst ((os++[PV]).map oD)]) (x:=(.sh,cD (aJ I b (os++[PV])))) rfl (ac (aa rfl (ac (aa rfl (ac (ak (aa rfl (aG (ac (ad (ae (aC rfl (jl ⟨rfl,rfl,?_⟩ (ae ⟨?_,?_⟩)))))))))))))) (by exact er) rfl ⟨⟨rfl,by decide⟩,bn (cP ?_)⟩))
   ·rw[MY];show os.length+1<=100000;lia
   ·show [iD I,iD b,D.lst (os.map oD++[.non])]=_;rw[Nw];rfl
   ·rfl
   ·exact last (d:=d) (I':=I) (os':=os++[PV]) hS (by simp;lia) (by simp)
 ·exact fin (d:=d) (dI:=iD I) (da:=iD a) (db:=iD b) (dos:=.lst (os.map oD)) (x:=x) (y:=y) (A:=aJ I a os) (B:=aJ I b os) (k5:=.fz) (uo (by lia) (by lia)) (uo (by lia) (by lia)) hx hy h
theorem vT{ns:List Int}{d x y:D}{I a b:Nat}{os:List (Option Nat)}(C:Ct)(hS:qh d)(hz:Sz I a b)(ho:os.length<=2)(hx:cj 90 x=PX)(hy:cj 90 y=PX)(h:wf x y (aJ I a os) (aJ I b os)) :
  Wp (aP rH 1000 (match tV with|.cons _ (.cons _ (.cons _ (.cons _ (.cons _ r))))=>r|r=>r) [] (RY ns d I a b os .fz x y PV PV)) λr=>Wp (gW (PU r)) λx=>x=(.sh,.bl PX):=by
 have fin:=@Bp ns d x y I a b os C hS hz ho hx hy h;have ha:=hz.a1;have hb:=hz.b1;have e1:v9 [iD I,iD a,.lst (os.map oD)]=PU (.sh,cD (aJ I a os)):=jU hz.a0 (by lia) (by lia);have e2:v9 [iD I,iD b,.lst (os.map oD)]=PU (.sh,cD (aJ I b os)):=jU hz.b0 (by lia) (by lia);unfold tV at fin⊢;refine aY (lg (φ:=v9) rfl (aD (aw (aa rfl ⟨rfl,aD (aw (aa rfl ⟨rfl,aU (lf rfl (ae (bt ⟨(.sh,cD (aJ I a os)),by exact e1,rfl,.inl rfl,⟨rfl,by decide⟩,?_⟩)))⟩))⟩))));refine aY (lg (φ:=v9) rfl (aD (aw (aa rfl ⟨rfl,aD (aw (aa rfl ⟨rfl,aU (lf rfl (ae (bt ⟨(.sh,cD (aJ I b os)),by exact e2,rfl,.inl rfl,⟨rfl,by decide⟩,?_⟩)))⟩))⟩))));exact fin
theorem Bq{ns:List Int}{d x y:D}{I a b:Nat}{os:List (Option Nat)}(C:Ct)(hS:qh d)(hz:Sz I a b)(ho:os.length<=2)(hx:cj 90 x=PX)(hy:cj 90 y=PX)(h:I<=6->wf x y (aJ I a os) (aJ I b os)) :
  Wp (aP rH 1000 (match tV with|.cons _ (.cons _ (.cons _ (.cons _ r)))=>r|r=>r) [] (RY ns d I a b os .fz x y PV PV)) λr=>Wp (gW (PU r)) λx=>x=(.sh,.bl PX):=by
 have fin:=@vT ns d;unfold tV at fin⊢;refine bq (z:=decide ((6:Int)<(I:Int))) (aI (aa rfl (ad (fP rfl)))) (λe=>?_) λe=>bE ?_
 ·have e:(6:Int)<(I:Int):=of_decide_eq_true e;refine aY (aw (aG (ac (aG (ac (ad (ac (ad (ae (aC rfl (ac (aG (ac (ad (ac (ad (ae (aC rfl (ae (aC rfl ⟨⟨rfl,by decide⟩,bn (cP ?_)⟩))))))))))))))))))));exact fin (x:=grt) (y:=grt) C hS hz ho jY jY (C.gr6 rfl (by simp[aJ]) (by show 6<I;lia))
 ·have e:¬(6:Int)<(I:Int):=of_decide_eq_false e;exact fin C hS hz ho hx hy (h (by lia))
theorem yT(C:Ct)(ns:List Int)(hl:ns.length<=63):IY [.scr ns]=PU (.sh,.bl PX):=by
 have fin:=@Bq ns;unfold IY;refine cr (dB rfl ?_);unfold tV at fin⊢
 walk_at "nm"
 refine aY (aw (cb (φ:=IQ) rfl (ac (aa rfl (ae (bt (yN hl λd hS=>⟨rfl,.inl rfl,⟨rfl,by decide⟩,?_⟩)))))));refine Fe (Co (φ:=IW) rfl (rE (i:=1) rfl (rD ⟨by simp[dS],[(k0,d)],rfl,yQ hS λI a b d hz hS=>⟨rfl,rfl,[iD I,iD a,iD b],[],.fz,rfl,rfl,⟨rfl,rfl⟩,?_⟩⟩)));show Wp (aP _ _ _ [] [aT (.scr ns),PU ⟨PY,k0,d⟩,aT (iD I),aT (iD a),aT (iD b),PV,PV,PV,PV,PV,PV]) _;refine aY (tQ (tR (iO (m:=3) rfl rfl hS (ad rfl) (by decide) (by decide) λk d hk hS=>li (dP (by lia) (by lia) (by lia) (by lia) (by lia)) ⟨rfl,?_,?_⟩)))
 ·show(en 0 (k:Int)).length<=_;rw[eU,MY,Nn];lia
 show Wp (aN .fz _ (en 0 (k:Int)) [PV,PV,PV,PU ⟨PY,k0,d⟩]) _;rw[eU];refine Bo rfl hS λos d ho hS=>⟨rfl,⟨rfl,by decide⟩,?_⟩;show Wp (aP _ _ _ [] [aT (.scr ns),PU ⟨PY,k0,d⟩,aT (iD I),aT (iD a),aT (iD b),PU ⟨PY,k0,.lst (os.map oD)⟩,PV,PV,PV,PV,PV]) _;have ho:os.length<=2:=by lia
 have ha:=hz.a1;have hb:=hz.b1;have hi:=hz.i;have hab:a*b<=43*43:=Nat.mul_le_mul ha hb;refine aY (lg (φ:=AV) rfl (aD (aw (aa rfl ⟨rfl,aD (aw (aa rfl ⟨rfl,aD (aw (aa rfl ⟨rfl,aU (lg (φ:=IX) rfl (aD (aw (aa rfl ⟨rfl,aD (aw (aa rfl ⟨rfl,aU (lf rfl (ae (bt (Bh hz.a0 hz.b0 (by lia) (by lia) (by lia) (λT hT hA hF=>?_) λhA=>?_))))⟩))⟩))))⟩))⟩))⟩))))
 ·have e:=yP (I:=I) (a:=a) (b:=b) (n:=T+1) (by lia) (by lia);refine⟨rfl,.inl rfl,ae (bt ⟨(.fr k0,p8 (ou (eW (M3 (T+1) (jB I)))) (ou .non)),by exact e,rfl,.inl rfl,⟨rfl,by decide⟩,?_⟩)⟩;exact fin (d:=d) (x:=ou (eW (M3 (T+1) (jB I)))) (y:=ou .non) C hS hz ho (jX yR) (jX rfl) λh6=>C.row hz h6 ho hT hA hF
 ·by_cases h3:Nk a b<=300
  ·have e:=rR (I:=I) (a:=a) (b:=b) (n:=Nk a b) hz.a0 hz.b0 (by lia) (by lia) h3;refine⟨rfl,.inl rfl,ae (bt ⟨(.fr k0,p8 (ou .non) (ou (.lst ((g8 a b (Nk a b)).map aE)))),by exact e,rfl,.inl rfl,⟨rfl,by decide⟩,?_⟩)⟩;exact fin (d:=d) (x:=ou .non) (y:=ou (.lst ((g8 a b (Nk a b)).map aE))) C hS hz ho (jX rfl) (jX vR) λh6=>C.prs hz h6 ho hA h3
  ·have e:=rQ (I:=I) (a:=a) (b:=b) (n:=Nk a b) (by lia);refine⟨rfl,.inl rfl,ae (bt ⟨(.fr k0,p8 grt grt),by exact e,rfl,.inl rfl,⟨rfl,by decide⟩,?_⟩)⟩;exact fin (d:=d) (x:=grt) (y:=grt) C hS hz ho jY jY λh6=>C.grt hz h6 ho hA (by lia)
theorem Br{a b t:Nat}{os:List (Option Nat)}:d8 a b os (t%Nk a b)=d8 a b os t:=by
 have e:∀{n:Nat},n ∣ Nk a b->qg n (t%Nk a b)=qg n t:=λ{n} h=>funext λo=>by
  cases o with
  |none=>rfl
  |some v=>
   show decide (v%n=t%Nk a b%n)=decide (v%n=t%n);rw[Nat.mod_mod_of_dvd t h]
 unfold d8;rw[e (O1 a b),e (PB a b)]
theorem vU{a b:Nat}{os:List (Option Nat)}(ha:0<a)(hb:0<b)(ha1:a<=43)(hb1:b<=43)(h:∀j,j<86->d8 a b os j=PX)(t:Nat):d8 a b os t=PX:=by
 refine alR_all.mpr λo ho=>?_
 cases o with
 |none=>rfl
 |some v=>
  have at_:∀j,j<86->(v%a=j%a↔v%b=j%b):=λj hj=>by
   have:decide (v%a=j%a)=decide (v%b=j%b):=alR_all.mp (h j hj) _ ho;exact decide_eq_decide.mp this
  have h1:=N5 v ha;have h2:=N5 v hb;have p1:v%b=(v%a)%b:=(at_ (v%a) (by lia)).mp (Pa v a).symm;have p2:v%b=(v%a+a)%b:=(at_ (v%a+a) (by lia)).mp (by rw[Ox,Pa]);have p3:v%a=(v%b)%a:=(at_ (v%b) (by lia)).mpr (Pa v b).symm;have p4:v%a=(v%b+b)%a:=(at_ (v%b+b) (by lia)).mpr (by rw[Ox,Pa])
  have d1:b ∣ a:=Od (by
   have:=NX (p2.symm.trans p1);rwa [Ot] at this)
  have d2:a ∣ b:=Od (by
   have:=NX (p4.symm.trans p3);rwa [Ot] at this)
  have:=Nat.dvd_antisymm d1 d2;subst this;rfl
theorem Sz.rg{I a b:Nat}{os:List (Option Nat)}(h:Sz I a b)(h6:I<=6)(ho:os.length<=2):Rg I a b os:=⟨h.a0,h.b0,by have:=h.a1;lia,by have:=h.b1;lia,h6,by lia⟩
theorem yU{a b:Nat}(ha:0<a)(hb:0<b):Nk a b<=a*b:=Nat.le_of_dvd (Nat.mul_pos ha hb) (Nat.lcm_dvd (Nat.dvd_mul_right a b) (Nat.dvd_mul_left b a))
theorem Bs{I a b T:Nat}{os:List (Option Nat)}(h:Sz I a b)(hF:d8 a b os T=PY):rP a b os:=λk _ hA=>by
 refine Decidable.byContradiction λhk=>?_;have:=vU h.a0 h.b0 h.a1 h.b1 (os:=os) (λj hj=>hA j (by lia)) T;rw[hF] at this;cases this
theorem Bt{a b:Nat}{os:List (Option Nat)}(h:Nk a b<=300):rP a b os:=λk hk _=>by lia
theorem Bu{I a b T:Nat}{os:List (Option Nat)}(h:Sz I a b)(h6:I<=6)(ho:os.length<=2)(hT:T<a*b)(hA:∀j,j<T->d8 a b os j=PX)(hF:d8 a b os T=PY):(∃x,ψ7 [cD (aJ I a os),cD (aJ I b os)]=PU x)/\ψ5 [cD (aJ I a os),cD (aJ I b os)]=PU (.sh,eW (M3 (T+1) (jB I)))/\ψ6 [cD (aJ I a os),cD (aJ I b os)]=PU (.sh,.non):=by
 have hL:=uj h.a0 h.b0
 obtain⟨x,e,fs',rfl⟩:Wp (ψ7 [cD (aJ I a os),cD (aJ I b os)]) λx=>∃fs':List P,x=(.sh,.tup [yH (PU (M3 (T+1) (jB I))),.lst (fs'.map aE)]):=by
  refine lp (h.rg h6 ho) (Bs h hF) (λT' fs' h1 h2 h3=>⟨fs',?_⟩) λhall=>?_
  ·have:T'=T:=by
    rcases Nat.lt_trichotomy T' T with z|z|z
    ·rw[hA T' z] at h3;cases h3
    ·exact z
    ·rw[h2 T z] at hF;cases hF
   subst this;rfl
  ·have:=hall (T%Nk a b) (N5 _ hL);rw[Br,hF] at this;cases this
 exact⟨⟨_,e⟩,mH e,p7 e⟩
theorem Bv{I a b:Nat}{os:List (Option Nat)}(h:Sz I a b)(h6:I<=6)(ho:os.length<=2)(hA:∀j,j<a*b->d8 a b os j=PX)(h3:Nk a b<=300):(∃x,ψ7 [cD (aJ I a os),cD (aJ I b os)]=PU x)/\ψ5 [cD (aJ I a os),cD (aJ I b os)]=PU (.sh,.non)/\ψ6 [cD (aJ I a os),cD (aJ I b os)]=PU (.sh,.lst ((g8 a b (Nk a b)).map aE)):=by
 obtain⟨x,e,rfl⟩:Wp (ψ7 [cD (aJ I a os),cD (aJ I b os)]) λx=>x=(.sh,.tup [yH PV,.lst ((g8 a b (Nk a b)).map aE)]):=by
  refine lp (h.rg h6 ho) (Bt h3) (λT' fs' h1 h2 h3=>?_) λhall=>rfl;rw[hA T' (M6 h1 (yU h.a0 h.b0))] at h3;cases h3
 exact⟨⟨_,e⟩,mH e,p7 e⟩
section
variable {Γ:GG} {N:Nat} {pn:List Nat} {ρ:Ro} {r:Res}
theorem dR{s:IS}{rest:bZ}{f fr:Ro->RX}(h:aP Γ N (.cons s rest) pn ρ=PU r)(hf:∀ρ r,dh Γ N s pn ρ=PU r->f ρ=PU (PU r))(hr:∀ρ r,aP Γ N rest pn ρ=PU r->fr ρ=PU (PU r)):bI (f ρ) fr=PU (PU r):=by
 rw[aP] at h;unfold gw at h;split at h
 ·rename_i ρ1 e;rw[hf _ _ e];exact hr _ _ h
 ·rename_i h1;rw[hf _ _ h]
  cases r with
  |nx ρ1=>exact absurd h (h1 ρ1)
  |_=>rfl
theorem ox{f:Ro->Option Res}(h:f ρ=PU r):e7 f ρ=PU (PU r):=by unfold e7;rw[h];rfl
theorem Jg{t:MT}{a b:bZ}{fa fb:Ro->RX}(h:dh Γ N (.ifs t a b) pn ρ=PU r)(ha:∀ρ r,aP Γ N a pn ρ=PU r->fa ρ=PU (PU r))(hb:∀ρ r,aP Γ N b pn ρ=PU r->fb ρ=PU (PU r)):gX (bh Γ t ρ) fa fb=PU (PU r):=by
 rw[nO] at h;unfold vj at h;unfold gX;split at h
 ·rename_i e;(try rw[e]);exact ha _ _ h
 ·rename_i e;(try rw[e]);exact hb _ _ h
 ·cases h
theorem jZ{fg:List Nat}{tg:IT}{fb:Ro->Option Res}{fx:Ro->RX}(hb:∀ρ r,fb ρ=PU r->fx ρ=PU (PU r)):∀{ds:List D} {ρ:Ro} {r:Res},cA pn fg tg fb ds ρ=PU r->gx pn fg tg fx ds ρ=PU (PU r)
 |[],ρ,r,h=>by cases h;rfl
 |d::ds,ρ,r,h=>by
  unfold cA at h;unfold gx;split at h
  ·rename_i ps e
   (try rw[e])
   (try dsimp only)
   split at h
   ·rename_i hp;rw[if_pos hp];split at h
    ·rename_i ρ2 e2;rw[hb _ _ e2];exact jZ hb h
    ·rename_i ρ2 e2;rw[hb _ _ e2];exact jZ hb h
    ·rename_i ρ2 e2;rw[hb _ _ e2];cases h;rfl
    ·rename_i k d ρ2 e2;rw[hb _ _ e2];cases h;rfl
    ·cases h
   ·cases h
  ·cases h
theorem FJ{fg:List Nat}{tg:IT}{it:MI}{b:bZ}{fx:List Nat->Ro->RX}(h:dh Γ N (.fo fg tg it b) pn ρ=PU r)(hb:∀pn ρ r,aP Γ N b pn ρ=PU r->fx pn ρ=PU (PU r)):kY pn fg tg fx (dA Γ it ρ)=PU (PU r):=by
 rw[nP] at h;unfold mq at h;unfold kY;split at h
 ·rename_i bs ds ρ1 e
  (try rw[e])
  (try dsimp only)
  unfold mn at h;split at h
  ·rename_i ρ2 e2;rw[jZ (hb _) e2];cases h;rfl
  ·rename_i k d ρ2 e2;rw[jZ (hb _) e2]
   show(if bX k=PX then PV else PU (PU (Res.rt k d (q8 bs ρ1 ρ2))))=_
   split at h
   ·cases h
   ·rename_i hk;rw[if_neg hk];cases h;rfl
  ·cases h
 ·cases h
end
theorem rT(ρ:Ro)(r:Res)(h:aP Γ_12 1000 .nil pn ρ=PU r):tX ρ=PU (PU r):=by
 rw[aP] at h;cases h;rfl
theorem gA(ρ:Ro)(r:Res)(h:dh Γ_12 1000 s pn ρ=PU r):cl s pn ρ=PU (PU r):=ox h
theorem Jh(ρ:Ro)(r:Res)(h:dh Γ_12 1000 s pn ρ=PU r):wa (cl s pn) f' ρ=PU (PU r):=by unfold wa;rw[gA ρ r h]
theorem ut(ρ:Ro)(r:Res)(h:aP Γ_12 1000 (match b7 with|.cons _ (.cons _ (.cons _ (.cons _ (.cons _ (.cons (.wh _ _ c) _)))))=>c|c=>c) [] ρ=PU r):Fk ρ=PU (PU r):=by
 unfold Fk;unfold b7 at h⊢;refine dR h (λρ r h=>FJ h λpn ρ r h=>?_) λρ r h=>dR h gA rT;unfold IV b7;exact dR h gA λρ r h=>dR h gA λρ r h=>dR h (λρ r h=>Jg h (λρ r h=>dR h Jh λρ r h=>ox h) rT) rT
theorem CJ{fr:Ro->RX}(h:a=PU (PU (.nx ρ1)))(h2:fr ρ1=r):bI a fr=r:=by rw[h];exact h2
theorem zl(h:a=PU PV):bI a fr=PU PV:=by rw[h];rfl
theorem CK{α:Type}{x:Option α}{y:α}(h:Wp x λr=>r=y):x=PU y:=by
 obtain⟨r,e,rfl⟩:=h;exact e
theorem ls(h:Wp (aP Γ_12 1000 (.cons s .nil) pn ρ) λr=>r=x):cl s pn ρ=PU (PU x):=by
 have e:=CK h;refine gA ρ x ?_;rw[aP] at e;unfold gw at e;split at e
 ·rename_i ρ1 e1;rw[aP] at e;rw[e1];exact e
 ·exact e
theorem Bw:ψ9 [.int 301]=PV:=by rfl
theorem Ji{fs:List P}(hf:fs.length=300){ρ:Ro}(h2:ρ[2]?=PU (PU ⟨PY,k0,.lst (fs.map aE)⟩)):wa (cl (.exp (.p (.fn 9 Fh))) []) (vG Fh Fg) ρ=PU PV:=by
 obtain⟨kds,e,q⟩:Wp (aW Γ_12.fn Fh ρ) λkds=>kds.map (·.2)=[.int 301]:=by
  unfold Fh;refine ac (ak (bv (ac (aa h2 (ae (ci (ad (bL (ae ?_)))))))));show [D.int (((fs.map aE).length:Int)+1)]=_;rw[MY,hf];rfl
 have hn:cl (.exp (.p (.fn 9 Fh))) [] ρ=PV:=by
  show(dh Γ_12 1000 (.exp (.p (.fn 9 Fh))) [] ρ).map PU=PV;rw[tF,sW,xz,e];show(vi (HV (qN ψ9 kds) ρ)).map PU=PV;unfold qN;rw[q,Bw];rfl
 unfold wa vG;rw[hn,e];dsimp only;rw[q];rfl
theorem yV{at_:Nat}{fs:List P}{rows:JJ}{r:List (List Bool)}{s:Nat}(ha:Ok a)(hr:rows[at_]?=PU r)(hrl:r.length<=1000)(hf:fs.length=300)(hal:vO a b p s=PX)(hq:iR a b p s∉fs) :
  IV [] (RS a b at_ fs rows (aT (iD s)) (aT (.bl (vO a b p s))) (aT (aE (iR a b p s))) PV)=PU PV:=by
 unfold IV b7;refine CJ (ls (aY (aw (ak (aQ (aa rfl (aa rfl (aB (n:=at_) (d:=eW r) (.inl rfl) rfl (by rw[M0,hr];rfl) (aG (ac (cb (φ:=Gn) rfl (ac (aa rfl (ac (aQ (aa rfl (ad (aB (n:=0) (.inr rfl) rfl rfl (ae (bt ⟨_,mC ha.bi s,rfl,.inl rfl,ae (aC rfl (jl ⟨rfl,rfl,by simp;lia⟩ ⟨⟨rfl,by decide⟩,bn rfl⟩))⟩)))))))))))))))))))) ?_;rw[hal];refine CJ (ls (bq (z:=PY) (nX (d7 rfl (aa rfl (n6 rfl rfl)))) (λe=>by cases e) λ_=>bE (bn rfl))) ?_;refine zl ?_;have hke:=oj (iR a b p s)
 have ht:∀{ρ:Ro},ρ[8]?=PU (aT (aE (iR a b p s)))->ρ[4]?=PU (PU ⟨PY,k0,Gs fs⟩)->bh Γ_12 (.p (.cmp .NotIn (.fn 10 (.cons (.var 8) .nil)) (.var 4))) ρ=PU (PX,ρ):=λ{ρ} h8 h4=>by
  refine CK (fS (aI (cb (φ:=AU) rfl (ac (aa h8 (ae (bt ⟨_,hke,rfl,.inl rfl,aa h4 (CF ?_)⟩)))))));rw[decide_eq_false hq];rfl
 unfold gX;rw[ht rfl rfl];dsimp only;refine zl ?_;exact Ji hf rfl
theorem yW{ft:Ro->Option (Bool×Ro)}{fb:Ro->RX}{n:Nat}(ht:ft (clrN fg ρ)=PU (PX,ρ1))(hb:fb ρ1=PU PV):dN fg ft fb (n+1) ρ=PU PV:=by
 unfold dN;rw[ht];dsimp only;rw[hb]
theorem FK{ft:Ro->Option (Bool×Ro)}{fb:Ro->RX}{n:Nat}(ht:ft (clrN fg ρ)=PU (PX,ρ1))(hb:fb ρ1=PU (PU (.nx ρ2)))(h:dN fg ft fb n ρ2=r):dN fg ft fb (n+1) ρ=r:=by
 unfold dN;rw[ht];dsimp only;rw[hb];exact h
theorem yX{pn fg:List Nat}{fx:List Nat->Ro->RX}{bs:List Nat}{ps:List (Nat×D)}(hi:it=PU (bs,d::l,ρ))(ht:nA tg d=PU ps)(hp:(ps.all λq=>!(pn++bs).contains q.1)=PX)(hb:fx (pn++bs) (setAll ps (clrN fg (clrN bs ρ)))=PU PV):kY pn fg tg fx it=PU PV:=by
 rw[hi];unfold kY;dsimp only;unfold gx;rw[ht];dsimp only;rw[if_pos hp,hb];rfl
section
variable {I a b:Nat} {os:List (Option Nat)}
theorem vV{k:Nat}(h:Rg I a b os)(hk:k+1=300)(hL:k+1<Nk a b)(hal:d8 a b os k=PX):Fk (RT I a b os k (k+1) PV PV PV x9)=PU PV:=by
 have eal:∀s,vO (aJ I a os) (aJ I b os) (dQ a b k) s=d8 a b os k:=λs=>p0 h.a0 h.b0 og;have enx:∀s,iR (aJ I a os) (aJ I b os) (dQ a b k) s=dQ a b (k+1):=λs=>ug h.a0 h.b0 og
 have hi:dA Γ_12 (.p (.enm (.fn 12 (.cons (.var 0) (.cons (.var 1) (.cons (.ix (.var 2) (.var 5)) .nil)))))) (RT I a b os k (k+1) PV PV PV x9)=PU ([],((M4 (2^I)).map (A4 (aJ I a os) (aJ I b os) (dQ a b k))).mapIdx (λi d=>D.tup [.int i,d]),RT I a b os k (k+1) PV PV PV x9):=
  CK (fc (rA (cb (φ:=Gp) rfl (ac (aa rfl (ac (aa rfl (ac (aQ (aa rfl (aa rfl (aB (n:=k) (d:=aE (dQ a b k)) (.inl rfl) rfl (by rw[M0,rO (NR k)];rfl) (ae (bt ⟨_,ua h.oa h.ob rfl (by rw[gf,eV]) (by rw[gf,eV]),rfl,.inl rfl,yI rfl rfl⟩))))))))))))))
 obtain⟨n,hn⟩:∃n,2^I=n+1:=⟨2^I-1,by have:=Oo I;lia⟩
 obtain⟨l,hl⟩:∃l,((M4 (2^I)).map (A4 (aJ I a os) (aJ I b os) (dQ a b k))).mapIdx (λi d=>D.tup [.int i,d])=D.tup [.int 0,A4 (aJ I a os) (aJ I b os) (dQ a b k) 0]::l:=by
  rw[hn,List.range_succ_eq_map,Nu,List.mapIdx_cons];exact⟨_,rfl⟩
 rw[hl] at hi;have hb:=yV (a:=aJ I a os) (b:=aJ I b os) (at_:=k) (fs:=g8 a b (k+1)) (rows:=wc I (k+1)) (p:=dQ a b k) (s:=0) (r:=M3 k (jB I)) h.oa (yJ (NR k)) (by rw[N1];lia) (by rw[eX,hk]) (by rw[eal];exact hal) (by rw[enx];exact uh h.a0 h.b0 hL);unfold Fk b7;exact zl (yX (ps:=[(6,iD 0),(7,.bl (vO (aJ I a os) (aJ I b os) (dQ a b k) 0)),(8,aE (iR (aJ I a os) (aJ I b os) (dQ a b k) 0))]) hi rfl rfl hb)
noncomputable abbrev tW:MT:=.p (.cmp .Lt (.var 5) (.blt "len" (.cons (.var 2) .nil)))
theorem FL(h:Rg I a b os)(hL:300<Nk a b)(hA:∀j,j<300->d8 a b os j=PX):∀(m k n:Nat) (x6 x7 x8 x9:Option Sl),k+m+1=300->m<n->dN [6,7,8] (bh Γ_12 tW) Fk n (RT I a b os k (k+1) x6 x7 x8 x9)=PU PV:=by
 have ht:∀(k:Nat) (x9:Option Sl),bh Γ_12 tW (RT I a b os k (k+1) PV PV PV x9)=PU (PX,RT I a b os k (k+1) PV PV PV x9):=λk x9=>CK (fS (aI (aa rfl (bv (ac (aa rfl (ae (ci (yp (by rw[MY,eX,decide_eq_true (show(k:Int)<((k+1:Nat):Int) by lia)]))))))))));intro m
 induction m with
 |zero=>
  intro k n x6 x7 x8 x9 hk hn;obtain⟨n,rfl⟩:∃n',n=n'+1:=⟨n-1,by lia⟩;exact yW (ht k x9) (vV h hk (by lia) (hA k (by lia)))
 |succ m ih=>
  intro k n x6 x7 x8 x9 hk hn;obtain⟨n,rfl⟩:∃n',n=n'+1:=⟨n-1,by lia⟩;obtain⟨r,er,y6,y7,y8,y9,rfl⟩:=ui (I:=I) (a:=a) (b:=b) (k:=k) (os:=os) (x9:=x9) (Q:=λr=>∃y6 y7 y8 y9,r=.nx (RT I a b os (k+1) (k+2) y6 y7 y8 y9)) h (by lia) (by lia) (λ_ _=>by lia) (λz=>by rw[hA k (by lia)] at z;cases z) λ_ y6 y7 y8 y9=>⟨y6,y7,y8,y9,by rw[show lH a b k=k+2 by unfold lH;rw[if_pos (by lia)]]⟩;exact FK (ht k x9) (ut _ _ er) (ih (k+1) n y6 y7 y8 y9 (by lia) (by lia))
end
theorem FM{A B:Ci}:eT [cD A,cD B]=!(decide (A.ins=B.ins)&&decide (A.outs.length=B.outs.length)):=by
 show(!(decide ((A.ins:Int)=(B.ins:Int))&&decide ((A.outs.map iD).length=(B.outs.map iD).length)))=_;rw[MY,MY,decide_eq_decide.mpr (show(A.ins:Int)=(B.ins:Int)↔A.ins=B.ins by lia)]
theorem Jj{A B:Ci}:fw [cD A,cD B]=(decide (A.ins=B.ins)&&decide (A.outs.length=B.outs.length)&&decide (6<A.ins)):=by
 show(decide ((A.ins:Int)=(B.ins:Int))&&decide ((A.outs.map iD).length=(B.outs.map iD).length)&&decide ((6:Int)<(A.ins:Int)))=_;rw[MY,MY,decide_eq_decide.mpr (show(A.ins:Int)=(B.ins:Int)↔A.ins=B.ins by lia),decide_eq_decide.mpr (show(6:Int)<(A.ins:Int)↔6<A.ins by lia)]
noncomputable abbrev i7(A B:Ci):Ro:=[aT (cD A),aT (cD B),PV,PV,PV,PV,PV,PV,PV,PV]
theorem LW{P:List D->Bool}{A B:Ci}{ρ:Ro}(h0:ρ[0]?=PU (aT (cD A)))(h1:ρ[1]?=PU (aT (cD B))):vG wb P ρ=if P [cD A,cD B]=PX then PU PV else PV:=by
 obtain⟨kds,e,q⟩:Wp (aW Γ_12.fn wb ρ) λkds=>kds.map (·.2)=[cD A,cD B]:=by
  unfold wb;exact ac (aa h0 (ac (aa h1 (ae rfl))))
 unfold vG;rw[e];dsimp only;rw[q]
theorem yY{P:List D->Bool}{A B:Ci}(h:P [cD A,cD B]=PX):x7 P (i7 A B)=PU PV:=by
 unfold x7 b7;refine zl ?_;unfold wa;rw[LW rfl rfl,if_pos h]
theorem yZ{I a b:Nat}{os:List (Option Nat)}{P:List D->Bool}(hP:P [cD (aJ I a os),cD (aJ I b os)]=PY)(h:Rg I a b os)(hL:300<Nk a b)(hA:∀j,j<300->d8 a b os j=PX):x7 P (i7 (aJ I a os) (aJ I b os))=PU PV:=by
 have gq:=FL h hL hA 299 0 1000 PV PV PV PV (by decide) (by decide);unfold x7 b7;refine CJ (ρ1:=i7 (aJ I a os) (aJ I b os)) ?_ ?_
 ·unfold wa;rw[LW (A:=aJ I a os) (B:=aJ I b os) rfl rfl,hP];exact ls (gz (aw (we (φ:=ψ8) (ds:=[cD (aJ I a os),cD (aJ I b os)]) rfl (ac (aa rfl (ac (aa rfl (ae ⟨rfl,rfl⟩))))) (mE h.oa rfl (by simp[aJ])) rfl (bn rfl))))
 refine CJ (ls (aY (aw (aG (ac (dO (ac (we (φ:=ψ1) (ds:=[cD (aJ I a os)]) rfl (ac (aa rfl (ae ⟨rfl,rfl⟩))) (iM h.oa) rfl (ac (we (φ:=ψ1) (ds:=[cD (aJ I b os)]) rfl (ac (aa rfl (ae ⟨rfl,rfl⟩))) (iM h.ob) rfl (ae (bY rfl (ae (aC rfl ⟨⟨rfl,by decide⟩,bn rfl⟩)))))))))))))) ?_;refine CJ (ls (aY (aw (aG (ac (aG (ae (aC rfl (ae (aC rfl ⟨⟨rfl,by decide⟩,bn rfl⟩)))))))))) ?_;rw[iN h.a0,iN h.b0];refine CJ (ls (aY (aw (t6 (cb (φ:=AU) rfl (ac (aQ (aa rfl (ad (aB (n:=0) (d:=aE (dQ a b 0)) (.inl rfl) rfl rfl (ae (bt ⟨_,oj (dQ a b 0),rfl,.inl rfl,ad ⟨(.fr bQ,Gs [dQ a b 0]),by unfold js;dsimp only;rw[oi];rfl,⟨rfl,by decide⟩,bn rfl⟩⟩)))))))))))) ?_;refine CJ (ls (aY (aw (ad ⟨⟨rfl,by decide⟩,bn rfl⟩)))) ?_;exact zl gq
theorem rV{fg:List Nat}{ft:Ro->Option (Bool×Ro)}{fb:Ro->Option Res}{fx:Ro->RX}(hb:∀ρ r,fb ρ=PU r->fx ρ=PU (PU r)):∀{n:Nat} {ρ:Ro} {r:Res},gR fg ft fb n ρ=PU r->dN fg ft fx n ρ=PU (PU r)
 |0,ρ,r,h=>by cases h
 |n+1,ρ,r,h=>by
  unfold gR at h;unfold dN;split at h
  ·rename_i e;(try rw[e]);cases h;rfl
  ·rename_i e
   (try rw[e])
   (try dsimp only)
   split at h
   ·rename_i e2;rw[hb _ _ e2];exact rV hb h
   ·rename_i e2;rw[hb _ _ e2];exact rV hb h
   ·rename_i e2;rw[hb _ _ e2];cases h;rfl
   ·rename_i e2;rw[hb _ _ e2];cases h;rfl
   ·cases h
  ·cases h
theorem Bx{Γ:GG}{N:Nat}{pn:List Nat}{ρ:Ro}{r:Res}{s:IS}{rest:bZ}{a:RX}{fr:Ro->RX}(h:aP Γ N (.cons s rest) pn ρ=PU r)(hf:∀r,dh Γ N s pn ρ=PU r->a=PU (PU r))(hr:∀ρ r,aP Γ N rest pn ρ=PU r->fr ρ=PU (PU r)):bI a fr=PU (PU r):=by
 rw[aP] at h;unfold gw at h;split at h
 ·rename_i ρ1 e;rw[hf _ e];exact hr _ _ h
 ·rename_i h1;rw[hf _ h]
  cases r with
  |nx ρ1=>exact absurd h (h1 ρ1)
  |_=>rfl
theorem CL{P:List D->Bool}{A B:Ci}{x:KD}(h:ψ7 [cD A,cD B]=PU x)(hP:P [cD A,cD B]=PY):qf P [cD A,cD B]=PY:=by
 have h:gW (aP Γ_12 1000 b7 [] (i7 A B))=PU x:=h
 cases e:aP Γ_12 1000 b7 [] (i7 A B) with
 |none=>rw[e] at h;cases h
 |some r=>
  have hx:x7 P (i7 A B)=PU (PU r):=by
   have turn:=ut;unfold x7;unfold b7 at e turn⊢
   have h0:∀(s:IS) (r:Res),dh Γ_12 1000 s [] (i7 A B)=PU r->wa (vG wb P) (cl s []) (i7 A B)=PU (PU r):=λs r h=>by
    unfold wa;rw[LW (A:=A) (B:=B) rfl rfl,hP];exact gA _ _ h
   exact Bx e (h0 _) λρ r h=>dR h gA λρ r h=>dR h gA λρ r h=>dR h gA λρ r h=>dR h gA λρ r h=>dR h (λρ r h=>rV turn h) λρ r h=>ox h
  unfold qf
  show(match x7 P (i7 A B) with|some PV=>decide ([cD A,cD B].length=2)|_=>PY)=PY
  rw[hx]
theorem y3:¬PyData.strOk (Str.ofString "parted")=PY:=by decide +kernel
theorem y4:¬PyData.strOk (Str.ofString "pairs")=PY:=by decide +kernel
theorem By:jJ (.str "parted") (.str "parted")=PX:=by decide +kernel
theorem Bz:jJ (.str "pairs") (.str "parted")=PY:=by decide +kernel
theorem za(hu:eT [cD A,cD B]=PY)(hg:qf fw [cD A,cD B]=PY)(h5:ψ5 [cD A,cD B]=PU (.sh,x))(h6:ψ6 [cD A,cD B]=PU (.sh,y)):wf (ou x) (ou y) A B:=by
 have hu':¬eT [cD A,cD B]=PX:=by rw[hu];decide
 have hg':¬qf fw [cD A,cD B]=PX:=by rw[hg];decide
 refine⟨(if_neg y3).trans ((if_neg hu').trans ((if_neg hg').trans ?_)),(if_neg y4).trans ((if_neg hu').trans ((if_neg hg').trans ?_))⟩
 ·rw[By,if_pos rfl,h5]
 ·rw[Bz,if_neg (by decide),h6]
theorem Jk(hu:eT [cD A,cD B]=PX):wf unl unl A B:=by
 exact⟨(if_neg y3).trans (if_pos hu),(if_neg y4).trans (if_pos hu)⟩
theorem CM(hu:eT [cD A,cD B]=PY)(hg:qf fw [cD A,cD B]=PX):wf grt grt A B:=by
 have hu':¬eT [cD A,cD B]=PX:=by rw[hu];decide
 exact⟨(if_neg y3).trans ((if_neg hu').trans (if_pos hg)),(if_neg y4).trans ((if_neg hu').trans (if_pos hg))⟩
theorem zb{P:List D->Bool}{A B:Ci}(h:x7 P (i7 A B)=PU PV):qf P [cD A,cD B]=PX:=by
 unfold qf
 show(match x7 P (i7 A B) with|some PV=>decide ([cD A,cD B].length=2)|_=>PY)=PX
 rw[h];rfl
theorem FN{I a b:Nat}{os:List (Option Nat)}:eT [cD (aJ I a os),cD (aJ I b os)]=PY:=by rw[FM];simp[aJ]
theorem FO{I a b:Nat}{os:List (Option Nat)}(h:I<=6):fw [cD (aJ I a os),cD (aJ I b os)]=PY:=by rw[Jj,show(aJ I a os).ins=I from rfl,decide_eq_false (show ¬6<I by lia),Bool.and_false]
theorem ct:Ct where
 row hz h6 ho hT hA hF:=let ⟨⟨_,e⟩,h5,h6'⟩:=Bu hz h6 ho hT hA hF;za FN (CL e (FO h6)) h5 h6'
 prs hz h6 ho hA h3:=let ⟨⟨_,e⟩,h5,h6'⟩:=Bv hz h6 ho hA h3;za FN (CL e (FO h6)) h5 h6'
 grt {I a b os} hz h6 ho hA h3:=CM FN (zb (yZ (FO h6) (hz.rg h6 ho) h3 λj hj=>hA j (by have:=yU hz.a0 hz.b0;lia)))
 gr6 hi ho h6:=CM (by rw[FM,hi,ho];simp) (zb (yY (by rw[Jj,hi,ho] ;simp;lia)))
 unl h:=Jk (by rw[FM];simp;lia)
end K53
namespace K53
open PySem PySem.W L2 J
theorem BA{P:P6}{w:P8}{K:MW}{mg:Str->Option PZ}{base:Qa}{k:Nat}{C:P1}{X:Cx}{Z:Hp->Prop}{t:Tok}(R:gY P w K mg base k C X Z)(O:al X (a7 fns Γ_8) ⟨af s9,["many"],λ_=>PX⟩)(hm:mg "TooGreat" = PU (.ref C))(hp:mg "MOST_PAIRS" = PU (.int 300 t))(hc:excIn K C tK "ValueError.__new__" = PX) :
  bU X Z [] (λρ=>bI (gX (bh Γ_8 (.p (.cmp .Gt (.var 0) (.lit (.int 300)))) ρ) (λ_=>PU PV) tX) tX) (aH s9):=by
 refine bj (pM ((c8 _ _ 40).2 X _ O _ _ (by rfl)) (nT (k6 O (x:="TooGreat") (by rfl) (by rw[R.mg];exact hm) (by decide +kernel) (by rw[R.K];exact hc) (pJ (bp O (by rfl)) (by rw[R.mg];exact hp) (by decide +kernel) (by decide +kernel) (by decide +kernel) (by decide +kernel) (by decide +kernel)) rfl R.here)) eQ) eQ
theorem Jl:bU X Z pn (λ_=>PV) st:=λρ r h=>by cases h
noncomputable def JK:Ro->RX:=match b8 with
 |.cons (.ifs t _ _) _=>λρ=>bI (gX (bh Γ_4 t ρ) (λ_=>PU PV) tX) λ_=>PV
 |_=>λ_=>PV
noncomputable def JL:Ro->RX:=match b8 with
 |.cons (.ifs t _ _) (.cons (.ifs t' _ _) _)=>λρ=>bI (gX (bh Γ_4 t ρ) (λ_=>PV) tX) λρ=>bI (gX (bh Γ_4 t' ρ) (λ_=>PU PV) tX) tX
 |_=>λ_=>PV
section
variable {P:P6} {w:P8} {K:MW} {mg:Str->Option PZ} {base:Qa} {k:Nat} {C:P1} {X:Cx} {Z:Hp->Prop} {t:Tok}
theorem vW(R:gY P w K mg base k C X Z)(O:al X (a7 fns Γ_4) ⟨af s8,["one","other"],λ_=>PX⟩)(hm:mg "Unlike" = PU (.ref C))(hc:excIn K C tK "ValueError.__new__" = PX):bU X Z [] JK (aH s8):=by
 unfold JK b8;exact bj (pM ((c8 _ _ 40).2 X _ O _ _ (by rfl)) (nT (k6 O (x:="Unlike") (by rfl) (by rw[R.mg];exact hm) (by decide +kernel) (by rw[R.K];exact hc) vz rfl R.here)) eQ) Jl
theorem zc(R:gY P w K mg base k C X Z)(O:al X (a7 fns Γ_4) ⟨af s8,["one","other"],λ_=>PX⟩)(hm:mg "TooGreat" = PU (.ref C))(hp:mg "MOST_INS" = PU (.int 6 t))(hc:excIn K C tK "ValueError.__new__" = PX):bU X Z [] JL (aH s8):=by
 unfold JL b8;exact bj (pM ((c8 _ _ 40).2 X _ O _ _ (by rfl)) Jl eQ) (bj (pM ((c8 _ _ 40).2 X _ O _ _ (by rfl)) (nT (k6 O (x:="TooGreat") (by rfl) (by rw[R.mg];exact hm) (by decide +kernel) (by rw[R.K];exact hc) (pJ (bp O (by rfl)) (by rw[R.mg];exact hp) (by decide +kernel) (by decide +kernel) (by decide +kernel) (by decide +kernel) (by decide +kernel)) rfl R.here)) eQ) eQ)
end
end K53
namespace K53
open PySem PySem.W L2 J
section
variable {P:P6} {w:P8} {K:MW} {mg:Str->Option PZ} {base:Qa} {k:Nat} {C:P1} {X:Cx} {Z:Hp->Prop} {t:Tok}
noncomputable abbrev c7:Cz:=⟨af s7,["one","other","found","rows","known","at","number","alike","pair","row"],λ_=>PX⟩
theorem iQ(R:gY P w K mg base k C X Z)(O:al X (a7 fns Γ_12) c7){s:P9}{a:IS}(h:cS fns an 60 c7 60 s=PU a)(pn:List Nat):eD X Z pn (cl a pn) s:=SndS.x (jz fns Γ_12 O R.own 60 h pn)
theorem zd(O:al X (a7 fns Γ_12) c7){es:List P0}{ies:gg}(h:df (cE fns 60 c7) es=PU ies):fF X (aW Γ_12.fn ies) es:=(cZ Γ_12.fn ((bR (fm:=gP fns Γ_12) fns Γ_12.fn 60).1 X c7 O) h).1
theorem ze(R:gY P w K mg base k C X Z)(O:al X (a7 fns Γ_12) c7)(h8:bW X "refuse_unlike" C λds=>eT ds=PX):bU X Z [] (λρ=>bI (vG wb eT ρ) λ_=>PV) (aH s7):=by
 unfold vG;exact bj (nV R O h8 (by rfl) (by rfl) (by rfl) (by rfl) (zd O (by rfl))) Jl
theorem CN(R:gY P w K mg base k C X Z)(O:al X (a7 fns Γ_12) c7){st:List P9}{b:bZ}(h:pH (cS fns an 60 c7 60) st=PU b)(pn:List Nat):bU X Z pn (e7 (aP Γ_12 1000 b pn)) st:=SndB.x (gT Γ_12 (λs is h=>jz fns Γ_12 O R.own 60 h) h pn)
theorem vX(R:gY P w K mg base k C X Z)(O:al X (a7 fns Γ_12) c7)(h8:bW X "refuse_unlike" C λds=>fw ds=PX)(h9:bW X "refuse_many" C λds=>Fg ds=PX):bU X Z [] (x7 fw) (aH s7):=by
 have hM:=(c8 fns Γ_12 60).1 X c7 O;have hE:=(bR (fm:=gP fns Γ_12) fns Γ_12.fn 60).1 X c7 O;unfold x7 Fk IV b7;refine bj ?_ (bj (iQ R O (by rfl) []) (bj (iQ R O (by rfl) []) (bj (iQ R O (by rfl) []) (bj (iQ R O (by rfl) []) (bj ?_ (CN R O (by rfl) []))))))
 ·unfold wa vG;exact Ck (nV R O h8 (by rfl) (by rfl) (by rfl) (by rfl) (zd O (by rfl))) (iQ R O (by rfl) [])
 ·refine EZ R.own ((c8 fns Γ_12 60).2 X c7 O _ _ (by rfl)) (bj (E1 O R.own (n:=60) (by rfl) (nL fns Γ_12 O hM hE (by rfl)) (λpn=>bj (iQ R O (by rfl) pn) (bj (iQ R O (by rfl) pn) (bj (pM ((c8 fns Γ_12 60).2 X c7 O _ _ (by rfl)) (bj ?_ (CN R O (by rfl) pn)) eQ) eQ))) (by rfl)) (bj (iQ R O (by rfl) []) eQ)) 1000;unfold wa vG;exact Ck (iQ R O (by rfl) pn) (nV R O h9 (by rfl) (by rfl) (by rfl) (by rfl) (zd O (by rfl)))
end
end K53
namespace K53
open PySem PySem.W L2 J
section
variable {P:P6} {w:P8} {K:MW} {mg:Str->Option PZ} {base:Qa} {k:Nat} {C:P1} {X:Cx} {Z:Hp->Prop} {Pd:List D->Bool}
noncomputable def xU(Γ:GG)(Pd:List D->Bool):Ro->RX:=λρ=>bI (match aW Γ.fn wb ρ with|some kds=>if Pd (kds.map (·.2))=PX then PU PV else PV|none=>PV) λ_=>PV
theorem vY(R:gY P w K mg base k C X Z)(O:al X (a7 fns Γ_7) ⟨af s5,["one","other","row","found"],λ_=>PX⟩)(h:bW X "search" C λds=>Pd ds=PX):bU X Z [] (xU Γ_7 Pd) (aH s5):=by
 unfold xU;exact bj (tN R O (is:=[2,3]) h (by rfl) (by rfl) (by rfl) (by rfl) (by rfl) (cZ Γ_7.fn ((bR (fm:=gP fns Γ_7) fns Γ_7.fn 60).1 X _ O) (by rfl)).1) Jl
theorem zf(R:gY P w K mg base k C X Z)(O:al X (a7 fns Γ_5) ⟨af s6,["one","other","row","found"],λ_=>PX⟩)(h:bW X "search" C λds=>Pd ds=PX):bU X Z [] (xU Γ_5 Pd) (aH s6):=by
 unfold xU;exact bj (tN R O (is:=[2,3]) h (by rfl) (by rfl) (by rfl) (by rfl) (by rfl) (cZ Γ_5.fn ((bR (fm:=gP fns Γ_5) fns Γ_5.fn 60).1 X _ O) (by rfl)).1) Jl
end
theorem CP{ρ:Ro}(h0:ρ[0]?=PU (aT x))(h1:ρ[1]?=PU (aT y))(h:Pd [x,y]=PX):xU Γ Pd ρ=PU PV:=by
 obtain⟨kds,e,q⟩:Wp (aW Γ.fn wb ρ) λkds=>kds.map (·.2)=[x,y]:=by
  unfold wb;exact ac (aa h0 (ac (aa h1 (ae rfl))))
 unfold xU;refine zl ?_;rw[e];dsimp only;rw[q,if_pos h]
end K53
namespace K53
open PySem PySem.W L2 J
noncomputable def x9:Ro->RX:=λρ=>bI (gX (bh Γ_8 (.p (.cmp .Gt (.var 0) (.lit (.int 300)))) ρ) (λ_=>PU PV) tX) tX
theorem FQ:∀ds:List D,Fg ds=PX->ds.length=1/\x9 (gU 1 (ds.map yc))=PU PV
 |[.int n],h=>by
  refine⟨rfl,zl ?_⟩;have ht:bh Γ_8 (.p (.cmp .Gt (.var 0) (.lit (.int 300)))) [aT (.int n)]=PU (PX,[aT (.int n)]):=CK (fS (aI (aa rfl (ad (fP (by rw[show decide (300<n)=PX from h]))))));show gX (bh Γ_8 (.p (.cmp .Gt (.var 0) (.lit (.int 300)))) [aT (.int n)]) _ _=_;rw[ht];rfl
 |[],h=>by cases h
 |[.non],h=>by cases h
 |[.bl _],h=>by cases h
 |[.str _],h=>by cases h
 |[.scr _],h=>by cases h
 |[.nd _ _],h=>by cases h
 |_::_::_,h=>by simp[Fg] at h
theorem t8{ρ:Ro}{i j:Int}{o p:List D}(h0:ρ[0]?=PU (aT (.nd .tup [.int i,a,b,.nd .lst o])))(h1:ρ[1]?=PU (aT (.nd .tup [.int j,c,d,.nd .lst p]))):Wp (bG Γ (.bool .Or (.cons (.cmp .NotEq (.ix (.var 0) (.lit (.int 0))) (.ix (.var 1) (.lit (.int 0)))) (.cons (.cmp .NotEq (.blt "len" (.cons (.ix (.var 0) (.lit (.int 3))) .nil)) (.blt "len" (.cons (.ix (.var 1) (.lit (.int 3))) .nil))) .nil))) ρ) λz=>z=!(decide (i=j)&&decide (o.length=p.length)):=by
 refine k9 (aI (aQ (aa h0 (ad (aB (n:=0) (d:=.int i) (.inr rfl) rfl rfl (aQ (aa h1 (ad (aB (n:=0) (d:=.int j) (.inr rfl) rfl rfl (pT ⟨λe=>?_,λe=>?_⟩))))))))))
 ·have e:decide (i=j)=PX:=by cases hd:decide (i=j) with|true=>rfl|false=>rw[hd] at e;cases e
  refine k8 (aI (bv (ac (aQ (aa h0 (ad (aB (n:=3) (d:=.nd .lst o) (.inr rfl) rfl rfl (ae (ci (bv (ac (aQ (aa h1 (ad (aB (n:=3) (d:=.nd .lst p) (.inr rfl) rfl rfl (ae (ci (pT ?_))))))))))))))))));rw[e,Bool.true_and,decide_eq_decide.mpr (show(o.length:Int)=(p.length:Int)↔o.length=p.length by lia)]
 ·have e:decide (i=j)=PY:=by cases hd:decide (i=j) with|false=>rfl|true=>rw[hd] at e;exact absurd rfl e
  rw[e];rfl
theorem j4(ds:List D)(h:eT ds=PX):ds.length=2/\JK (gU 2 (ds.map yc))=PU PV:=by
 unfold eT at h;split at h
 ·rename_i i a b o j c d p;refine⟨rfl,?_⟩;have ht:=CK (fS (Γ:=Γ_4) (T:=λz=>z=(PX,[aT (.nd .tup [.int i,a,b,.nd .lst o]),aT (.nd .tup [.int j,c,d,.nd .lst p])])) ((t8 rfl rfl).mono λz hz=>by rw[hz,h]));unfold JK b8;refine zl ?_;unfold gX
  show(match bh Γ_4 _ [aT (.nd .tup [.int i,a,b,.nd .lst o]),aT (.nd .tup [.int j,c,d,.nd .lst p])] with|some (PX,ρ)=>PU PV|some (PY,ρ)=>tX ρ|none=>PV)=PU PV
  rw[ht]
 ·cases h
theorem BB(ds:List D)(h:fw ds=PX):ds.length=2/\JL (gU 2 (ds.map yc))=PU PV:=by
 unfold fw at h;split at h
 ·rename_i i a b o j c d p;refine⟨rfl,?_⟩;rw[MX] at h;have ht:=CK (fS (Γ:=Γ_4) (T:=λz=>z=(PY,[aT (.nd .tup [.int i,a,b,.nd .lst o]),aT (.nd .tup [.int j,c,d,.nd .lst p])])) ((t8 rfl rfl).mono λz hz=>by rw[hz,h.1];rfl));have ht2:bh Γ_4 (.p (.cmp .Gt (.ix (.var 0) (.lit (.int 0))) (.lit (.int 6)))) [aT (.nd .tup [.int i,a,b,.nd .lst o]),aT (.nd .tup [.int j,c,d,.nd .lst p])]=PU (PX,[aT (.nd .tup [.int i,a,b,.nd .lst o]),aT (.nd .tup [.int j,c,d,.nd .lst p])]):=CK (fS (aI (aQ (aa rfl (ad (aB (n:=0) (d:=.int i) (.inr rfl) rfl rfl (ad (fP (by rw[h.2])))))))));unfold JL b8;refine CJ (ρ1:=[aT (.nd .tup [.int i,a,b,.nd .lst o]),aT (.nd .tup [.int j,c,d,.nd .lst p])]) ?_ (zl ?_)
  ·unfold gX
   show(match bh Γ_4 _ [aT (.nd .tup [.int i,a,b,.nd .lst o]),aT (.nd .tup [.int j,c,d,.nd .lst p])] with|some (PX,ρ)=>PV|some (PY,ρ)=>tX ρ|none=>PV)=_
   rw[ht];rfl
  ·unfold gX;rw[ht2]
 ·cases h
end K53
namespace K53
open PySem PySem.W L2 J
noncomputable def RzF(P:P6)(w:P8)(K:MW)(mg:Str->Option PZ)(base:Qa)(k:Nat)(y:Str)(C:P1)(Pd:List D->Prop):Prop:=
 ∃f fd ps,FnOk P w K mg base (AO P w) k f fd ps (E2 K C Pd)/\mg y=PU (.ref f)/\NC K (.ref f)=PX/\Binds K fd ps []/\(y==("__debug__":Str))=PY
section
variable {P:P6} {w:P8} {K:MW} {mg:Str->Option PZ} {base:Qa} {k j:Nat} {C:P1} {qual:Str} {f:P1} {fd:Qk} {t:Tok}
theorem RzF.ok{y:Str}(h:RzF P w K mg base j y C Pd)(R:gY P w K mg base k C X Z)(hj:j<=k):bW X y C Pd:=by
 obtain⟨f,fd,ps,h1,h2,h3,h4,h5⟩:=h;obtain⟨rfl,rfl,rfl,rfl,rfl,room,_,_,_⟩:=R;exact⟨j,f,fd,ps,h1,room.mono hj,h2,h3,h4,h5⟩
theorem FR(F:Fun K "refuse_many" qual s9 f fd)(hb:Binds K fd ["many"] [])(T:TabF P w K mg base (a7 fns Γ_8) k)(hf:mg "refuse_many" = PU (.ref f))(hm:mg "TooGreat" = PU (.ref C))(hp:mg "MOST_PAIRS" = PU (.int 300 t))(hc:excIn K C tK "ValueError.__new__" = PX):RzF P w K mg base (k+1) "refuse_many" C λds=>Fg ds=PX:=
 ⟨f,fd,_,eR F Mj T (λX Z R O=>BA R O hm hp hc) FQ,hf,F.kp,hb,by decide +kernel⟩
theorem zg(F:Fun K "refuse_unlike" qual s8 f fd)(hb:Binds K fd ["one","other"] [])(T:TabF P w K mg base (a7 fns Γ_4) k)(hf:mg "refuse_unlike" = PU (.ref f))(hm:mg "Unlike" = PU (.ref C))(hc:excIn K C tK "ValueError.__new__" = PX):RzF P w K mg base (k+1) "refuse_unlike" C λds=>eT ds=PX:=
 ⟨f,fd,_,eR F K9 T (λX Z R O=>vW R O hm hc) j4,hf,F.kp,hb,by decide +kernel⟩
theorem BC(F:Fun K "refuse_unlike" qual s8 f fd)(hb:Binds K fd ["one","other"] [])(T:TabF P w K mg base (a7 fns Γ_4) k)(hf:mg "refuse_unlike" = PU (.ref f))(hm:mg "TooGreat" = PU (.ref C))(hp:mg "MOST_INS" = PU (.int 6 t))(hc:excIn K C tK "ValueError.__new__" = PX):RzF P w K mg base (k+1) "refuse_unlike" C λds=>fw ds=PX:=
 ⟨f,fd,_,eR F K9 T (λX Z R O=>zc R O hm hp hc) BB,hf,F.kp,hb,by decide +kernel⟩
theorem uu(ds:List D)(h:qf Q ds=PX):ds.length=2/\x7 Q (gU 10 (ds.map yc))=PU PV:=by
 unfold qf at h;split at h
 ·rename_i e;exact⟨of_decide_eq_true h,e⟩
 ·cases h
theorem Jm{ρ:Ro}(h0:ρ[0]?=PU (aT x))(h1:ρ[1]?=PU (aT y))(h:Q [x,y]=PX):vG wb Q ρ=PU PV:=by
 obtain⟨kds,e,q⟩:Wp (aW Γ_12.fn wb ρ) λkds=>kds.map (·.2)=[x,y]:=by
  unfold wb;exact ac (aa h0 (ac (aa h1 (ae rfl))))
 unfold vG;rw[e];dsimp only;rw[q,if_pos h]
theorem n8{ds:List D}(h:ds.length=2):∃x y,ds=[x,y]:=match ds,h with
 |[x,y],_=>⟨x,y,rfl⟩
theorem vZ(F:Fun K "search" qual s7 f fd)(hb:Binds K fd ["one","other"] [])(T:TabF P w K mg base (a7 fns Γ_12) k)(hf:mg "search" = PU (.ref f))(h8:RzF P w K mg base j "refuse_unlike" C λds=>eT ds=PX)(hj:j<=k):RzF P w K mg base (k+1) "search" C λds=>eT ds=PX:=
 ⟨f,fd,_,eR F K8 T (λX Z R O=>ze R O (h8.ok R hj)) (λds h=>⟨(j4 ds h).1,by
  obtain⟨x,y,rfl⟩:=n8 (j4 ds h).1;exact zl (Jm rfl rfl h)⟩),hf,F.kp,hb,by decide +kernel⟩
theorem v3{j9:Nat}(F:Fun K "search" qual s7 f fd)(hb:Binds K fd ["one","other"] [])(T:TabF P w K mg base (a7 fns Γ_12) k)(hf:mg "search" = PU (.ref f))(h8:RzF P w K mg base j "refuse_unlike" C λds=>fw ds=PX)(hj:j<=k)(h9:RzF P w K mg base j9 "refuse_many" C λds=>Fg ds=PX)(hj9:j9<=k):RzF P w K mg base (k+1) "search" C λds=>qf fw ds=PX:=
 ⟨f,fd,_,eR F K8 T (λX Z R O=>vX R O (h8.ok R hj) (h9.ok R hj9)) uu,hf,F.kp,hb,by decide +kernel⟩
theorem p9{Q:List D->Bool}(hl:∀ds,Q ds=PX->ds.length=2)(F:Fun K "parted" qual s5 f fd)(hb:Binds K fd ["one","other"] [])(T:TabF P w K mg base (a7 fns Γ_7) k)(hf:mg "parted" = PU (.ref f))(h:RzF P w K mg base j "search" C λds=>Q ds=PX)(hj:j<=k):RzF P w K mg base (k+1) "parted" C λds=>Q ds=PX:=
 ⟨f,fd,_,eR F Mf T (λX Z R O=>vY R O (h.ok R hj)) (λds h=>⟨hl ds h,by
  obtain⟨x,y,rfl⟩:=n8 (hl ds h);exact CP rfl rfl h⟩),hf,F.kp,hb,by decide +kernel⟩
theorem uw{Q:List D->Bool}(hl:∀ds,Q ds=PX->ds.length=2)(F:Fun K "pairs" qual s6 f fd)(hb:Binds K fd ["one","other"] [])(T:TabF P w K mg base (a7 fns Γ_5) k)(hf:mg "pairs" = PU (.ref f))(h:RzF P w K mg base j "search" C λds=>Q ds=PX)(hj:j<=k):RzF P w K mg base (k+1) "pairs" C λds=>Q ds=PX:=
 ⟨f,fd,_,eR F Mh T (λX Z R O=>zf R O (h.ok R hj)) (λds h=>⟨hl ds h,by
  obtain⟨x,y,rfl⟩:=n8 (hl ds h);exact CP rfl rfl h⟩),hf,F.kp,hb,by decide +kernel⟩
end
end K53
namespace K53
open PySem PySem.W L2 J
noncomputable abbrev zh:Cz:=⟨af vF,IJ,λ_=>PX⟩
structure Cl(K:MW)(mg:Str->Option Value)(C:Addr)(b:Bool):Prop where
 k:rm K C
 g:∃G,mg "GateError" = PU (.ref G)/\excIn K G tK "ValueError.__new__" = PX/\tL K C G=PX
 v:kitOne K (.ref C) (.type "ValueError")=PU PX
 m:mg "ValueError" = PV
 o:∃a1 a2 a3 a4 a5 a6,mg "NoName" = PU (.ref a1)/\mg "NoShelf" = PU (.ref a2)/\mg "NoText" = PU (.ref a3)/\mg "NotPlain" = PU (.ref a4)/\mg "NoWidth" = PU (.ref a5)/\mg "Twice" = PU (.ref a6)/\kitAny K (.ref C) [.ref a1,.ref a2,.ref a3,.ref a4,.ref a5,.ref a6]=PU PY
 t:∃T,mg "TooGreat" = PU (.ref T)/\kitOne K (.ref C) (.ref T)=PU b
 u:∃U,mg "Unlike" = PU (.ref U)/\kitOne K (.ref C) (.ref U)=PU (!b)
noncomputable def Jn:MT:=.p (.cmp .Eq (.var 0) (.lit (.str "parted")))
noncomputable def v4:gg:=.cons (.var 1) (.cons (.var 2) .nil)
noncomputable def wd(b:Bool):Str:=if b then "great" else "unlike"
noncomputable abbrev LX:List P9:=match aH vF with|_::_::.Try b _ _ _ _::_=>b|_=>[]
noncomputable def fR(Pd:List D->Bool)(b:Bool):Ro->Option Res:=λρ=>match bh Γ_19 Jn ρ with
 |some (_,ρ1)=>(match aW Γ_19.fn v4 ρ1 with
  |some kds=>if Pd (kds.map (·.2))=PX then PU (.rt (.fr (.own [] .fz)) (.lst [.str (wd b),.non]) (M3 6 PV)) else PV
  |none=>PV)
 |none=>PV
theorem eG{H:Hp}(h:H p=PV):Same H (upd H p o):=λb o' e=>by rw[ah (λz=>by rw[z,h] at e;cases e)];exact e
section
variable {P:P6} {w:P8} {K:MW} {mg:Str->Option PZ} {base:Qa} {k j:Nat} {C:P1} {X:Cx} {b:Bool} {Pd:List D->Bool}
theorem RzF.okN{y:Str}{Pd:List D->Prop}(h:RzF P w K mg base j y C Pd)(R:mx P w K mg base k X)(hj:j<=k){pins:List (P1×Obj)}{E:PZ->P2->Prop}:bW (Cx.pinned X pins E) y C Pd:=by
 obtain⟨f,fd,ps,h1,h2,h3,h4,h5⟩:=h;obtain⟨rfl,rfl,rfl,rfl,rfl,room,_,_,_,_⟩:=R;exact⟨j,f,fd,ps,h1,room.mono hj,h2,h3,h4,h5⟩
theorem FS:iU X (compareOp .Eq) (λx y H Q=>∃i j,x=.bl i/\y=.bl j/\Q (.bl (i==j)) H):=by
 intro pins s σ H x y v u Q I rx ry h;obtain⟨i,j,rfl,rfl,q⟩:=h;cases rx;cases ry;exact PyProof.Rows.eq_bool (Dr I q rfl)
theorem zi{H H3:Hp}{σ σ':L2.St}{Dn:di}{x:Str}(se:SE X.K g ρ σ H)(q:EndM X.K [] g H σ Dn (.rt (.fr (.own [] .fz)) (.lst [.str x,.non]) (M3 6 PV)))(hl:σ'.length=6)(s:Same H H3)(hp:H3 p=PV):Dn.rt (.ref p) (upd H3 p (.lst [.str x,.non])):=by
 have hp0:H p=PV:=s.free hp;have s2:=s.trans (eG (o:=.lst [.str x,.non]) hp)
 refine q (.ref p) σ' g _ (λc=>c=p) (c5 s2 (λb z=>by rw[z];exact hp0) λb z=>by rw[z];exact eN se.mu hp0) (SE.plus (ρ:=M3 6 PV) ⟨λi sl e=>?_,se.mu,by rw[N1,hl]⟩ s2 (λb z=>by rw[z];exact hp0) λb z=>⟨.lst [.str x,.non],by rw[z];exact am,λ_ z=>nomatch z⟩) (λ_ z=>nomatch z) ?_
 ·rw[Os] at e
  split at e<;>cases e
 ·show Tr _ _ _ (.nd .lst [.str x,.non]) (.own [] .fz) _ _;unfold Tr
  refine⟨p,_,[.str x,.non],λ_=>False,rfl,am,rfl,λ_ z=>z,(λz=>nomatch z),λc=>⟨λz=>.inl ⟨rfl,z⟩,λz=>z.elim (·.2) False.elim⟩,?_⟩
  have hr:∀{S:Pr} {d:D} {v:V},(∀hd ds,d≠.nd hd ds)->Rp X.K (upd H3 p (.lst [.str x,.non])) S d v->Tr X.K (upd H3 p (.lst [.str x,.non])) S d .fz v λ_=>False:=λn r=>by
   unfold Tr;split
   ·exact absurd rfl (n _ _)
   ·exact⟨λ_ z=>z,r⟩
  unfold TrL
  refine⟨_,_,λ_=>False,λ_=>False,rfl,λ_=>⟨.inl,λz=>z.elim id id⟩,λ_ z=>z.elim,hr (λ_ _ z=>nomatch z) (by unfold Rp;rfl),?_⟩
  unfold TrL
  refine⟨_,_,λ_=>False,λ_=>False,rfl,λ_=>⟨.inl,λz=>z.elim id id⟩,λ_ z=>z.elim,hr (λ_ _ z=>nomatch z) (by unfold Rp;rfl),?_⟩
  unfold TrL;exact⟨rfl,λ_ z=>z⟩
theorem rW(R:mx P w K mg base k X)(O:al X (a7 fns Γ_19) zh)(c:Cl K mg C b){g:Gh}{ρ:Ro}{H H':Hp}{σ σ':L2.St}{Dn:di}{a:P1}(se:SE X.K g ρ σ H)(q:EndM X.K [] g H σ Dn (.rt (.fr (.own [] .fz)) (.lst [.str (wd b),.non]) (M3 6 PV)))(hl:σ'.length=6)(s:Same H H')(ha:H' a=PV)(h3:σ'[3]?=PU (PU (.ref a))):qe X ((aH vF).drop 3) Dn σ' (upd H' a (xO C a)):=by
 obtain⟨rfl,rfl,rfl,rfl,rfl,_,_,_,_,_⟩:=R;obtain⟨cK,_,cv,cm,⟨a1,a2,a3,a4,a5,a6,m1,m2,m3,m4,m5,m6,cn⟩,⟨T,mT,cT⟩,U,mU,cU⟩:=c;have s1:Same H (upd H' a (xO C a)):=s.trans (eG ha);have is1:∀{H2:Hp} {gn:Str} {G:P1} {b':Bool} {p p1 p2 pos:Pos} {Q:VK},eK (af vF) gn=PX->X.mg gn=PU (.ref G)->(gn==("__debug__":Str))=PY->kitOne X.K (.ref C) (.ref G)=PU b'->H2 a=PU (xO C a)->Q (.bl b') H2->wE X (.Call (.Name "isinstance" p) [.Name "_law_caught_here" p1,.Name gn p2] [] pos) σ' H2 Q:=λhg hm hd hk hH q=>Iw O (by rfl) (by rfl) hg hm hd (by rfl) h3 hH cK hk q
 have rest:∀H2,Same H H2->H2 a=PU (xO C a)->qe X ((aH vF).drop 5) Dn σ' H2:=by
  intro H2 s2 h2;refine dM (fA (jo (mR FS aF aF (by rfl)) iS jG) bS) ?_
  refine is1 (by rfl) mT (by decide +kernel) cT h2 (is1 (by rfl) mU (by decide +kernel) cU h2 ⟨_,_,rfl,rfl,PY,by cases b<;>rfl,m9 ?_⟩)
  refine dM (fW (wu (mV (aK (oN ix_list (mV (aK qj (aK qj bJ))) (iX J.l4 (bp O (by rfl)) (O.tab.bl _ (by simp[aR])) (by rfl) (aK aF bJ)) (λ_ _=>rfl)) (aK wj bJ))))) ?_
  refine⟨by decide,λp1 hp1=>is1 (by rfl) mT (by decide +kernel) cT (eG hp1 _ _ h2) ⟨b,rfl,p1,[.str "unlike",.str "great"],_,.str (wd b),rfl,rfl,.inl ?_,by cases b<;>rfl,(by decide:2<=sizeLine),λp hp=>?_⟩⟩
  ·exact Rd.of am
  ·exact zi se q hl (s2.trans (eG hp1)) hp
 refine dM (fA (jo (C3 (C0 aF)) iS jG) bS) ?_;refine du O (by rfl) _ h3 ⟨PY,rfl,m9 ?_⟩;refine dM (fA (jo (PW.pt (wo (wq (wl aF)) (wm (wl aF)))) iS jG) bS) ?_;refine E3 O (by rfl) (by rfl) (by rfl) cm (by rfl) (by decide) (by decide +kernel) (by rfl) h3 am cK cv ⟨PX,rfl,m9 ?_⟩;refine E4 O (ns:=[("NoName",_,a1),("NoShelf",_,a2),("NoText",_,a3),("NotPlain",_,a4),("NoWidth",_,a5),("Twice",_,a6)]) (by rfl) (by rfl) ?_ (by simp) (by rfl) h3 am cK cn λt ht=>⟨PY,rfl,m9 ?_⟩
 ·intro x hx;simp only[M7,NH,or_false] at hx;rcases hx with rfl|rfl|rfl|rfl|rfl|rfl
  ·exact⟨bp O (by rfl),m1,by dsimp only;decide +kernel⟩
  ·exact⟨bp O (by rfl),m2,by dsimp only;decide +kernel⟩
  ·exact⟨bp O (by rfl),m3,by dsimp only;decide +kernel⟩
  ·exact⟨bp O (by rfl),m4,by dsimp only;decide +kernel⟩
  ·exact⟨bp O (by rfl),m5,by dsimp only;decide +kernel⟩
  ·exact⟨bp O (by rfl),m6,by dsimp only;decide +kernel⟩
 exact rest _ (s1.trans (eG ht)) (eG ht _ _ am)
theorem mI{j6:Nat}(R:mx P w K mg base k X)(O:al X (a7 fns Γ_19) zh)(c:Cl K mg C b)(h5:RzF P w K mg base j "parted" C λds=>Pd ds=PX)(hj:j<=k)(h6:RzF P w K mg base j6 "pairs" C λds=>Pd ds=PX)(hj6:j6<=k):SndB X [] (fR Pd b) ((aH vF).drop 2):=by
 intro ρ r h g σ H Dn se q;unfold fR at h;split at h
 ·rename_i t ρ1 et;split at h
  ·rename_i kds ea;split at h
   ·rename_i hP;cases h;obtain⟨G,mG,cG,sG⟩:=c.g
    have tb:∀(pins:List (P1×Obj)) (xe:PZ->P2->Prop) (Dn':di),fB (AO X.prog X.w) (Cx.pinned X pins xe) (rh X G 3 Dn')->(∀σ' H',qe X ((aH vF).drop 3) Dn σ' H'->Dn'.nx σ' H')->qe (Cx.pinned X pins xe) LX Dn' σ H:=λpins xe Dn' hx hn=>by
     have O':al (Cx.pinned X pins xe) (a7 fns Γ_19) zh:=EV O;have e3:(Cx.pinned X pins xe).N[4]?=PU (Str.ofString "_law_found"):=by rw[O'.N];rfl
     have hA:∀{es:List P0},df (cE fns 60 zh) es=PU v4->fF (Cx.pinned X pins xe) (aW Γ_19.fn v4) es:=λh=>(cZ Γ_19.fn ((bR (fm:=gP fns Γ_19) fns Γ_19.fn 60).1 _ zh O') h).1;refine dM (fW (jo fq bS bS)) ((c8 fns Γ_19 60).2 _ zh O' _ Jn (by rfl) ρ _ _ et g σ H _ se λg1 H1 ew se1=>?_);have gq:∀H',Same H1 H'->rh X G 3 Dn' (.ref C) PV H':=λH' s=>⟨C,rfl,by rw[R.K];exact c.k.ex,by rw[R.K];exact sG,λa σ' ha hl h3=>hn _ _ (rW R O c se1 (q.from ew PinOk.refl) (hl.trans (by rw[O.N];rfl)) s ha h3)⟩;have l:=i4 O' (x:="_law_found") (by rfl)
     cases t with
     |true=>
      rw[if_pos rfl];exact dM (fW (ki (i:=4) (by rw[O'.N];exact O'.nd) e3 l.1 aF (f9 (by rfl)) l.2)) (nU O' (h5.okN R hj) hx (by rfl) (by rfl) (by rfl) (hA (by rfl)) ea hP se1 gq)
     |false=>
      rw[if_neg (by decide)];exact dM (fW (ki (i:=4) (by rw[O'.N];exact O'.nd) e3 l.1 aF (f9 (by rfl)) l.2)) (nU O' (h6.okN R hj6) hx (by rfl) (by rfl) (by rfl) (hA (by rfl)) ea hP se1 gq)
    refine dM (fA EH bS) (E5 λpins=>tb pins _ _ (λps σ1 H1 s1 v s' I h=>?_) λ_ _ h=>h);exact EX (ie:=5) R.stk R.fr (by rw[O.N];exact O.nd) O.calm (by rw[O.N];rfl) (by rw[O.sc];rfl) (by rw[O.N];rfl) (by rw[O.sc];rfl) (by decide) (bp O (by rfl)) (by rw[R.mg];exact mG) (by rw[R.K];exact cG) (by decide +kernel) (by decide +kernel) (by decide +kernel) (λ_ _=>rfl) (eC I) h
   ·cases h
  ·cases h
 ·cases h
noncomputable def bT:bZ:=.cons (.ifs Jn (.cons (.asg 4 (.p (.fn 5 v4))) .nil) (.cons (.asg 4 (.p (.fn 6 v4))) .nil)) .nil
noncomputable def bA:bZ:=.cons (.asg 3 (.p (.lit .non))) (.cons (.asg 4 (.p (.lit .non))) .nil)
noncomputable def iT:IS:=.ifs (.p (.cmp .Is (.var 3) (.lit .non))) (.cons (.ret (.p (.lst (.own [] .fz) (.cons (.lit (.str "told")) (.cons (.var 4) .nil))))) .nil) .nil
noncomputable def fC:Ro->Option Res:=λρ=>gw (aP Γ_19 1000 bT [] ρ) λρ=>gw (dh Γ_19 1000 iT [] ρ) λ_=>PV
theorem qc(R:mx P w K mg base k X)(O:al X (a7 fns Γ_19) zh):SndB X [] fC ((aH vF).drop 2):=by
 have sq:∀{st:List P9} {b:bZ},cB fns an 60 zh 60 st=PU b->SndB X [] (aP Γ_19 1000 b []) st:=λh=>gT Γ_19 (λs is h=>jz fns Γ_19 O R.own 60 h) h [];exact q5 (E6 R.nox (sq (by rfl))) (q5 (jz fns Γ_19 O R.own 60 (show cS fns an 60 zh 60 _=PU iT by rfl) []) E7)
noncomputable def Jo(f f':Ro->Option Res):Ro->Option Res:=λρ=>match f ρ with|some r=>PU r|none=>f' ρ
noncomputable def Jp:Ro->Option Res:=λρ=>gw (aP Γ_19 1000 bA [] ρ) (Jo (fR eT PY) (Jo (fR (qf fw) PX) fC))
theorem rX{j5 j6 j7 j8:Nat}(R:mx P w K mg base k X)(O:al X (a7 fns Γ_19) zh)(c:Cl K mg C PY)(c':Cl K mg C' PX)(h5:RzF P w K mg base j5 "parted" C λds=>eT ds=PX)(l5:j5<=k)(h6:RzF P w K mg base j6 "pairs" C λds=>eT ds=PX)(l6:j6<=k)(h7:RzF P w K mg base j7 "parted" C' λds=>qf fw ds=PX)(l7:j7<=k)(h8:RzF P w K mg base j8 "pairs" C' λds=>qf fw ds=PX)(l8:j8<=k):SndB X [] Jp (aH vF):=by
 have hA:SndB X [] (aP Γ_19 1000 bA []) ((aH vF).take 2):=gT Γ_19 (λs is h=>jz fns Γ_19 O R.own 60 h) (show cB fns an 60 zh 60 _=PU bA by rfl) [];exact Ir hA (Ix (mI R O c h5 l5 h6 l6) (Ix (mI R O c' h7 l7 h8 l8) (qc R O)))
end
end K53
namespace K53
open PySem PySem.W L2 J
noncomputable abbrev uA(w x y z:D):Ro:=[aT w,aT x,aT y,aT .non,aT z,PV]
section
variable {w:Str} {x y d:D}
theorem FT(hw:PyData.strOk w=PX):bh Γ_19 Jn (uA (.str w) x y .non)=PU (jJ (.str w) (.str "parted"),uA (.str w) x y .non):=by
 obtain⟨z,e,rfl⟩:Wp (bh Γ_19 Jn (uA (.str w) x y .non)) λz=>z=(jJ (.str w) (.str "parted"),uA (.str w) x y .non):=fS (aI (aa rfl (ad ⟨_,if_pos ⟨hw,by decide +kernel⟩,rfl⟩)));exact e
theorem CQ{b:Bool}(hw:PyData.strOk w=PX):fR Pd b (uA (.str w) x y .non)=if Pd [x,y]=PX then PU (.rt (.fr (.own [] .fz)) (.lst [.str (wd b),.non]) (M3 6 PV)) else PV:=by
 unfold fR;rw[FT hw];rfl
theorem Jq(hw:PyData.strOk w=PX)(h:(if jJ (.str w) (.str "parted")=PX then ψ5 [x,y] else ψ6 [x,y])=PU (.sh,d)):fC (uA (.str w) x y .non)=PU (.rt (.fr (.own [] .fz)) (.lst [.str "told",d]) (uA (.str w) x y d)):=by
 have e:aP Γ_19 1000 bT [] (uA (.str w) x y .non)=PU (.nx (uA (.str w) x y d)):=by
  have as:∀{i:Nat} {f:Fn},Γ_19.fn i=PU f->f [x,y]=PU (.sh,d)->Wp (aP Γ_19 1000 (.cons (.asg 4 (.p (.fn i v4))) .nil) [] (uA (.str w) x y .non)) (Kt Γ_19 1000 .nil [] λr=>r=.nx (uA (.str w) x y d)):=λhi hf=>aY (aw (we (ds:=[x,y]) hi (ac (aa rfl (ac (aa rfl (ae ⟨rfl,rfl⟩))))) hf rfl ⟨⟨rfl,by decide⟩,bE (bn rfl)⟩))
  obtain⟨r,e,rfl⟩:Wp (aP Γ_19 1000 bT [] (uA (.str w) x y .non)) λr=>r=.nx (uA (.str w) x y d):=by
   refine bq (z:=jJ (.str w) (.str "parted")) (aI (aa rfl (ad ⟨_,if_pos ⟨hw,by decide +kernel⟩,rfl⟩))) (λz=>?_) λz=>?_
   ·rw[if_pos z] at h;exact as rfl h
   ·rw[if_neg (by rw[z];decide)] at h;exact as rfl h
  exact e
 unfold fC;rw[e];rfl
theorem LY(ds:List D):Le (Cs ds) (AN Jp 3 6 ds):=by
 intro r h;unfold Cs at h;split at h
 ·rename_i w x y;split at h
  ·cases h
  ·rename_i hw;have hw:PyData.strOk w=PX:=by simpa using hw
   show gW (Jo (fR eT PY) (Jo (fR (qf fw) PX) fC) (uA (.str w) x y .non))=PU r;unfold Jo;rw[CQ hw,CQ hw];split at h
   ·rename_i hu;rw[if_pos hu];exact h
   ·rename_i hu;rw[if_neg hu];split at h
    ·rename_i hg;rw[if_pos hg];exact h
    ·rename_i hg;rw[if_neg hg];split at h
     ·rename_i d e;rw[Jq hw e];exact h
     ·cases h
 ·cases h
end
noncomputable abbrev FU:Pos:=match qQ with|.FunctionDef _ _ _ _ _ _ _ _ _ p=>p|_=>⟨0,0,0,0⟩
noncomputable abbrev sv(x:String)(t:Tok):PZ:=.str (Str.ofString x) t
noncomputable abbrev E(P:Params)(x:String)(t:Tok)(v:PZ):DictEntry:=⟨PyData.keyHash P (Str.ofString x),.str (Str.ofString x) t,v⟩
noncomputable abbrev fO(x:String)(st:P9)(m:PZ)(c:P1):Obj:=⟨.type "function",PV,.func (N0 (Str.ofString x) (Str.ofString x) (dU st) (aH st) (af st) .none .none .none m PV (.ref c) .none),#[]⟩
noncomputable abbrev mL:PZ:=sv "law_gatepapers_k53_unlike_and_too_great" 475
noncomputable abbrev cO(x:String)(t:Nat)(l n:Int)(r:P1)(b:Bool)(q:P1)(A B C:PZ)(s:P1)(u:Nat):Obj:=⟨.type "code",PV,.fields #[sv x t,sv x (t+1),sv "/claim/cut.py" (t+2),.int l 0,.int n 0,.int 0 0,.int 0 0,.int 3 0,.ref r,.bool b,.int 181 0,.ref q,A,B,C,.ref s,.int u 0,.int l 0,sv "/claim/cut.py" (u+1)],#[]⟩
noncomputable abbrev CS(x:String)(a:P1)(t:Nat):Obj:=⟨.type "type",PV,.cls ⟨Str.ofString x,[.ref 53],.ref a::.ref 53::tK,a-1,Str.ofString x,PX,[],[],PY,PV,PY⟩,#[PU (.ref (a-9)),PV,PU (sv x t),PU (sv x (t+8)),PU (.builtin "ValueError.__new__"),PU (.bool PX)]⟩
noncomputable abbrev Ml(P:Params)(a:P1)(t:Nat)(l:Int):Obj:=⟨.type "dict",PV,.dict #[E P "__module__" (t+7) (sv "gatepapers.errors" 229),E P "__firstlineno__" (t+11) (.int l (t+10)),E P "__static_attributes__" (t+12) (.ref (a-2)),E P "__doc__" (t+13) .none] 2,#[]⟩
noncomputable def KK(P:Params):MW:=[(3,⟨(.type "dict"),PV,(.dict #[E P "__name__" 165 mL,E P "__doc__" 166 .none,E P "__package__" 167 .none,E P "__loader__" 168 (.builtin "__main__.__loader__#opaque"),E P "__spec__" 169 .none,E P "__annotations__" 170 (.ref 6),E P "__builtins__" 171 (.ref 4),E P "__file__" 173 (sv "/claim/cut.py" 172),E P "__cached__" 174 .none,E P "bits_of" 194 (.ref 19),E P "first_of" 202 (.ref 24),E P "all_trials" 211 (.ref 31),E P "column_of" 222 (.ref 38),E P "column_told" 228 (.ref 43),E P "GateError" 248 (.ref 53),E P "NoText" 264 (.ref 66),E P "Twice" 280 (.ref 78),E P "NoName" 296 (.ref 90),E P "NoWidth" 312 (.ref 102),E P "TooGreat" 328 (.ref 114),E P "Unlike" 344 (.ref 126),E P "NotPlain" 360 (.ref 138),E P "NoShelf" 376 (.ref 150),E P "MOST_INS" 380 (.int 6 379),E P "MOST_PAIRS" 382 (.int 300 381),E P "parted" 392 (.ref 159),E P "pairs" 402 (.ref 166),E P "search" 418 (.ref 173),E P "refuse_unlike" 426 (.ref 180),E P "refuse_many" 433 (.ref 187),E P "key_of" 440 (.ref 194),E P "rising_bits" 448 (.ref 201),E P "pair_turns" 462 (.ref 208),E P "all_turns" 468 (.ref 213),E P "trial_bits" 474 (.ref 218),E P "_law_next" 485 (.ref 225),E P "_law_state" 491 (.ref 230),E P "_law_copied" 497 (.ref 235),E P "_law_ring" 503 (.ref 240),E P "_law_divisor" 511 (.ref 247),E P "_law_caught" 523 (.ref 254),E P "_law_sizes" 531 (.ref 261),E P "_law_due" 542 (.ref 268),E P "_law_told" 548 (.ref 273),E P "law" 554 (.ref 278)] 45),#[]⟩),
 (19,fO "bits_of" s0 (sv "gatepapers.bits" 187) 18),
 (18,cO "bits_of" 189 2 2 15 PX 16 .none .none .none 17 192),
 (24,fO "first_of" s1 (sv "gatepapers.circuits" 195) 23),
 (23,cO "first_of" 197 5 1 20 PX 21 .none .none .none 22 200),
 (31,fO "all_trials" s2 (sv "gatepapers.columns" 203) 30),
 (30,cO "all_trials" 205 8 1 25 PX 26 .none (.ref 27) (.ref 28) 29 209),
 (38,fO "column_of" s3 (sv "gatepapers.columns" 203) 37),
 (37,cO "column_of" 212 10 2 32 PX 33 .none (.ref 34) (.ref 35) 36 220),
 (43,fO "column_told" s4 (sv "gatepapers.columns" 203) 42),
 (42,cO "column_told" 223 18 3 39 PX 40 .none .none .none 41 226),
 (159,fO "parted" s5 (sv "gatepapers.judge" 377) 158),
 (158,cO "parted" 383 45 2 153 PX 154 .none (.ref 155) (.ref 156) 157 390),
 (166,fO "pairs" s6 (sv "gatepapers.judge" 377) 165),
 (165,cO "pairs" 393 48 2 160 PX 161 .none (.ref 162) (.ref 163) 164 400),
 (173,fO "search" s7 (sv "gatepapers.judge" 377) 172),
 (172,cO "search" 403 51 2 167 PX 168 .none (.ref 169) (.ref 170) 171 416),
 (180,fO "refuse_unlike" s8 (sv "gatepapers.judge" 377) 179),
 (179,cO "refuse_unlike" 419 69 2 174 PX 175 .none (.ref 176) (.ref 177) 178 424),
 (187,fO "refuse_many" s9 (sv "gatepapers.judge" 377) 186),
 (186,cO "refuse_many" 427 74 1 181 PX 182 .none (.ref 183) (.ref 184) 185 431),
 (194,fO "key_of" Iv (sv "gatepapers.judge" 377) 193),
 (193,cO "key_of" 434 77 1 188 PX 189 .none (.ref 190) (.ref 191) 192 438),
 (201,fO "rising_bits" Jx (sv "gatepapers.judge" 377) 200),
 (200,cO "rising_bits" 441 79 2 195 PX 196 .none (.ref 197) (.ref 198) 199 446),
 (208,fO "pair_turns" Jy (sv "gatepapers.judge" 377) 207),
 (207,cO "pair_turns" 449 81 3 202 PX 203 .none (.ref 204) (.ref 205) 206 460),
 (213,fO "all_turns" s13 (sv "gatepapers.judge" 377) 212),
 (212,cO "all_turns" 463 86 2 209 PX 210 .none .none .none 211 466),
 (218,fO "trial_bits" Jz (sv "gatepapers.judge" 377) 217),
 (217,cO "trial_bits" 469 95 2 214 PX 215 .none .none .none 216 472),
 (225,fO "_law_next" JA mL 224),
 (224,cO "_law_next" 477 98 2 219 PX 220 .none (.ref 221) (.ref 222) 223 483),
 (230,fO "_law_state" JB mL 229),
 (229,cO "_law_state" 486 107 1 226 PX 227 .none .none .none 228 489),
 (235,fO "_law_copied" JC mL 234),
 (234,cO "_law_copied" 492 112 1 231 PX 232 .none .none .none 233 495),
 (240,fO "_law_ring" JD mL 239),
 (239,cO "_law_ring" 498 118 3 236 PX 237 .none .none .none 238 501),
 (247,fO "_law_divisor" JE mL 246),
 (246,cO "_law_divisor" 504 121 2 241 PX 242 .none (.ref 243) (.ref 244) 245 509),
 (254,fO "_law_caught" vF mL 253),
 (253,cO "_law_caught" 512 125 3 248 PX 249 .none (.ref 250) (.ref 251) 252 521),
 (261,fO "_law_sizes" JF mL 260),
 (260,cO "_law_sizes" 524 142 1 255 PX 256 .none (.ref 257) (.ref 258) 259 529),
 (268,fO "_law_due" JG mL 267),
 (267,cO "_law_due" 532 151 3 262 PX 263 .none (.ref 264) (.ref 265) 266 540),
 (273,fO "_law_told" u8 mL 272),
 (272,cO "_law_told" 543 159 4 269 PX 270 .none .none .none 271 546),
 (278,fO "law" qQ mL 277),
 (277,cO "law" 549 170 1 274 PX 275 .none .none .none 276 552),
 (52,⟨.type "dict",PV,.dict #[E P "__module__" 238 (sv "gatepapers.errors" 229),E P "__firstlineno__" 242 (.int 24 241),E P "__static_attributes__" 243 (.ref 51),E P "__weakref__" 245 (.ref 54),E P "__doc__" 246 .none] 3,#[]⟩),
 (53,⟨.type "type",PV,.cls ⟨Str.ofString "GateError",[.type "ValueError"],.ref 53::tK,52,Str.ofString "GateError",PX,[],[.ref 66,.ref 78,.ref 90,.ref 102,.ref 114,.ref 126,.ref 138,.ref 150],PY,PV,PY⟩,#[PU (.ref 44),PV,PU (sv "GateError" 231),PU (sv "GateError" 239),PU (.builtin "ValueError.__new__"),PU (.bool PX)]⟩),
 (66,CS "NoText" 66 249),
 (78,CS "Twice" 78 265),
 (90,CS "NoName" 90 281),
 (102,CS "NoWidth" 102 297),
 (114,CS "TooGreat" 114 313),
 (113,Ml P 114 313 34),
 (126,CS "Unlike" 126 329),
 (125,Ml P 126 329 36),
 (138,CS "NotPlain" 138 345),
 (150,CS "NoShelf" 150 361)]
noncomputable def HH:PySem.W.Hook:=PySem.W.kHook KK [3,19,18,24,23,31,30,38,37,43,42,159,158,166,165,173,172,180,179,187,186,194,193,201,200,208,207,213,212,218,217,225,224,230,229,235,234,240,239,247,246,254,253,261,260,268,267,273,272,278,277,52,53,66,78,90,102,114,113,126,125,138,150] (λ_=>rfl)
noncomputable def qv:P6:=PySem.W.view PySem.Challenge.pw_gatepapers_k53_unlike_and_too_great [41]
noncomputable def lo:List Str:=(["__name__","bits_of","first_of","all_trials","column_of","column_told","GateError","NoText","Twice","NoName","NoWidth","TooGreat","Unlike","NotPlain","NoShelf","MOST_INS","MOST_PAIRS","parted","pairs","search","refuse_unlike","refuse_many","key_of","rising_bits","pair_turns","all_turns","trial_bits","_law_next","_law_state","_law_copied","_law_ring","_law_divisor","_law_caught","_law_sizes","_law_due","_law_told"]:List String).map Str.ofString
theorem left:PySem.W.LeftO (PySem.Challenge.rw_gatepapers_k53_unlike_and_too_great).row.toRowW.prog qv lo (λs=>PySem.W.xlAt qv [] s&&PySem.W.recOk (PySem.W.RowW.records (PySem.Challenge.rw_gatepapers_k53_unlike_and_too_great).row.toRowW) s) (PySem.W.Hook.obs HH) (PySem.W.Hook.val HH) 20000:=λw=>by kernel_rfl
theorem ce{P:Params}{h:Qa}{mg:Str->Option PZ}(X:(KK P).In h)(G:h.Ns Qh mg){x:Str}{v:PZ}(e:OB (KK P) Qh x=PU (PU v)):mg x=PU v:=PySem.W.mg_of X G e
theorem fm{P:Params}(x:String)(st:P9)(f:P1)(m:PZ)(c:P1)(h:(KK P).lookup f=PU (fO x st m c):=by kernel_rfl)(k:OL (KK P) (.ref c) (Str.ofString x)=PX:=by kernel_rfl)(j:NC (KK P) (.ref f)=PX:=by kernel_rfl):Fun (KK P) (Str.ofString x) (Str.ofString x) st f (N0 (Str.ofString x) (Str.ofString x) (dU st) (aH st) (af st) .none .none .none m PV (.ref c) .none):=Dz h k j
theorem FV{l:PySem.W.OpenLaw}{w:P8}{P:Params}{h:Qa}{mg:Str->Option PZ}{fa:P1}(X:(KK P).In h)(G:h.Ns Qh mg)(hfa:mg "law" = PU (.ref fa)):∃fd:Qk,(∀(s:P2) (v:PZ),BindsTo s fd ⟨[v],[]⟩ [("_law_script",v)])/\∀base:Qa,(KK P).In base->base.Ns Qh mg->FnOk l.prog w (KK P) mg base oP 65 fa fd ["_law_script"] (v6 (KK P) IY):=by
 have e:=hfa.symm.trans (ce X G (v:=.ref 278) (by kernel_rfl));cases e;have F0:=fm (P:=P) "bits_of" s0 19 (sv "gatepapers.bits" 187) 18;have B0:=F0.binds (ps:=["number","width"]) λ_ _ _ _ _ _=>us2 (λ_ _=>rfl);have F1:=fm (P:=P) "first_of" s1 24 (sv "gatepapers.circuits" 195) 23;have B1:=F1.binds (ps:=["circuit"]) λ_ _ _ _ _ _=>Ch (λ_=>rfl);have F2:=fm (P:=P) "all_trials" s2 31 (sv "gatepapers.columns" 203) 30;have B2:=F2.binds (ps:=["many"]) λ_ _ _ _ _ _=>Ch (λ_=>rfl);have F3:=fm (P:=P) "column_of" s3 38 (sv "gatepapers.columns" 203) 37;have B3:=F3.binds (ps:=["k","many"]) λ_ _ _ _ _ _=>us2 (λ_ _=>rfl);have F4:=fm (P:=P) "column_told" s4 43 (sv "gatepapers.columns" 203) 42;have B4:=F4.binds (ps:=["table","columns","whole"]) λ_ _ _ _ _ _=>Iq (λ_ _ _=>rfl);have F5:=fm (P:=P) "parted" s5 159 (sv "gatepapers.judge" 377) 158;have B5:=F5.binds (ps:=["one","other"]) λ_ _ _ _ _ _=>us2 (λ_ _=>rfl);have F6:=fm (P:=P) "pairs" s6 166 (sv "gatepapers.judge" 377) 165;have B6:=F6.binds (ps:=["one","other"]) λ_ _ _ _ _ _=>us2 (λ_ _=>rfl);have F7:=fm (P:=P) "search" s7 173 (sv "gatepapers.judge" 377) 172;have B7:=F7.binds (ps:=["one","other"]) λ_ _ _ _ _ _=>us2 (λ_ _=>rfl);have F8:=fm (P:=P) "refuse_unlike" s8 180 (sv "gatepapers.judge" 377) 179;have B8:=F8.binds (ps:=["one","other"]) λ_ _ _ _ _ _=>us2 (λ_ _=>rfl);have F9:=fm (P:=P) "refuse_many" s9 187 (sv "gatepapers.judge" 377) 186;have B9:=F9.binds (ps:=["many"]) λ_ _ _ _ _ _=>Ch (λ_=>rfl);have F10:=fm (P:=P) "key_of" Iv 194 (sv "gatepapers.judge" 377) 193;have B10:=F10.binds (ps:=["pair"]) λ_ _ _ _ _ _=>Ch (λ_=>rfl);have F11:=fm (P:=P) "rising_bits" Jx 201 (sv "gatepapers.judge" 377) 200;have B11:=F11.binds (ps:=["number","many"]) λ_ _ _ _ _ _=>us2 (λ_ _=>rfl);have F12:=fm (P:=P) "pair_turns" Jy 208 (sv "gatepapers.judge" 377) 207;have B12:=F12.binds (ps:=["one","other","pair"]) λ_ _ _ _ _ _=>Iq (λ_ _ _=>rfl);have F13:=fm (P:=P) "all_turns" s13 213 (sv "gatepapers.judge" 377) 212;have B13:=F13.binds (ps:=["circuit","state"]) λ_ _ _ _ _ _=>us2 (λ_ _=>rfl);have F14:=fm (P:=P) "trial_bits" Jz 218 (sv "gatepapers.judge" 377) 217;have B14:=F14.binds (ps:=["columns","number"]) λ_ _ _ _ _ _=>us2 (λ_ _=>rfl);have F15:=fm (P:=P) "_law_next" JA 225 mL 224;have B15:=F15.binds (ps:=["_law_state_here","_law_many"]) λ_ _ _ _ _ _=>us2 (λ_ _=>rfl);have F16:=fm (P:=P) "_law_state" JB 230 mL 229;have B16:=F16.binds (ps:=["_law_script"]) λ_ _ _ _ _ _=>Ch (λ_=>rfl);have F17:=fm (P:=P) "_law_copied" JC 235 mL 234;have B17:=F17.binds (ps:=["_law_thing"]) λ_ _ _ _ _ _=>Ch (λ_=>rfl);have F18:=fm (P:=P) "_law_ring" JD 240 mL 239;have B18:=F18.binds (ps:=["_law_ins","_law_many","_law_outs"]) λ_ _ _ _ _ _=>Iq (λ_ _ _=>rfl);have F19:=fm (P:=P) "_law_divisor" JE 247 mL 246;have B19:=F19.binds (ps:=["_law_one","_law_other"]) λ_ _ _ _ _ _=>us2 (λ_ _=>rfl);have F20:=fm (P:=P) "_law_caught" vF 254 mL 253;have B20:=F20.binds (ps:=["_law_word","_law_one","_law_other"]) λ_ _ _ _ _ _=>Iq (λ_ _ _=>rfl);have F21:=fm (P:=P) "_law_sizes" JF 261 mL 260;have B21:=F21.binds (ps:=["_law_state_here"]) λ_ _ _ _ _ _=>Ch (λ_=>rfl);have F22:=fm (P:=P) "_law_due" JG 268 mL 267;have B22:=F22.binds (ps:=["_law_one","_law_other","_law_outs"]) λ_ _ _ _ _ _=>Iq (λ_ _ _=>rfl);have F23:=fm (P:=P) "_law_told" u8 273 mL 272;have B23:=F23.binds (ps:=["_law_ins","_law_one","_law_other","_law_due_here"]) λ_ _ _ _ _ _=>My (λ_ _ _ _=>rfl);have F24:=fm (P:=P) "law" qQ 278 mL 277;have B24:=F24.binds (ps:=["_law_script"]) λ_ _ _ _ _ _=>Ch (λ_=>rfl);refine⟨N0 "law" "law" (dU qQ) (aH qQ) (af qQ) .none .none .none mL PV (.ref 277) .none,λs v=>.of_eq rfl,λbase _ _=>?_⟩
 have T0:TabF l.prog w (KK P) mg base (a7 fns Γ0) 0:=⟨λx φ hx=>by (have hx:(bz x fns.fns).bind Γ0.fn=PU φ:=hx;cases q:bz x fns.fns<;>rw[q] at hx<;>cases hx),(λc fs C hc _=>nomatch (show([]:List (Str×List Str)).lookup c=PU fs from hc)),λx φ hx=>by (have hx:(bz x fns.fns).bind (λi=>(Γ0.fm i).map λφ=>λK=>BW K φ)=PU φ:=hx;cases q:bz x fns.fns<;>rw[q] at hx<;>cases hx),(λx hx=>by
  simp only[aR,M7,NH,or_false] at hx;rcases hx with rfl|rfl|rfl|rfl|rfl|rfl|rfl|rfl|rfl|rfl|rfl|rfl|rfl|rfl|rfl|rfl|rfl|rfl|rfl|rfl|rfl
  all_goals exact OQ X G (by kernel_rfl)),λx d hx=>by
  have hx:O8 x fns.cs=PU d:=hx;simp only[fns,O8] at hx;split at hx
  ·rename_i e;have e:=eq_of_beq e;subst e;cases hx;exact⟨_,.int 6,ce X G (v:=(.int 6 379)) (by kernel_rfl),⟨_,rfl⟩,λH S=>(by unfold Rp;rfl),by decide⟩
  ·split at hx
   ·rename_i e;have e:=eq_of_beq e;subst e;cases hx;exact⟨_,.int 300,ce X G (v:=(.int 300 381)) (by kernel_rfl),⟨_,rfl⟩,λH S=>(by unfold Rp;rfl),by decide⟩
   ·cases hx⟩
 have T1:=T0.addI (i:=0) (ψ:=ψ0) F0 MA (ce X G (v:=.ref 19) (by kernel_rfl)) B0 rfl rfl Mz λ_=>Le.refl _;have T2:=T1.addI (i:=1) (ψ:=ψ1) F1 MC (ce X G (v:=.ref 24) (by kernel_rfl)) B1 rfl rfl MB λ_=>Le.refl _;have T3:=T2.addI (i:=2) (ψ:=ψ2) F2 MF (ce X G (v:=.ref 31) (by kernel_rfl)) B2 rfl rfl MD λ_=>Le.refl _;have T4:=T3.addI (i:=3) (ψ:=ψ3) F3 MH (ce X G (v:=.ref 38) (by kernel_rfl)) B3 rfl rfl MG λ_=>Le.refl _;have T5:=T4.addI (i:=4) (ψ:=ψ4) F4 MK (ce X G (v:=.ref 43) (by kernel_rfl)) B4 rfl rfl MJ λ_=>Le.refl _;have T6:=T5.addI (i:=8) (ψ:=ψ8) F8 K9 (ce X G (v:=.ref 180) (by kernel_rfl)) B8 rfl rfl MP λ_=>Le.refl _;have T7:=T6.addI (i:=9) (ψ:=ψ9) F9 Mj (ce X G (v:=.ref 187) (by kernel_rfl)) B9 rfl rfl MQ λ_=>Le.refl _;have T8:=T7.addI (i:=10) (ψ:=AU) F10 Lc (ce X G (v:=.ref 194) (by kernel_rfl)) B10 rfl rfl Lb λ_=>Le.refl _;have T9:=T8.addI (i:=11) (ψ:=Gn) F11 Lg (ce X G (v:=.ref 201) (by kernel_rfl)) B11 rfl rfl Lf λ_=>Le.refl _;have T10:=T9.addI (i:=14) (ψ:=Cr) F14 Lo (ce X G (v:=.ref 218) (by kernel_rfl)) B14 rfl rfl Ln λ_=>Le.refl _;have T11:=T10.addI (i:=13) (ψ:=Go) F13 Ll (ce X G (v:=.ref 213) (by kernel_rfl)) B13 rfl rfl Lk λ_=>Le.refl _;have T12:=T11.addI (i:=12) (ψ:=Gp) F12 Lj (ce X G (v:=.ref 208) (by kernel_rfl)) B12 rfl rfl Li λ_=>Le.refl _;have T13:=T12.addI (i:=7) (ψ:=ψ7) F7 K8 (ce X G (v:=.ref 173) (by kernel_rfl)) B7 rfl rfl MN λ_=>Le.refl _;have T14:=T13.addI (i:=5) (ψ:=ψ5) F5 Mf (ce X G (v:=.ref 159) (by kernel_rfl)) B5 rfl rfl ML λ_=>Le.refl _;have T15:=T14.addI (i:=6) (ψ:=ψ6) F6 Mh (ce X G (v:=.ref 166) (by kernel_rfl)) B6 rfl rfl MM λ_=>Le.refl _;have T16:=T15.addM (i:=15) (ψ:=Gq) (pn:=[0]) F15 Lr (ce X G (v:=.ref 225) (by kernel_rfl)) B15 rfl rfl Lq λ_=>Le.refl _;have T17:=T16.addI (i:=16) (ψ:=IQ) F16 Lv (ce X G (v:=.ref 230) (by kernel_rfl)) B16 rfl rfl Lu λ_=>Le.refl _;have T18:=T17.recI (i:=17) (M:=1000) F17 Lx (ce X G (v:=.ref 235) (by kernel_rfl)) B17 rfl rfl Lw 40;have T19:=T18.addI (i:=18) (ψ:=v9) F18 LA (ce X G (v:=.ref 240) (by kernel_rfl)) B18 rfl rfl Lz λ_=>Le.refl _;have T20:=T19.addI (i:=19) (ψ:=IU) F19 LD (ce X G (v:=.ref 247) (by kernel_rfl)) B19 rfl rfl LC λ_=>Le.refl _;have cU:Cl (KK P) mg 126 PY:=⟨⟨by kernel_rfl,by kernel_rfl,by kernel_rfl,by kernel_rfl⟩,⟨53,(ce X G (v:=.ref 53) (by kernel_rfl)),by kernel_rfl,by kernel_rfl⟩,by kernel_rfl,OQ X G (by kernel_rfl),⟨90,150,66,138,102,78,(ce X G (v:=.ref 90) (by kernel_rfl)),(ce X G (v:=.ref 150) (by kernel_rfl)),(ce X G (v:=.ref 66) (by kernel_rfl)),(ce X G (v:=.ref 138) (by kernel_rfl)),(ce X G (v:=.ref 102) (by kernel_rfl)),(ce X G (v:=.ref 78) (by kernel_rfl)),by kernel_rfl⟩,⟨114,(ce X G (v:=.ref 114) (by kernel_rfl)),by kernel_rfl⟩,126,(ce X G (v:=.ref 126) (by kernel_rfl)),by kernel_rfl⟩;have cT:Cl (KK P) mg 114 PX:=⟨⟨by kernel_rfl,by kernel_rfl,by kernel_rfl,by kernel_rfl⟩,⟨53,(ce X G (v:=.ref 53) (by kernel_rfl)),by kernel_rfl,by kernel_rfl⟩,by kernel_rfl,OQ X G (by kernel_rfl),⟨90,150,66,138,102,78,(ce X G (v:=.ref 90) (by kernel_rfl)),(ce X G (v:=.ref 150) (by kernel_rfl)),(ce X G (v:=.ref 66) (by kernel_rfl)),(ce X G (v:=.ref 138) (by kernel_rfl)),(ce X G (v:=.ref 102) (by kernel_rfl)),(ce X G (v:=.ref 78) (by kernel_rfl)),by kernel_rfl⟩,⟨114,(ce X G (v:=.ref 114) (by kernel_rfl)),by kernel_rfl⟩,126,(ce X G (v:=.ref 126) (by kernel_rfl)),by kernel_rfl⟩;have U8:=zg F8 B8 T5 (ce X G (v:=.ref 180) (by kernel_rfl)) (ce X G (v:=.ref 126) (by kernel_rfl)) cU.k.ex;have G8:=BC F8 B8 T5 (ce X G (v:=.ref 180) (by kernel_rfl)) (ce X G (v:=.ref 114) (by kernel_rfl)) (ce X G (v:=.int 6 379) (by kernel_rfl)) cT.k.ex;have M9:=FR F9 B9 T6 (ce X G (v:=.ref 187) (by kernel_rfl)) (ce X G (v:=.ref 114) (by kernel_rfl)) (ce X G (v:=.int 300 381) (by kernel_rfl)) cT.k.ex;have SU:=vZ F7 B7 T12 (ce X G (v:=.ref 173) (by kernel_rfl)) U8 (by decide);have SG:=v3 F7 B7 T12 (ce X G (v:=.ref 173) (by kernel_rfl)) G8 (by decide) M9 (by decide);have hu:=λds h=>(j4 ds h).1;have hg:=λds (h:qf fw ds=PX)=>(uu ds h).1;have T21:=T20.addX (i:=20) (ψ:=Cs) F20 (AS F20 LF T20 λ_ R O=>rX R O cU cT (p9 hu F5 B5 T13 (ce X G (v:=.ref 159) (by kernel_rfl)) SU (by decide)) (by decide) (uw hu F6 B6 T14 (ce X G (v:=.ref 166) (by kernel_rfl)) SU (by decide)) (by decide) (p9 hg F5 B5 T13 (ce X G (v:=.ref 159) (by kernel_rfl)) SG (by decide)) (by decide) (uw hg F6 B6 T14 (ce X G (v:=.ref 166) (by kernel_rfl)) SG (by decide)) (by decide)) (ce X G (v:=.ref 254) (by kernel_rfl)) B20 rfl rfl LY;have T22:=T21.addM (i:=21) (ψ:=IW) (pn:=[0]) F21 LI (ce X G (v:=.ref 261) (by kernel_rfl)) B21 rfl rfl LH λ_=>Le.refl _;have T23:=T22.addI (i:=22) (ψ:=IX) F22 LL (ce X G (v:=.ref 268) (by kernel_rfl)) B22 rfl rfl LK λ_=>Le.refl _;have T24:=T23.addI (i:=23) (ψ:=AV) F23 LN (ce X G (v:=.ref 273) (by kernel_rfl)) B23 rfl rfl LM λ_=>Le.refl _;exact(tJ (n:=60) (an:=an) F24 LP T24 LO).imp λvs H Q E s=>rf (λ_=>Le.refl _) s
theorem LZ{l:PySem.W.OpenLaw}{YP:P8->Qa->Prop}{d:DefRec}{K:Params->MW}(hn:l.most=PU 63)(hdf:d.params.defaults=[])(hY:∀(w:P8) (h:Qa),YP w h->(K w.params).In h)(F:∀(w:P8) (mg:Str->Option PZ) (fa:P1) (h:Qa),(K w.params).In h->h.Ns Qh mg->mg d.name=PU (.ref fa)->
   ∃fd:Qk,(∀(s:P2) (u:PZ),BindsTo s fd ⟨[u],[]⟩ [("_law_script",u)])/\∀base:Qa,(K w.params).In base->base.Ns Qh mg->FnOk l.prog w (K w.params) mg base oP 65 fa fd ["_law_script"] (v6 (K w.params) IY)) :
  PySem.W.WalkO q loose XP YP l.row.toRowW d [] (λf vs=>PySem.call f vs):=
 L2.zD (n:=63) (k:=65) (x:="_law_script") (CX:=λ_=>oP) (sp:=λw=>v6 (K w.params) IY) hn (by decide) hdf ⟨rfl,by decide,by decide,rfl⟩ hY F (λ_ _ a ns hl _ hS=>ET hS (yT ct ns hl)) λ_ _ _ _ _ z=>z
end K53
open PySem PySem.W PyProof.Rows
set_option maxRecDepth 100000 in
set_option maxHeartbeats 0 in
theorem PySem.Challenge.cw_gatepapers_k53_unlike_and_too_great_holds : PySem.Challenge.rw_gatepapers_k53_unlike_and_too_great.Holds := by
 refine holds_law (by kernel_rfl) λsaid=>?_;refine holds_open (d:=⟨"law",L2.dU K53.qQ,L2.aH K53.qQ,L2.af K53.qQ,K53.FU⟩) (kwd:=[]) (q:=K53.qv) (loose:=K53.lo) (XP:=XL K53.qv []) (YP:=Hook.says K53.HH) K53.left (Hook.of K53.HH) (Hook.keeps K53.HH) (λs e=>xl_of s (OE.mp e).1) XL.keeps (by kernel_rfl) (by kernel_rfl) (by kernel_rfl) (λs e=>recFacts_of (OE.mp e).2) (by kernel_rfl) said (by kernel_rfl) ⟨rfl,rfl,rfl,rfl,rfl,by kernel_rfl⟩ ?hw ?hc
 case hw=>w_witness2
 case hc=>
  refine K53.LZ (l:=PySem.Challenge.rw_gatepapers_k53_unlike_and_too_great) rfl rfl (λw h Y=>PySem.W.kIn_of Y) ?F;intro w mg fa h KX G hmg;exact K53.FV KX G hmg
end
