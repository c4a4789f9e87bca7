import PyProof.Rows.All
import Wide.All
import OpenK.AllK
import Wide.FinOn
import PyProof.TupleKey
import Lean
import PyProof.EqAt
import PyProof.EqKinds
import PyProof.TupleCall
import KE.KRevSl
import KE.KUnpack
import PyProof.SumAny
import PyProof.WalksS
import PyProof.NeKinds
import PyProof.ZipIter
import PyProof.WalkInts
import PyProof.AttrMissHeap
import KE.KDictOf
import PyProof.ListRange
import PyProof.StrWalks
import PyProof.StrOps2
import PyProof.Rows.SetFrom
import PyProof.P3Eq
import PyProof.NeData
import PyProof.P3In
import KE.KEqDict
import PyProof.IsRules
import PyProof.ReprRoads
import PyProof.ReprBulk
import PyProof.ReprRoom
import PyProof.CallFns
import PyProof.Rows.SeqRoads
import PyProof.ListOps
import PyProof.CollectWalk
import PyProof.Rows.SortShell
import PyProof.CollectStr
import PyProof.Rows.SortWalk
import KE.KRevIter
import PyProof.ListNew
import PyProof.SeqI3
import PyProof.FactsAll.zip
import PyProof.Rows.BitMore
import KE.BitLaws
import PySem.Challenge.RW_gatepapers_k27_expressions_worked
set_option Elab.async false
set_option linter.all false
set_option maxRecDepth 100000
set_option autoImplicit true
set_option relaxedAutoImplicit true
set_option genInjectivity false
set_option genSizeOf false
set_option genSizeOfSpec false
set_option maxHeartbeats 4000000
noncomputable section
open PySem.W renaming Frag->Mz,emptyDict->Nn,keepIn->Nw,instObj->NF,fnOf->NG,nsIn->NI,findIn->NB,kitOne->ND,codeIn->Oz,methodObj->OM,hasDictIn->ON,plainGet->OW,takerIn->O7,kia_one->Ni,cellsFrom_some->Pe,lookIn->Ph,callWith_K0->Pu,callWith_K->PB,plainOver->PL,handedIn->PV,makesIn->P4,kitx_list->PM
open Bool renaming and_eq_true->MA,false_eq_true->Nr,false_ne_true->NA,or_eq_true->NS,not_true->OH,not_eq_true'->OR,and_eq_true_iff->Pq,or_false->Ps,true->P8,false->Qb
open List renaming length_map->MB,getElem?_map->MF,getElem?_eq_some_iff->MJ,getElem?_eq_getElem->MK,mem_cons->ML,mem_append_right->MN,size_toArray->MQ,mem_cons_of_mem->MS,map_cons->MU,getElem?_set_ne->MV,getElem?_set_self->MW,length_append->MX,length_cons->MY,lookup_cons->MZ,mem_cons_self->M1,mem_map->M2,nodup_cons->M3,map_map->M5,drop_eq_getElem_cons->M6,map_append->M7,length_take->M8,findIdx?_cons->Na,not_mem_nil->Nb,zipWith->Nc,getElem?_eq_none->Nd,mem_of_getElem?->Nf,replicate->Nh,take_length->Nk,range->Np,getElem?_append_left->Nq,mem_singleton->Nt,all_cons->Nu,lookup->Ny,take_append_drop->NE,find?_cons->NH,take_add_one->NK,cons_append->NM,take_of_length_le->NO,append_nil->NQ,mem_append->NR,getElem?_append_right->NT,getD_eq_getElem?_getD->NU,getElem?_eq_none_iff->NV,all_eq_true->NW,filterMap_cons->NX,getElem?_replicate->N0,length_set->N1,zip_cons_cons->N2,findIdx?_map->N5,length_range->N6,mem_append_left->N8,replicate_succ->Ob,getElem?_range->Oc,getElem?_cons_succ->Oh,ext_getElem?->Oj,drop_of_length_le->Om,length_drop->On,drop_length->Oo,length_zip->Os,map_congr_left->Ox,mem_range->Oy,length->OA,mem_filterMap->OB,set_cons_succ->OC,any_cons->OJ,map_take->OK,map_drop->OL,take_sublist->OO,append_assoc->OP,pairwise_map->OT,findIdx?_eq_none_iff->OV,getElem?_take_of_lt->OX,map_nil->OZ,map_zipWith->O1,length_eq_zero_iff->O2,getElem?_cons_zero->O3,filter_cons_of_pos->O4,filter_cons_of_neg->O5,mem_filter->O6,of_mem_zip->O8,length_nil->O9,foldl_cons->Pa,nil_append->Pb,filter_eq_nil_iff->Pg,length_replicate->Pi,length_singleton->Pk,nodup_nil->Pl,getElem?_zipWith->Pn,mem_map_of_mem->Pv,length_zipWith->Pw,reverse_append->Px,all_nil->PJ,any_eq_false->PK,reverse_cons->PQ,nodup_append->PR,getElem_inj->PU,map->PY,getElem_mem->PZ,any_eq_true->P0,map_reverse->P1,zipWith_map->P3
open PySem.Heap renaming get?_push_of_some->MC,lt_size->MD,get?_push_size->MP,size_push->NC,get?_update_other->Ol,get?_update_self->Pj
open Nat renaming lt_of_lt_of_le->MG,le_refl->MH,ne_of_lt->MM,le_trans->M0,zero_le->M4,lt_of_le_of_lt->M9,lt_irrefl->Ng,two_pow_pos->Nj,le_add_right->Nl,one_shiftLeft->No,lt_succ_self->Nz,pow_le_pow_right->NJ,mod_eq_of_lt->NN,ne_of_gt->NP,add_le_add_left->NZ,testBit_lt_two_pow->N4,testBit_two_pow_sub_one->N7,add_le_add_right->N9,le_succ->Oa,min_eq_left->Od,le_of_lt->Of,lt_succ_of_lt->Oi,testBit_eq_decide_div_mod_eq->Op,lt_trans->Oq,and_two_pow_sub_one_eq_mod->Ot,not_lt_zero->Ou,pow_lt_pow_right->Ov,xor_lt_two_pow->OD,and_lt_two_pow->OE,mul_lt_mul_of_pos_right->OF,add_assoc->OG,le_of_succ_le->OQ,or_lt_two_pow->OS,shiftLeft_eq->O0,testBit_xor->Pd,eq_of_testBit_eq->Po,mod_lt->Pp,min_self->PF,pow_succ->PH,le_succ_of_le->PP,lt_of_not_le->P2
open Option renaming bind_some->Nm,getD_none->OY,map_eq_some_iff->Pf,isSome_some->PC,getD_some->PX,map_some->P5,some->P6,none->P7
open Int renaming toNat_natCast->Nx,natCast_add->N3,emod_nonneg->Oe,emod_lt_of_pos->Og,fdiv_eq_ediv_of_nonneg->OI,toNat_of_nonneg->Py,sub_zero->PD
open Array renaming length_toList->NY,getElem?_eq_getElem->OU,getElem?_toList->Pm,forIn_toList->Pz
open PySem renaming Expr->P9,Value->Qa,Addr->Qc,Shared->Qd,wpAny_bind->Qe,wpAny->Qf,model->Qg,wpAny_pure->Qh,Program->Qi,World->Qj,Around->Qk,Stmt->Ql,starEach->Qm,Heap->Qn,Scope->Qo,mainGlobals->Qp,cellsFrom->Qq,assignEach->Qr,behindInMarks->Qs,NameKind->Qt,CmpOp->Qu,FuncData->Qw,wpAny_holding->Qx,Operator->Qv,wpAny_passesOwn->Qy,wpAny_truthy_bool->Qz,wpAny_pyIter_list->QA,wpAny_newObj_type->QB,wpAny_call_entry->QC,rawInt->QD
namespace PySem
open Sem (wp)
section
variable {prog:Qi} {w:Qj} {K:Type} [DecidableEq K] (knd:KeyKind prog w K)
inductive Its2 (h:Heap):Nat->List (K ⊕ List K)->List Value->Prop
 |nil {m:Nat}:Its2 h m [] []
 |key {m:Nat} {k:K} {v:Qa} {xs:List (K ⊕ List K)} {vs:List Qa}:m%2=0->knd.is k v=P8->Its2 h (m / 2) xs vs->Its2 h m (.inl k::xs) (v::vs)
 |tup {m:Nat} {ks:List K} {b:Qc} {xs:List (K ⊕ List K)} {vs:List Qa}:m%2=1->IsTupleKey knd h ks b->Its2 h (m / 2) xs vs->Its2 h m (.inr ks::xs) (.ref b::vs)
noncomputable def IsDeep(m:Nat)(h:Qn)(xs:List (K ⊕ List K))(a:Qc):Prop:=∃o items n,h.get? a=P6 o/\o.cls=.type "tuple"/\o.data=.seq items n/\Its2 knd h m xs items.toList
noncomputable def cY:K ⊕ List K->Int
 |.inl k=>knd.hash k
 |.inr ks=>tupleKeyHash knd ks
noncomputable def ci:K ⊕ List K->Nat
 |.inl _=>1
 |.inr ks=>ks.length+1
noncomputable def jM(xs:List (K ⊕ List K)):Int:=reduceHash (Builtin.Tuple.tupleHashOf (xs.map (cY knd)))
variable {knd}
theorem Its2.inj{m:Nat}(hx:Its2 knd h m x vs)(hy:Its2 knd h m y vs):x=y:=by
 induction hx generalizing y with
 |nil=>cases hy;rfl
 |key e h1 _ ih=>
  cases hy with
  |key _ h2 t2=>rw[knd.inj _ _ _ h1 h2,ih t2]
  |tup e2 _ _=>lia
 |tup e h1 _ ih=>
  cases hy with
  |key e2 _ _=>lia
  |tup _ h2 t2=>rw[h1.inj h2,ih t2]
theorem Its2.keeps{m:Nat}(k:∀ks b,IsTupleKey knd h ks b->IsTupleKey knd h' ks b)(hx:Its2 knd h m x vs):Its2 knd h' m x vs:=by
 induction hx with
 |nil=>exact .nil
 |key e h1 _ ih=>exact .key e h1 ih
 |tup e h1 _ ih=>exact .tup e (k _ _ h1) ih
theorem IsDeep.ty{s:Qd}{m:Nat}(x:IsDeep knd m s.heap xs a):s.TypeIs (.ref a) "tuple":=by
 unfold IsDeep at x;rcases x with⟨o,_,_,g,c,_⟩;exact⟨o,g,c⟩
theorem IsDeep.one{m:Nat}(p:IsDeep knd m h x a)(q:IsDeep knd m h y a):x=y:=by
 unfold IsDeep at p q;rcases p with⟨o,i,n,g,_,d,r⟩;rcases q with⟨o2,i2,n2,g2,_,d2,r2⟩;cases g.symm.trans g2;cases d.symm.trans d2;exact r.inj r2
theorem IsDeep.stay{h h':Qn}{m:Nat}{o:Obj}{es ep}(x:IsDeep knd m h xs a)(g:h.get? d=P6 o)(e:o.data=.dict es ep)(q:Heap.SameBut d h h'):IsDeep knd m h' xs a:=by
 unfold IsDeep at x⊢;rcases x with⟨o2,i,n,g2,c,d2,r⟩;refine⟨o2,i,n,?_,c,d2,r.keeps λks b z=>z.keeps g e q⟩;refine(q.2 a λz=>?_).trans g2;rw[z,g] at g2;cases g2;rw[e] at d2;cases d2
variable {A:Qk} {E:Qa->Qd->Prop} {s:Qd}
theorem gm{m:Nat}{xs:List (K ⊕ List K)}{Q:Int->Qd->Prop}(hu:A.units+8<cLine)(hk:IsDeep knd m s.heap xs a)(h:Q (jM knd xs) { s with toks:=s.toks+((xs.map ci).sum+1) }) :
  Qf (Qg prog w) A (pyHash (.ref a)) Q E s:=by
 have ty:=hk.ty;have lk:=F.slot_tuple_hash.lookup;rcases hk with⟨o,its,n,g,c,d,r⟩
 have turn:∀(rest:List Qa) (b:Array Int) (z:Qd) (v:Qa),(∃done left m',xs=done++left/\Its2 knd s.heap m' left (v::rest)/\b.toList=done.map (cY knd)/\z={ s with toks:=s.toks+(done.map ci).sum })->
   ∃i k,(∀(A:Qk) (R:Int->Qd->Prop),A.units<cLine->R i { z with toks:=z.toks+k }->Qf (Qg prog w) A (pyHash v) R E z)/\∃done left m',xs=done++left/\Its2 knd s.heap m' left rest/\(b.push i).toList=done.map (cY knd)/\{ z with toks:=z.toks+k }={ s with toks:=s.toks+(done.map ci).sum }:=by
  rintro rest b z v ⟨done,left,m',e,it,eb,rfl⟩
  cases it with
  |@key _ k _ left' _ _ h1 it'=>
   exact⟨knd.hash k,1,λA R _ q=>knd.pyHash h1 q,done++[.inl k],left',m' / 2,by simp[e],it',by simp[eb,cY],by simp[ci,OG]⟩
  |@tup _ ks _ left' _ _ h1 it'=>
   exact⟨tupleKeyHash knd ks,ks.length+1,λA R u q=>wpAny_pyHash_tuple (knd:=knd) u h1 q,done++[.inr ks],left',m' / 2,by simp[e],it',by simp[eb,cY],by simp[ci,OG]⟩
 unfold pyHash
 first|unfold pyHashByItsType|skip
 first|refine Qe (wpAny_cRoomFor_or (.inr (by lia)) ?_)|skip
 refine Qe (wpAny_specialOf ty lk ((if_neg (show ¬(P6 (Value.builtin "tuple.__hash__")==P6 Value.none)=P8 by rw[beq_builtin_none];exact NA)).symm▸Qe (wpAny_specialOf ty lk (Qe (wpAny_callSpecialIfBoundUnlessNone?_slot ty F.slot_tuple_hash (QC F.slot_tuple_hash ty F.entry_tuple_hash (show Qf _ _ (Builtin.Tuple.tupleItemsOf (.ref a) >>= _) _ _ s from Qe (wpAny_tupleItemsOf g d (Qe ?_))) (F.args_tuple_hash_1 _)))))));rw[<- Pz];refine wpAny_forIn_list _ (λrest (b:Array Int) z=>∃done left m',xs=done++left/\Its2 knd s.heap m' left rest/\b.toList=done.map (cY knd)/\z={ s with toks:=s.toks+(done.map ci).sum }) _ (λv rest b z hz=>?_) (λb z hz=>?_) _ _ ⟨[],xs,m,rfl,r,rfl,rfl⟩
 ·obtain⟨i,k,run,nxt⟩:=turn rest b z v hz
  exact Qe (run _ _ (by first|lia|(show _+1<_;lia)) (by first|exact Qh nxt|exact Qe (Qh (Qh nxt))))
 ·obtain⟨done,left,m',e,it,eb,rfl⟩:=hz;cases it;have e':done=xs:=by rw[e,NQ]
  subst e';show Qf _ _ (retInt (Builtin.Tuple.tupleHashOf b.toList)) _ _ _;rw[eb];refine wpAny_ret_mkInt ?_;unfold jM reduceHash at h;generalize Builtin.Tuple.tupleHashOf (done.map (cY knd))=y at h⊢
  show Qf _ _ (if(decide (-(2:Int)^63<=y)&&decide (y<2^63))=P8 then _ else _) Q E _
  split
  ·rename_i hr;rw[if_pos hr] at h;exact Qh (by simpa[OG] using h)
  ·rename_i hr;rw[if_neg hr] at h;exact Qe (wpAny_rule (Qh (by simpa[OG] using h)))
theorem Its2.two{h:Qn}{m:Nat}{us vs:List Qa}(p:Its2 knd h m x us)(q:Its2 knd h m y vs)(z:(u,v)::rest=us.zip vs) :
  ∃(i j:K ⊕ List K) (x2 y2:List (K ⊕ List K)) (us2 vs2:List Qa),x=i::x2/\y=j::y2/\us=u::us2/\vs=v::vs2/\Its2 knd h (m / 2) x2 us2/\Its2 knd h (m / 2) y2 vs2/\rest=us2.zip vs2/\
   ∀(A:Qk) (E:Qa->Qd->Prop) (s:Qd) (Q:Bool->Qd->Prop),s.heap=h->A.units<cLine->Q (decide (i=j)) s->Qf (Qg prog w) A (eqBool u v) Q E s:=by
 cases p with
 |nil=>cases z
 |@key _ k1 u' x2 us2 e h1 p2=>
  cases q with
  |nil=>cases z
  |@key _ k2 v' y2 vs2 e2 h2 q2=>
   cases z;exact⟨_,_,_,_,_,_,rfl,rfl,rfl,rfl,p2,q2,rfl,λA E s Q es u qq=>knd.eqBool h1 h2 (by simpa using qq)⟩
  |tup e2 _ _=>lia
 |@tup _ k1 b1 x2 us2 e h1 p2=>
  cases q with
  |nil=>cases z
  |key e2 _ _=>lia
  |@tup _ k2 b2 y2 vs2 e2 h2 q2=>
   cases z;exact⟨_,_,_,_,_,_,rfl,rfl,rfl,rfl,p2,q2,rfl,λA E s Q es u qq=>wpAny_eqBool_tuple u (es▸h1) (es▸h2) (by simpa using qq)⟩
theorem Its2.ends{m:Nat}{us vs:List Qa}(p:Its2 knd h m x us)(q:Its2 knd h m y vs)(z:us.zip vs=[]):(us.length==vs.length)=decide (x=y):=by
 cases p<;>cases q<;>first|rfl|(simp at z;done)|simp
theorem l0{m:Nat}{P:Fin->Qd->Prop}(hu:A.units+4<cLine)(hx:IsDeep knd m s.heap x a)(hy:IsDeep knd m s.heap y b)(h:P (.done (.ret (.bool (decide (x=y))))) s) :
  Qf (Qg prog w) A (Builtin.«tuple.__eq__» ⟨[.ref a,.ref b],[]⟩) P E s:=by
 have ty:=hy.ty;rcases hx with⟨o,us,n,g,c,d,p⟩;rcases hy with⟨o2,vs,n2,g2,c2,d2,q⟩;refine(show Qf _ _ (isInstance (.ref b) (.type "tuple") >>= _) _ _ s from Qe (wpAny_isInstance ty isSubtype_tuple_tuple ?_));simp only[OH,Nr,if_false];refine Qe (wpAny_tupleItemsOf g d (Qe (wpAny_tupleItemsOf g2 d2 (Qe ?_))));refine wpAny_forIn_list _ (λrest r z=>r.1=P7/\z=s/\∃m' x' y' us' vs',rest=List.zip us' vs'/\Its2 knd s.heap m' x' us'/\Its2 knd s.heap m' y' vs'/\decide (x'=y')=decide (x=y)/\(us'.length==vs'.length)=(us.size==vs.size))
  _ (λuv rest r z hz=>?_) (λr z hz=>?_) _ _ ⟨rfl,rfl,m,x,y,us.toList,vs.toList,rfl,p,q,rfl,by simp⟩
 ·obtain⟨u,v⟩:=uv;obtain⟨hr,rfl,m',x',y',us',vs',e,p',q',hd,hl⟩:=hz;obtain⟨i,j,x2,y2,us2,vs2,rfl,rfl,rfl,rfl,p2,q2,rfl,run⟩:=p'.two q' e;refine Qe (run _ _ _ _ rfl (by lia) ?_)
  cases hk:decide (i=j) with
  |true=>
   have hk:=of_decide_eq_true hk;subst hk;simp only[OH,Nr,if_false];exact Qh ⟨rfl,rfl,m' / 2,x2,y2,us2,vs2,rfl,p2,q2,hd▸by simp,by simpa using hl⟩
  |false=>
   have hk:=of_decide_eq_false hk;simp only[Bool.not_false,if_true];have hf:decide (x=y)=Qb:=hd▸by simp[hk]
   exact Qe (Qh (Qh (Qh (hf▸h))))
 ·obtain⟨r1,r2⟩:=r;obtain⟨hr,rfl,m',x',y',us',vs',e,p',q',hd,hl⟩:=hz;cases(show r1=P7 from hr);refine Qh ?_;show P (.done (.ret (.bool (us.size==vs.size)))) z;rw[<- hl,p'.ends q' e.symm,hd];exact h
theorem gp{m:Nat}{Q:Bool->Qd->Prop}(hu:A.units+8<cLine)(hx:IsDeep knd m s.heap x a)(hy:IsDeep knd m s.heap y b)(h:Q (decide (x=y)) s) :
  Qf (Qg prog w) A (eqBool (.ref a) (.ref b)) Q E s:=by
 unfold eqBool
 try with_reducible refine Qx ?_
 refine(show Qf _ _ (if(Value.ref a==Value.ref b)=P8 then _ else _) Q E s from ?_)
 split
 ·rename_i hab;cases eq_of_beq hab;cases hx.one hy;exact Qe (wpAny_rule (Qh (by simpa using h)))
 ·have tree:=l0 (E:=E) (A:=A.in1) (P:=λfin s'=>∃v,fin=Fin.done (Flow.ret v)/\v≠.notImplemented/\Qf (Qg prog w) A (truthOfDropped v) Q E s') (by show A.units+1+4<cLine;lia) hx hy ⟨_,rfl,(λe=>nomatch e),Qz h⟩
  exact Qe (wpAny_richCompare_same_room (op:=.Eq) hx.ty hy.ty F.slot_tuple_eq (QC F.slot_tuple_eq hx.ty F.entry_tuple_eq tree (F.args_tuple_eq_2 _ _)) (by lia))
theorem nH{n:Nat}{o:Obj}{its:Array Qa}{ep:Nat}{Q:Bool->Qd->Prop}(g:s.heap.get? a=P6 o)(c:o.cls=.type "tuple")(d:o.data=.seq its ep)(hi:∀v∈its.toList,∀R:Bool->Qd->Prop,R P8 s->Qf (Qg prog w) A (eqIsQuiet n v) R E s)(q:Q P8 s) :
  Qf (Qg prog w) A (eqIsQuiet (n+1) (.ref a)) Q E s:=by
 have ty:s.TypeIs (.ref a) "tuple":=⟨o,g,c⟩;unfold eqIsQuiet;refine Qe (wpAny_specialOf ty F.slot_tuple_eq.lookup (show Qf _ _ (isInstance (.ref a) (.type "tuple") >>= _) _ _ s from Qe (wpAny_isInstance ty isSubtype_tuple_tuple ?_)));simp only[OH,Nr,if_false];refine Qe (wpAny_seqItems g d (Qe (show Qf _ _ (forIn its _ _) _ _ s from ?_)));rw[<- Pz];refine wpAny_forIn_list _ (λrest r z=>r.1=P7/\z=s/\∀v∈rest,v∈its.toList) _ (λv rest r z hz=>?_) (λr z hz=>?_) _ _ ⟨rfl,rfl,λv hv=>hv⟩
 ·obtain⟨hr,rfl,hm⟩:=hz;refine Qe (hi v (hm v M1) _ ?_);simp only[OH,Nr,if_false];exact Qh ⟨rfl,rfl,λu hu=>hm u (MS _ hu)⟩
 ·obtain⟨r1,r2⟩:=r;obtain⟨hr,rfl,_⟩:=hz;cases(show r1=P7 from hr);exact Qh q
theorem Its2.items{m:Nat}{vs:List Qa}(p:Its2 knd h m x vs):∀v∈vs,(∃k,knd.is k v=P8)\/∃ks b,v=.ref b/\IsTupleKey knd h ks b:=by
 induction p with
 |nil=>intro v hv;cases hv
 |key _ h1 _ ih=>intro v hv;exact(ML.mp hv).elim (λe=>.inl ⟨_,e▸h1⟩) (ih v)
 |tup _ h1 _ ih=>intro v hv;exact(ML.mp hv).elim (λe=>.inr ⟨_,_,e,h1⟩) (ih v)
theorem pS{m:Nat}{Q:Bool->Qd->Prop}(hk:IsDeep knd m s.heap xs a)(h:Q P8 s):Qf (Qg prog w) A (eqIsQuiet 8 (.ref a)) Q E s:=by
 rcases hk with⟨o,its,n,g,c,d,r⟩;refine nH (n:=7) g c d (λv hv R q=>?_) h;rcases r.items v hv with⟨k,e⟩|⟨ks,b,rfl,o2,its2,n2,g2,c2,d2,r2⟩
 ·rw[eqIsQuiet_byValue _ (knd.byValue _ _ e)];exact Qh q
 ·refine nH (n:=6) g2 c2 d2 (λv hv R q=>?_) q;rw[eqIsQuiet_byValue _ (r2.byValue v hv)];exact Qh q
end
noncomputable def cZ{prog:Qi}{w:Qj}{K:Type}[DecidableEq K](m:Nat)(knd:KeyKind prog w K):HeapKind prog w (List (K ⊕ List K)) where
 is:=IsDeep knd m
 hash:=jM knd
 draws:=λxs=>(xs.map ci).sum+1
 room:=λA=>A.units+8<cLine
 inj:=λp q=>p.one q
 keeps:=λx g e q=>x.stay g e q
 pyHash:=λhu hk h=>gm hu hk h
 eqBool:=λhu hx hy h=>gp hu hx hy h
 quiet:=λhk h=>pS hk h
end PySem
namespace L2
open PySem PySem.Spec PyProof.Rows
noncomputable abbrev aw:=Sum Int Str
noncomputable def lg:aw->Qa->Bool
 |.inl k,v=>Value.isInt k v
 |.inr x,v=>Value.isStrOf x v
noncomputable def Jt(w:Qj):aw->Int
 |.inl k=>hashInt k
 |.inr x=>hashStr w x
theorem aZ:∀{k:aw} {v:Qa},lg k v=P8->(∃i t,k=Sum.inl i/\v=Value.int i t)\/(∃x t,k=Sum.inr x/\v=Value.str x t)
 |.inl i,v,h=>by
  obtain⟨t,e⟩:=Value.isInt_shape (k:=i) (v:=v) h;exact .inl ⟨i,t,rfl,e⟩
 |.inr x,v,h=>by
  obtain⟨t,e⟩:=Value.isStrOf_shape (x:=x) (v:=v) h;exact .inr ⟨x,t,rfl,e⟩
theorem uk(i:Int)(t:Tok):lg (.inl i) (.int i t)=P8:=by simp[lg,Value.isInt]
theorem ul(x:Str)(t:Tok):lg (.inr x) (.str x t)=P8:=by simp[lg,Value.isStrOf]
theorem Cm(a b:Int):decide ((Sum.inl a:aw)=Sum.inl b)=(a==b):=by
 by_cases e:a=b
 ·subst e;simp
 ·have h:¬(Sum.inl a:aw)=Sum.inl b:=λq=>e (Sum.inl.inj q);rw[decide_eq_false h];exact(beq_eq_false_iff_ne.mpr e).symm
theorem Cn(a b:Str):decide ((Sum.inr a:aw)=Sum.inr b)=decide (a=b):=by
 by_cases e:a=b
 ·subst e;simp
 ·have h:¬(Sum.inr a:aw)=Sum.inr b:=λq=>e (Sum.inr.inj q);rw[decide_eq_false h,decide_eq_false e]
theorem Co(a:Int)(b:Str):decide ((Sum.inl a:aw)=Sum.inr b)=Qb:=decide_eq_false (λq=>nomatch q)
theorem Cp(a:Str)(b:Int):decide ((Sum.inr a:aw)=Sum.inl b)=Qb:=decide_eq_false (λq=>nomatch q)
noncomputable def aA(prog:Qi)(w:Qj):PySem.KeyKind prog w aw where
 is:=lg
 hash:=Jt w
 inj:=λv a b ha hb=>by
  rcases aZ ha with⟨i,t,rfl,rfl⟩|⟨x,t,rfl,rfl⟩
  ·rcases aZ hb with⟨j,u,rfl,e⟩|⟨y,u,rfl,e⟩
   ·injection e with e1 _;rw[e1]
   ·exact nomatch e
  ·rcases aZ hb with⟨j,u,rfl,e⟩|⟨y,u,rfl,e⟩
   ·exact nomatch e
   ·injection e with e1 _;rw[e1]
 byValue:=λk v h=>by
  rcases aZ h with⟨i,t,rfl,rfl⟩|⟨x,t,rfl,rfl⟩<;>rfl
 pyHash:=λhv h=>by
  rcases aZ hv with⟨i,t,rfl,rfl⟩|⟨x,t,rfl,rfl⟩
  ·exact wpAny_pyHash_int h
  ·exact wpAny_pyHash_str h
 eqBool:=λhu hv h=>by
  rcases aZ hu with⟨i,t,rfl,rfl⟩|⟨x,t,rfl,rfl⟩
  ·rcases aZ hv with⟨j,u,rfl,rfl⟩|⟨y,u,rfl,rfl⟩
   ·rw[Cm] at h;exact wpAny_eqBool_int h
   ·rw[Co] at h;exact SeqAt.EqAt.int_str i t y u _ _ _ _ h
  ·rcases aZ hv with⟨j,u,rfl,rfl⟩|⟨y,u,rfl,rfl⟩
   ·rw[Cp] at h;exact SeqAt.EqAt.str_int x t j u _ _ _ _ h
   ·rw[Cn] at h;exact wpAny_eqBool_str h
 «strs»:=λk x t v h=>by
  rcases aZ h with⟨i,u,rfl,e⟩|⟨y,u,rfl,e⟩
  ·exact nomatch e
  ·injection e with e1 _;subst e1
   cases v<;>rfl
theorem nI(prog:Qi)(w:Qj)(i:Int)(t:Tok):(aA prog w).is (.inl i) (.int i t)=P8:=uk i t
theorem nJ(prog:Qi)(w:Qj)(x:Str)(t:Tok):(aA prog w).is (.inr x) (.str x t)=P8:=ul x t
end L2
namespace L2
open PySem PySem.Spec PyProof.Rows
inductive V where
 |non|bl (b:Bool)|int (i:Int)|str (x:Str)|byt (b:Array UInt8)|flt (b:UInt64)|ref (a:Qc)|ty (n:String)
 deriving DecidableEq
noncomputable def RelV:V->Qa->Prop
 |.non,u=>u=Value.none
 |.bl b,u=>u=Value.bool b
 |.int i,u=>∃t,u=Value.int i t
 |.str x,u=>∃t,u=Value.str x t
 |.byt b,u=>∃t,u=Value.bytes b t
 |.flt b,u=>∃t,u=Value.float b t
 |.ref a,u=>u=Value.ref a
 |.ty n,u=>u=Value.type n
noncomputable abbrev Vals:List V->List Qa->Prop:=Paired RelV
theorem Vals.length{xs:List V}{us:List Qa}(r:Vals xs us):xs.length=us.length:=Paired.length r
theorem Vals.get:∀{xs:List V} {us:List Qa} {i:Nat} {x:V},Vals xs us->xs[i]?=P6 x->∃u,us[i]?=P6 u/\RelV x u
 |_,_,_,_,.nil,e=>by simp at e
 |_,_,0,_,.cons r _,e=>by simp at e;subst e;exact⟨_,rfl,r⟩
 |_,_,i+1,x,.cons _ t,e=>by
  obtain⟨u,h1,h2⟩:=Vals.get (i:=i) (x:=x) t (by simpa using e);exact⟨u,by simpa using h1,h2⟩
theorem Vals.set(r:RelV x u):∀{xs:List V} {us:List Qa} (i:Nat),Vals xs us->Vals (xs.set i x) (us.set i u)
 |_,_,_,.nil=>.nil
 |_,_,0,.cons _ t=>.cons r t
 |_,_,i+1,.cons q t=>.cons q (Vals.set r i t)
theorem Vals.append:∀{xs ys:List V} {us ws:List Qa},Vals xs us->Vals ys ws->Vals (xs++ys) (us++ws)
 |_,_,_,_,.nil,s=>s
 |_,_,_,_,.cons r t,s=>.cons r (Vals.append t s)
theorem Vals.take:∀{xs:List V} {us:List Qa} (n:Nat),Vals xs us->Vals (xs.take n) (us.take n)
 |_,_,0,_=>.nil
 |_,_,_+1,.nil=>.nil
 |_,_,n+1,.cons r t=>.cons r (Vals.take n t)
theorem Vals.drop:∀{xs:List V} {us:List Qa} (n:Nat),Vals xs us->Vals (xs.drop n) (us.drop n)
 |_,_,0,r=>r
 |_,_,_+1,.nil=>.nil
 |_,_,n+1,.cons _ t=>Vals.drop n t
theorem Vals.none_of:∀{xs:List V} {us:List Qa} {i:Nat},Vals xs us->xs[i]?=P7->us[i]?=P7:=λ{xs us i} r e=>by
 have h1:=r.length;have h2:xs.length<=i:=NV.mp e;exact NV.mpr (by lia)
noncomputable def RelO:Option V->Option Qa->Prop
 |some v,P6 u=>RelV v u
 |none,P7=>True
 |_,_=>False
noncomputable def KV{κ:Type}:List (κ×V)->List (κ×Qa)->Prop:=Paired λ(p:κ×V) (q:κ×Qa)=>p.1=q.1/\RelV p.2 q.2
noncomputable def kV:aw->V
 |.inl i=>.int i
 |.inr x=>.str x
inductive HO where
 |lst (xs:List V)
 |tup (xs:List V)
 |dK (kvs:List (aw×V))|dT (m ep:Nat) (kvs:List (List (aw ⊕ List aw)×V))
 |set (S:Int->Bool) (n:Nat)
 |ins (C dx:Qc) (fs:List (Str×V))
 |own (x:Qc)
 |xd (fs:List (Str×V))
 |met (f x:Qc)
 |rng (lo hi:Int)
 |frz (o:Obj) (u:HO)
 |tbl (ps:Array Qa)
 |ext (B:Qn->Prop)
noncomputable abbrev Hp:=Qc->Option HO
noncomputable def upd(H:Hp)(a:Qc)(o:HO):Hp:=λb=>if b=a then P6 o else H b
theorem ai:upd H a o a=P6 o:=by unfold upd;rw[if_pos rfl]
theorem ad{H:Hp}(h:b≠a):upd H a o b=H b:=by unfold upd;rw[if_neg h]
theorem Bh{H:Hp}{a b:Qc}{o u:HO}(h:H a=P6 o)(h':H b=P6 u)(d:o≠u):a≠b:=by
 intro e;subst e;rw[h] at h';exact d (Option.some.inj h')
theorem aB{H:Hp}{a b:Qc}{o:HO}(h:H a=P6 o)(h':H b=P7):a≠b:=by
 intro e;subst e;rw[h] at h';cases h'
noncomputable def TkIts(H:Hp):Nat->List (aw ⊕ List aw)->List V->Prop
 |_,[],vs=>vs=[]
 |m,.inl k::xs,vs=>∃r,vs=kV k::r/\m%2=0/\TkIts H (m / 2) xs r
 |m,.inr ks::xs,vs=>∃b r,vs=.ref b::r/\m%2=1/\H b=P6 (.tup (ks.map kV))/\TkIts H (m / 2) xs r
noncomputable def TkAt(H:Hp)(m:Nat)(ks:List (aw ⊕ List aw))(b:Qc):Prop:=∃vs,H b=P6 (.tup vs)/\TkIts H m ks vs
theorem TkIts.keep{H H':Hp}(ht:∀b xs,H b=P6 (.tup xs)->H' b=P6 (.tup xs)):∀{m:Nat} {ks:List (aw ⊕ List aw)} {vs:List V},TkIts H m ks vs->TkIts H' m ks vs
 |_,[],_,h=>h
 |m,.inl k::xs,vs,h=>by obtain⟨r,e,z,t⟩:=h;exact⟨r,e,z,t.keep ht⟩
 |m,.inr ks::xs,vs,h=>by obtain⟨b,r,e,z,g,t⟩:=h;exact⟨b,r,e,z,ht _ _ g,t.keep ht⟩
theorem TkAt.keep{H H':Hp}{m:Nat}{b:Qc}(x:TkAt H m ks b)(ht:∀b xs,H b=P6 (.tup xs)->H' b=P6 (.tup xs)):TkAt H' m ks b:=by
 obtain⟨vs,g,r⟩:=x;exact⟨vs,ht _ _ g,r.keep ht⟩
section
variable (P:Qi) (w:Qj)
noncomputable def ObjOk(H:Hp)(h:Qn)(a:Qc):HO->Prop
 |.lst xs=>xs.length<=sizeLine/\∃(its:List Qa) (n:Nat),Vals xs its/\h.get? a=P6 { cls:=.type "list",data:=.seq its.toArray n }
 |.tup xs=>xs.length<=sizeLine/\∃its:List Qa,Vals xs its/\IsTup h a its.toArray
 |.dK kvs=>kvs.length<=sizeLine/\(a==sysModules)=Qb/\∃vs,KV kvs vs/\h.DictOf (aA P w) a vs
 |.dT m ep kvs=>kvs.length<=sizeLine/\(a==sysModules)=Qb/\∃xs:List (List (aw ⊕ List aw)×Qc×Qa),
   Paired (λ(p:List (aw ⊕ List aw)×V) (q:List (aw ⊕ List aw)×Qc×Qa)=>p.1=q.1/\TkAt H m p.1 q.2.1/\RelV p.2 q.2.2) kvs xs/\
   ∃o es,h.get? a=P6 o/\o.ExactDict/\o.data=.dict es ep/\es.toList=xs.map (entryOfKey (cZ m (aA P w)))/\(xs.map (·.1)).Nodup
 |.set S n=>h.SetOf (intKind P w) a S n
 |.ins C dx fs=>H dx=P6 (.own a)/\fs.length<=1000/\dx≠a/\h.get? a=P6 (NF C dx)/\
   ∃mA,h.Ns1 dx mA/\(∀f,RelO (fs.lookup f) (mA f))/\PySem.Within mA (fs.map (·.1))
 |.own _=>∃o,h.get? a=P6 o
 |.xd fs=>∃mA,h.Ns1 a mA/\∀f,RelO (fs.lookup f) (mA f)
 |.rng lo hi=>∃t u v,h.get? a=P6 { cls:=.type "range",data:=.fields #[.int lo t,.int hi u,.int 1 v] }
 |.frz o u=>h.get? a=P6 o/\ObjOk H h a u
 |.tbl ps=>h.get? a=P6 { cls:=.none,data:=.fields ps }
 |.met f x=>h.get? a=P6 (OM (.ref f) (.ref x))
 |.ext B=>B h/\(∃o,h.get? a=P6 o)/\∀h1 h2:Qn,B h1->(∀o,h1.get? a=P6 o->h2.get? a=P6 o)->B h2
noncomputable def HOk(H:Hp)(h:Qn):Prop:=∀a o,H a=P6 o->ObjOk P w H h a o
end
section
variable {P:Qi} {w:Qj} {H H':Hp} {h h':Qn} {a:Qc} {o:HO}
theorem ObjOk.lt(x:ObjOk P w H h a o):a<h.objs.size:=by
 cases o with
 |lst xs=>obtain⟨_,_,_,_,e⟩:=x;exact MD e
 |tup xs=>obtain⟨_,_,_,p⟩:=x;exact p.lt
 |dK kvs=>obtain⟨_,_,_,_,o,_,_,e,_⟩:=x;exact MD e
 |dT m ep kvs=>obtain⟨_,_,_,_,o,_,e,_⟩:=x;exact MD e
 |set S n=>obtain⟨o,_,_,_,e,_⟩:=x;exact MD e
 |ins C dx fs=>obtain⟨_,_,_,e,_⟩:=x;exact MD e
 |own y=>obtain⟨_,e⟩:=x;exact MD e
 |xd fs=>obtain⟨_,⟨_,_,_,e,_⟩,_⟩:=x;exact MD e
 |rng lo hi=>obtain⟨_,_,_,e⟩:=x;exact MD e
 |frz ob u=>obtain⟨e,_⟩:=x;exact MD e
 |tbl ps=>exact MD (show h.get? a=P6 _ from x)
 |met f y=>exact MD (show h.get? a=P6 _ from x)
 |ext B=>obtain⟨_,⟨_,e⟩,_⟩:=x;exact MD e
theorem Paired.mapP{α β:Type}{F G:α->β->Prop}:∀{l₁:List α} {l₂:List β},Paired F l₁ l₂->(∀a b,F a b->G a b)->Paired G l₁ l₂
 |_,_,.nil,_=>.nil
 |_,_,.cons r t,f=>.cons (f _ _ r) (Paired.mapP t f)
theorem ObjOk.stay(x:ObjOk P w H h a o)(k:∀b u,(b=a\/H b=P6 (.own a))->h.get? b=P6 u->h'.get? b=P6 u)
  (ho:∀b,H b=P6 (.own a)->H' b=P6 (.own a)) (ht:∀b xs,H b=P6 (.tup xs)->H' b=P6 (.tup xs)):ObjOk P w H' h' a o:=by
 induction o with
 |lst xs=>obtain⟨z,its,n,r,e⟩:=x;exact⟨z,its,n,r,k _ _ (.inl rfl) e⟩
 |tup xs=>obtain⟨z,its,r,ob,e,c⟩:=x;exact⟨z,its,r,ob,k _ _ (.inl rfl) e,c⟩
 |dK kvs=>obtain⟨z,y,vs,r,ob,es,ep,e,c⟩:=x;exact⟨z,y,vs,r,ob,es,ep,k _ _ (.inl rfl) e,c⟩
 |dT m ep kvs=>
  obtain⟨z,y,xs,r,ob,es,e,c⟩:=x;exact⟨z,y,xs,Paired.mapP r λp q z=>⟨z.1,z.2.1.keep ht,z.2.2⟩,ob,es,k _ _ (.inl rfl) e,c⟩
 |set S n=>obtain⟨ob,es,ep,t,e,c⟩:=x;exact⟨ob,es,ep,t,k _ _ (.inl rfl) e,c⟩
 |ins C dx fs=>
  obtain⟨d,z,ne,e,mA,⟨od,es,ep,e2,c⟩,r⟩:=x;exact⟨ho _ d,z,ne,k _ _ (.inl rfl) e,mA,⟨od,es,ep,k _ _ (.inr d) e2,c⟩,r⟩
 |own y=>obtain⟨ob,e⟩:=x;exact⟨ob,k _ _ (.inl rfl) e⟩
 |xd fs=>obtain⟨mA,⟨od,es,ep,e,c⟩,r⟩:=x;exact⟨mA,⟨od,es,ep,k _ _ (.inl rfl) e,c⟩,r⟩
 |rng lo hi=>obtain⟨t,u,v,e⟩:=x;exact⟨t,u,v,k _ _ (.inl rfl) e⟩
 |frz ob u ih=>obtain⟨e,q⟩:=x;exact⟨k _ _ (.inl rfl) e,ih q⟩
 |tbl ps=>
  have e:h.get? a=P6 { cls:=.none,data:=.fields ps }:=x;show h'.get? a=P6 { cls:=.none,data:=.fields ps };exact k a _ (.inl rfl) e
 |met f y=>
  have e:h.get? a=P6 (OM (.ref f) (.ref y)):=x;show h'.get? a=P6 (OM (.ref f) (.ref y));exact k a _ (.inl rfl) e
 |ext B=>obtain⟨p,⟨o,e⟩,st⟩:=x;exact⟨st _ _ p λo q=>k _ _ (.inl rfl) q,⟨o,k _ _ (.inl rfl) e⟩,st⟩
theorem HOk.lt(x:HOk P w H h)(e:H a=P6 o):a<h.objs.size:=(x a o e).lt
theorem HOk.fresh(x:HOk P w H h)(e:h.objs.size<=a):H a=P7:=by
 cases q:H a with
 |none=>rfl
 |some u=>exact absurd (MG (x.lt q) e) (Ng _)
theorem HOk.kept(x:HOk P w H h)(k:∀b u,h.get? b=P6 u->h'.get? b=P6 u):HOk P w H h':=λa o e=>
 (x a o e).stay (λb u _ q=>k b u q) (λ_ q=>q) λ_ _ q=>q
theorem HOk.laid(x:HOk P w H h)(k:∀b u,h.get? b=P6 u->h'.get? b=P6 u)(hp:h.objs.size<=a)(new:ObjOk P w (upd H a o) h' a o):HOk P w (upd H a o) h':=λb u e=>by
 have hn:=x.fresh hp;by_cases hb:b=a
 ·subst hb;rw[ai] at e;cases e;exact new
 ·rw[ad hb] at e;exact(x b u e).stay (λc v _ q=>k c v q) (λc q=>by rw[ad (aB q hn)];exact q) λc xs q=>by rw[ad (aB q hn)];exact q
end
noncomputable def Rd(H:Hp)(a:Qc)(u:HO):Prop:=H a=P6 u\/∃o,H a=P6 (.frz o u)
theorem Rd.ok(r:Rd H a u)(x:HOk P w H h):ObjOk P w H h a u:=by
 rcases r with r|⟨o,r⟩
 ·exact x a u r
 ·obtain⟨_,q⟩:=x a _ r;exact q
noncomputable def FS:Option HO->Prop
 |some (.lst _)=>True
 |some (.dK _)=>True
 |some (.dT _ _ _)=>True
 |some (.set _ _)=>True
 |some (.ins _ _ _)=>True
 |some (.ext _)=>True
 |_=>False
section
variable {P:Qi} {w:Qj} {H:Hp} {h h':Qn} {x e:Qc} {o':HO}
theorem HOk.write(ok:HOk P w H h)(mu:FS (H x))(he:e=x\/H e=P6 (.own x))(k:∀b u,b≠e->h.get? b=P6 u->h'.get? b=P6 u)(heo:∃u,h'.get? e=P6 u)
  (new:ObjOk P w (upd H x o') h' x o'):HOk P w (upd H x o') h':=λb u q=>by
 have nown:∀c y,H c=P6 (.own y)->c≠x:=λc y r z=>by subst z;rw[r] at mu;exact mu
 have ntup:∀c xs,H c=P6 (.tup xs)->c≠x:=λc xs r z=>by subst z;rw[r] at mu;exact mu
 by_cases hb:b=x
 ·subst hb;rw[ai] at q;cases q;exact new
 ·rw[ad hb] at q;by_cases hbe:b=e
  ·have q':H b=P6 (.own x):=by
    rcases he with z|z
    ·exact absurd (hbe.trans z) hb
    ·rw[hbe];exact z
   rw[q] at q';cases q';obtain⟨v,hv⟩:=heo;exact⟨v,by rw[hbe];exact hv⟩
  ·refine(ok b u q).stay (λc v hc r=>k c v ?_ r) (λc r=>by rw[ad (nown c b r)];exact r) λc xs r=>by rw[ad (ntup c xs r)];exact r
   rcases hc with rfl|hc
   ·exact hbe
   ·rintro rfl
    rcases he with z|z
    ·exact nown c b hc z
    ·rw[hc] at z;cases z;exact hb rfl
end
structure Un(fs ex:List Addr)(H H':Hp)(h h':Heap):Prop where
 keep:∀b o,h.get? b=P6 o->H b=P7->b∉fs->b∉ex->h'.get? b=P6 o
 slot:∀b o,h.get? b=P6 o->H b=P7->b∈fs->b∉ex->∃sl,h'.get? b=P6 { o with slots:=sl }
 free:∀b o,h.get? b=P6 o->H b=P7->b∉ex->H' b=P7
 there:∀b o,h.get? b=P6 o->b∉ex->∃o',h'.get? b=P6 o'
 tups:∀b xs,H b=P6 (.tup xs)->H' b=P6 (.tup xs)
 frzs:∀b o u,H b=P6 (.frz o u)->H' b=P6 (.frz o u)
 tbls:∀b ps,H b=P6 (.tbl ps)->∃more,H' b=P6 (.tbl (ps++more))
section
variable {fs fs' ex ex':List Qc} {H H1 H2:Hp} {h h1 h2 h':Qn} {a x e:Qc} {o:HO}
theorem Un.any(u:Un fs ex H H1 h h1){b:Qc}{ob:Obj}(q:h.get? b=P6 ob)(n:H b=P7)(hx:b∉ex):∃sl,h1.get? b=P6 { ob with slots:=sl }:=by
 by_cases hb:b∈fs
 ·exact u.slot b ob q n hb hx
 ·exact⟨ob.slots,u.keep b ob q n hb hx⟩
theorem Un.kept(k:∀b u,h.get? b=P6 u->h'.get? b=P6 u):Un fs ex H H h h':=
 ⟨λb ob q _ _ _=>k b ob q,λb ob q _ _ _=>⟨ob.slots,k b ob q⟩,λ_ _ _ n _=>n,λb ob q _=>⟨ob,k b ob q⟩,λ_ _ q=>q,λ_ _ _ q=>q,λ_ ps q=>⟨#[],by rw[q];simp⟩⟩
theorem Un.refl:Un fs ex H H h h:=Un.kept λ_ _ q=>q
theorem Un.laid(k:∀b u,h.get? b=P6 u->h'.get? b=P6 u)(hp:h.objs.size<=a)(hn:H a=P7):Un fs ex H (upd H a o) h h' where
 keep:=λb u q _ _ _=>k b u q
 slot:=λb u q _ _ _=>⟨u.slots,k b u q⟩
 free:=λb u q n _=>by rw[ad (MM (MG (MD q) hp))];exact n
 there:=λb u q _=>⟨u,k b u q⟩
 tups:=λb xs q=>by rw[ad (aB q hn)];exact q
 frzs:=λb u xs q=>by rw[ad (aB q hn)];exact q
 tbls:=λb ps q=>⟨#[],by rw[ad (aB q hn),q];simp⟩
theorem Un.write(mu:FS (H x))(he:e=x\/H e=P6 (.own x))(k:∀b u,b≠e->h.get? b=P6 u->h'.get? b=P6 u)(heo:∃u,h'.get? e=P6 u):Un fs ex H (upd H x o) h h':=by
 have hx:∀b,H b=P7->b≠x:=λb n z=>by subst z;rw[n] at mu;exact mu
 have hb:∀b,H b=P7->b≠e:=λb n z=>by
  subst z;rcases he with r|r
  ·exact hx b n r
  ·rw[n] at r;cases r
 have hm:∀b u,H b=P6 u->¬FS (P6 u)->b≠x:=λb u q nm z=>by subst z;rw[q] at mu;exact nm mu
 refine⟨λb u q n _ _=>k b u (hb b n) q,λb u q n _ _=>⟨u.slots,k b u (hb b n) q⟩,λb u q n _=>by rw[ad (hx b n)];exact n,λb u q _=>?_,
  λb xs q=>by rw[ad (hm b _ q λz=>z)];exact q,λb u xs q=>by rw[ad (hm b _ q λz=>z)];exact q,λb ps q=>⟨#[],by rw[ad (hm b _ q λz=>z),q];simp⟩⟩
 by_cases hbe:b=e
 ·subst hbe;exact heo
 ·exact⟨u,k b u hbe q⟩
end
noncomputable def IP(h:Qn)(H:Hp):List Qc:=(Np h.objs.size).filter λa=>(H a).isSome
noncomputable def l4(h:Qn)(H:Hp):Qn:=PySem.W.hideAll h (IP h H)
theorem um(h:Qn)(H:Hp):(l4 h H).objs.size=h.objs.size:=PySem.W.hideAll_size _ _
theorem vA{h:Qn}{H:Hp}(e:h.get? b=P6 o)(n:H b=P7):(l4 h H).get? b=P6 o:=
 PySem.W.hideAll_get _ e λhm=>by
  have q:(H b).isSome=P8:=(O6.mp hm).2;rw[n] at q;simp at q
theorem yO{h:Qn}{H:Hp}(e:(l4 h H).get? b=P6 o):h.get? b=P6 o/\H b=P7:=by
 have e':h.get? b=P6 o:=PySem.W.of_hideAll (IP h H) e;refine⟨e',?_⟩
 cases q:H b with
 |none=>rfl
 |some x=>
  have hm:b∈IP h H:=O6.mpr ⟨Oy.mpr (MD e'),by simp[q]⟩;have z:(l4 h H).get? b=P7:=PySem.W.hideAll_none (IP h H) hm;rw[z] at e;cases e
end L2
namespace L2
open PySem PySem.Spec PyProof.Rows
structure Mod(K:Mz)(mg:Str->Option Value)(base:Heap):Prop where
 kin:K.In base
 glob:base.Ns Qp mg
 blt:∃mb,base.Ns builtinsNs mb/\∀x:Str,x≠"__name__"->mb x=bootBuiltins x
 nolimit:base.NoLimit
structure Cx where
 prog:Qi
 w:Qj
 K:Mz
 mg:Str->Option Qa
 base:Qn
 A:Qk
 N:List Str
 s₀:Qd
 H₀:Hp
 env:Env
 outer:List Env
 stack:List Env
 ex:List Qc
 fn:Str->Bool
 calm:Bool
 pn:List (Qc×Obj)
 xe:Qa->Qd->Prop
noncomputable def vq(l:List Env):List Qc:=l.filterMap (·.frame)
noncomputable abbrev Cx.fs(X:Cx):List Qc:=vq X.outer
noncomputable def IQ(sc:Qo)(x:Str):Prop:=sc.names.lookup x=P6 .local\/sc.names.lookup x=P6 .cell\/sc.names.lookup x=P6 .free
noncomputable def Cq(sc:Qo)(x:Str):Prop:=sc.names.lookup x=P6 .local\/sc.names.lookup x=P6 .cell
noncomputable def Ju(env:Env)(h:Qn)(m:Str->Option Qa)(x:Str)(u:Qa):Prop:=
 (env.kindOf x=P6 .local/\m x=P6 u)\/((env.kindOf x=P6 .cell\/env.kindOf x=P6 .free)/\∃c,env.cells.lookup x=P6 c/\h.IsCell c (P6 u))
structure Cx.Ok(X:Cx):Prop where
 mod:Mod X.K X.mg X.base
 kind:X.env.scope.kind=.function
 glob:X.env.globals=Qp
 blt:X.env.builtins=builtinsNs
 above:X.s₀.heap.objs.size<=X.env.locals
 inj:∀x y c,X.env.cells.lookup x=P6 c->X.env.cells.lookup y=P6 c->x=y
 has:∀x,(X.env.kindOf x=P6 .cell\/X.env.kindOf x=P6 .free)->∃c,X.env.cells.lookup x=P6 c
 cab:∀x c,X.fn x=P8->X.env.cells.lookup x=P6 c->X.s₀.heap.objs.size<=c
 hd:X.calm=P8->X.A.handled=P7
 frames:X.A.frames=P6 X.stack
 stk:X.stack=X.outer\/(X.stack=X.env::X.outer/\X.env.frame=P6 X.env.locals)
 exf:∀b∈X.ex,b≠X.env.locals/\∀x c,X.env.cells.lookup x=P6 c->c≠b
 bs:∀b o,X.base.get? b=P6 o->X.s₀.heap.get? b=P6 o/\X.H₀ b=P7
 bsz:X.base.objs.size<=X.s₀.heap.objs.size
 noex:∀b o,X.base.get? b=P6 o->b∉X.ex
 exfs:∀b∈X.ex,b∉X.fs
 funs:X.s₀.heap.FunFrames X.base X.outer
 frf:∀b∈X.fs,X.H₀ b=P7
structure Inv(X:Cx)(pins:List (Addr×Obj))(Y:List (Option V))(H:Hp)(s:Shared):Prop where
 ok:X.Ok
 os:s.os=X.s₀.os
 bare:AllBare s.gens
 base:Un X.fs X.ex X.H₀ H X.s₀.heap s.heap
 loc:∃m,s.heap.Ns X.env.locals m/\∀(i:Nat) (x:Str) (v:V),X.N[i]?=P6 x->Y[i]?=P6 (P6 v)->IQ X.env.scope x->∃u,RelV v u/\Ju X.env s.heap m x u
 cell:∀x c,X.env.cells.lookup x=P6 c->∃v,s.heap.IsCell c v
 free:H X.env.locals=P7
 freeC:∀x c,X.env.cells.lookup x=P6 c->H c=P7
 pin:∀p∈X.pn++pins,s.heap.get? p.1=P6 p.2/\H p.1=P7/\p.1≠X.env.locals/\p.1∉X.fs/\∀v,p.2.data≠.cell v
 hok:HOk X.prog X.w H s.heap
 len:Y.length=X.N.length
section
variable {X:Cx} {pins:List (Qc×Obj)} {Y:List (Option V)} {H H':Hp} {s:Qd} {h':Qn}
theorem Cx.Ok.nofr(ok:X.Ok){b:Qc}{o:Obj}(e:X.base.get? b=P6 o):b∉X.fs:=λhb=>by
 have:=(ok.funs.mem hb).1;rw[e] at this;cases this
theorem Inv.bs(I:Inv X pins Y H s):∀b o,X.base.get? b=P6 o->s.heap.get? b=P6 o/\H b=P7:=λb o e=>
 ⟨I.base.keep b o (I.ok.bs b o e).1 (I.ok.bs b o e).2 (I.ok.nofr e) (I.ok.noex b o e),I.base.free b o (I.ok.bs b o e).1 (I.ok.bs b o e).2 (I.ok.noex b o e)⟩
theorem Inv.bk(I:Inv X pins Y H s):∀b o,X.base.get? b=P6 o->s.heap.get? b=P6 o:=λb o e=>(I.bs b o e).1
theorem Inv.mod(I:Inv X pins Y H s):Mod X.K X.mg X.base:=I.ok.mod
theorem Inv.kIn(I:Inv X pins Y H s):X.K.In s.heap:=I.ok.mod.kin.keeps I.bk
theorem Inv.lt(I:Inv X pins Y H s):X.env.locals<s.heap.objs.size:=let ⟨_,hn,_⟩:=I.loc;hn.lt
theorem Inv.sz(I:Inv X pins Y H s):X.s₀.heap.objs.size<=s.heap.objs.size:=M0 I.ok.above (Of I.lt)
theorem Inv.nofs(I:Inv X pins Y H s){a:Qc}(h:s.heap.objs.size<=a):a∉X.fs:=λhb=>by
 obtain⟨_,o,ho,_⟩:=I.ok.funs.mem hb;exact absurd (MG (MD ho) (M0 I.sz h)) (Ng _)
theorem Inv.cne(I:Inv X pins Y H s):∀x c,X.env.cells.lookup x=P6 c->c≠X.env.locals:=λx c e z=>by
 obtain⟨v,o,ho,hd⟩:=I.cell x c e;obtain⟨m,⟨o',es,ep,ho',hd',_⟩,_⟩:=I.loc;rw[z,ho'] at ho;cases ho;rw[hd'] at hd;cases hd
theorem Inv.funs(I:Inv X pins Y H s):s.heap.FunFrames X.base X.outer:=by
 have all:∀(l:List Env),(∀b∈vq l,b∈X.fs)->X.s₀.heap.FunFrames X.base l->s.heap.FunFrames X.base l:=by
  intro l
  induction l with
  |nil=>intro _ _;trivial
  |cons env r ih=>
   intro hs hl;obtain⟨hk,⟨L,o,hf,hn,ho,hd⟩,hr⟩:=hl;have hL:L∈X.fs:=hs L (by unfold vq;rw[NX,hf];exact M1);obtain⟨sl,e⟩:=I.base.slot L o ho (I.ok.frf L hL) hL λz=>I.ok.exfs L z hL;exact⟨hk,⟨L,_,hf,hn,e,hd⟩,ih (λb hb=>hs b (by unfold vq;rw[NX,hf];exact MS _ hb)) hr⟩
 exact all X.outer (λ_ hb=>hb) I.ok.funs
theorem Inv.stack(I:Inv X pins Y H s):s.heap.FunFrames X.base X.stack:=by
 rcases I.ok.stk with e|⟨e,hf⟩
 ·rw[e];exact I.funs
 ·rw[e];obtain⟨m,hn,_⟩:=I.loc;refine .cons (by rw[I.ok.kind];decide) hf hn ?_ I.funs;exact Heap.get?_none_of_le (M0 I.ok.bsz I.ok.above)
theorem Inv.stkSub(I:Inv X pins Y H s):∀b∈vq X.stack,b∈X.env.locals::X.fs:=λb hb=>by
 rcases I.ok.stk with e|⟨e,hf⟩
 ·rw[e] at hb;exact MS _ hb
 ·rw[e] at hb;unfold vq at hb;rw[NX,hf] at hb;exact hb
theorem Inv.stkFree(I:Inv X pins Y H s):∀b∈vq X.stack,H b=P7:=λb hb=>by
 rcases ML.mp (I.stkSub b hb) with e|hb
 ·rw[e];exact I.free
 ·obtain⟨_,o,ho,_⟩:=I.ok.funs.mem hb;exact I.base.free b o ho (I.ok.frf b hb) λz=>I.ok.exfs b z hb
theorem Inv.step{t':Nat}{ch:List Qc}(I:Inv X pins Y H s)(hch:∀b∈ch,(b∈X.ex\/X.s₀.heap.objs.size<=b)/\b≠X.env.locals/\(∀x c,X.env.cells.lookup x=P6 c->c≠b)/\∀p∈X.pn++pins,p.1≠b)(keep:∀b o,b≠X.env.locals->b∉X.fs->b∉ch->s.heap.get? b=P6 o->H b=P7->h'.get? b=P6 o)(slot:∀b o,b≠X.env.locals->b∈X.fs->b∉ch->s.heap.get? b=P6 o->H b=P7->∃sl,h'.get? b=P6 { o with slots:=sl })(free:∀b o,b∉ch->s.heap.get? b=P6 o->H b=P7->H' b=P7)(there:∀b o,b∉ch->s.heap.get? b=P6 o->∃o',h'.get? b=P6 o')(tups:∀b xs,H b=P6 (.tup xs)->H' b=P6 (.tup xs))(frzs:∀b o u,H b=P6 (.frz o u)->H' b=P6 (.frz o u))(tbls:∀b ps,H b=P6 (.tbl ps)->∃more,H' b=P6 (.tbl (ps++more)))(ns:∀m,s.heap.Ns X.env.locals m->h'.Ns X.env.locals m)(hok:HOk X.prog X.w H' h')(hg:AllBare g') :
  Inv X pins Y H' { s with heap:=h',gens:=g',drawn:=d',toks:=t' }:=by
 have neL:∀b o,X.s₀.heap.get? b=P6 o->b≠X.env.locals:=λb o e=>MM (MG (MD e) I.ok.above)
 have neC:∀b o,X.s₀.heap.get? b=P6 o->b∉X.ex->b∉ch:=λb o e hx hb=>by
  rcases(hch b hb).1 with z|z
  ·exact hx z
  ·exact absurd (MG (MD e) z) (Ng _)
 have cellK:∀x c,X.env.cells.lookup x=P6 c->∀v,s.heap.IsCell c v->h'.IsCell c v:=λx c e v ⟨o,ho,hd⟩=>by
  have nch:c∉ch:=λz=>(hch c z).2.2.1 x c e rfl;by_cases hc:c∈X.fs
  ·obtain⟨sl,q⟩:=slot c o (I.cne x c e) hc nch ho (I.freeC x c e);exact⟨_,q,hd⟩
  ·exact⟨o,keep c o (I.cne x c e) hc nch ho (I.freeC x c e),hd⟩
 refine⟨I.ok,I.os,hg,⟨λb o e n hb hx=>?_,λb o e n hb hx=>?_,λb o e n hx=>?_,λb o e hx=>?_,λb xs e=>tups b xs (I.base.tups b xs e),λb o xs e=>frzs b o xs (I.base.frzs b o xs e),λb ps e=>?_⟩,?_,λx c e=>?_,?_,λx c e=>?_,λp hp=>?_,hok,I.len⟩
 ·exact keep b o (neL b o e) hb (neC b o e hx) (I.base.keep b o e n hb hx) (I.base.free b o e n hx)
 ·obtain⟨sl,e1⟩:=I.base.slot b o e n hb hx;obtain⟨sl',e2⟩:=slot b _ (neL b o e) hb (neC b o e hx) e1 (I.base.free b o e n hx);exact⟨sl',e2⟩
 ·obtain⟨o',e1⟩:=I.base.there b o e hx;exact free b o' (neC b o e hx) e1 (I.base.free b o e n hx)
 ·obtain⟨o',e1⟩:=I.base.there b o e hx;exact there b o' (neC b o e hx) e1
 ·obtain⟨m1,e1⟩:=I.base.tbls b ps e;obtain⟨m2,e2⟩:=tbls b _ e1;exact⟨m1++m2,by rw[e2,Array.append_assoc]⟩
 ·obtain⟨m,hn,hl⟩:=I.loc;refine⟨m,ns m hn,λi x v e1 e2 e3=>?_⟩;obtain⟨u,r,l⟩:=hl i x v e1 e2 e3;refine⟨u,r,?_⟩;rcases l with l|⟨k,c,e,z⟩
  ·exact .inl l
  ·exact .inr ⟨k,c,e,cellK x c e _ z⟩
 ·obtain⟨v,z⟩:=I.cell x c e;exact⟨v,cellK x c e v z⟩
 ·obtain⟨m,⟨o,_,_,ho,_⟩,_⟩:=I.loc;exact free _ o (λz=>(hch _ z).2.1 rfl) ho I.free
 ·obtain⟨v,o,ho,hd⟩:=I.cell x c e;exact free c o (λz=>(hch c z).2.2.1 x c e rfl) ho (I.freeC x c e)
 ·obtain⟨e,n,ne,nf,d⟩:=I.pin p hp;have nch:p.1∉ch:=λz=>(hch p.1 z).2.2.2 p hp rfl;exact⟨keep p.1 p.2 ne nf nch e n,free p.1 p.2 nch e n,ne,nf,d⟩
theorem Inv.un{t':Nat}(I:Inv X pins Y H s)(u:Un X.fs [] H H' s.heap h')(hok:HOk X.prog X.w H' h'):Inv X pins Y H' { s with heap:=h',toks:=t' }:=by
 obtain⟨m,⟨o,es,ep,ho,r⟩,_⟩:=id I.loc;obtain⟨sl,hL⟩:=u.any ho I.free (by simp)
 exact I.step (g':=s.gens) (d':=s.drawn) (ch:=[]) (λ_ z=>nomatch z) (λb o _ hb _ e n=>u.keep b o e n hb (by simp)) (λb o _ hb _ e n=>u.slot b o e n hb (by simp)) (λb o _ e n=>u.free b o e n (by simp)) (λb o _ e=>u.there b o e (by simp)) u.tups u.frzs u.tbls (λm' hm=>by
  obtain⟨o',es',ep',ho',r'⟩:=hm;rw[ho] at ho';cases ho';exact⟨_,es',ep',hL,r'⟩) hok I.bare
theorem Inv.call{t':Nat}{ch:List Qc}(I:Inv X pins Y H s)(u:Un (vq X.stack) ch H H' s.heap h')(hok:HOk X.prog X.w H' h')(hg:AllBare g')(hch:∀b∈ch,(b∈X.ex\/X.s₀.heap.objs.size<=b)/\b≠X.env.locals/\(∀x c,X.env.cells.lookup x=P6 c->c≠b)/\∀p∈X.pn++pins,p.1≠b) :
  Inv X pins Y H' { s with heap:=h',gens:=g',drawn:=d',toks:=t' }:=by
 obtain⟨m,⟨o,es,ep,ho,r⟩,_⟩:=id I.loc;obtain⟨sl,hL⟩:=u.any ho I.free λz=>(hch _ z).2.1 rfl
 exact I.step (ch:=ch) hch (λb o hL hb hc e n=>u.keep b o e n (λz=>(ML.mp (I.stkSub b z)).elim hL hb) hc) (λb o _ _ hc e n=>u.any e n hc) (λb o hc e n=>u.free b o e n hc) (λb o hc e=>u.there b o e hc) u.tups u.frzs u.tbls (λm' hm=>by
  obtain⟨o',es',ep',ho',r'⟩:=hm;rw[ho] at ho';cases ho';exact⟨_,es',ep',hL,r'⟩) hok hg
theorem Inv.turned{t':Nat}{it:Qc}(I:Inv X pins Y H s)(k:∀b o,b≠it->s.heap.get? b=P6 o->h'.get? b=P6 o)(hn:H it=P7)(hL:it≠X.env.locals)
  (h1:it∈X.ex\/X.s₀.heap.objs.size<=it) (h2:∀x c,X.env.cells.lookup x=P6 c->c≠it) (h3:∀p∈X.pn++pins,p.1≠it):Inv X pins Y H { s with heap:=h',toks:=t' }:=by
 have nit:∀b u,H b=P6 u->b≠it:=λb u e z=>by rw[z,hn] at e;cases e
 refine I.step (g':=s.gens) (d':=s.drawn) (ch:=[it]) (λb hb=>?_) (λb o _ _ hc e _=>k b o (λz=>hc (by simp[z])) e) (λb o _ _ hc e _=>⟨o.slots,k b o (λz=>hc (by simp[z])) e⟩) (λ_ _ _ _ n=>n)
  (λb o hc e=>⟨o,k b o (λz=>hc (by simp[z])) e⟩) (λ_ _ e=>e) (λ_ _ _ e=>e) (λb ps e=>⟨#[],by rw[e];simp⟩) (λm hm=>?_) (λb u e=>?_) I.bare
 ·have e:b=it:=by simpa using hb
  subst e;exact⟨h1,hL,h2,h3⟩
 ·obtain⟨o,es,ep,ho,r⟩:=hm;exact⟨o,es,ep,k _ o (Ne.symm hL) ho,r⟩
 ·refine(I.hok b u e).stay (λc v hc q=>k c v ?_ q) (λ_ q=>q) λ_ _ q=>q;rcases hc with z|z
  ·rw[z];exact nit b u e
  ·exact nit c _ z
theorem Inv.tok(I:Inv X pins Y H s)(t:Nat):Inv X pins Y H { s with toks:=t }:=I.un (h':=s.heap) (t':=t) Un.refl I.hok
theorem Inv.kept{t':Nat}(I:Inv X pins Y H s)(k:∀b u,s.heap.get? b=P6 u->h'.get? b=P6 u):Inv X pins Y H { s with heap:=h',toks:=t' }:=I.un (Un.kept k) (I.hok.kept k)
theorem Inv.laid{t':Nat}(I:Inv X pins Y H s)(k:∀b u,s.heap.get? b=P6 u->h'.get? b=P6 u)(hp:s.heap.objs.size<=a)(new:ObjOk X.prog X.w (upd H a o) h' a o) :
  Inv X pins Y (upd H a o) { s with heap:=h',toks:=t' }:=I.un (Un.laid k hp (I.hok.fresh hp)) (I.hok.laid k hp new)
theorem Inv.write{x e:Qc}{t':Nat}(I:Inv X pins Y H s)(mu:FS (H x))(he:e=x\/H e=P6 (.own x))(k:∀b u,b≠e->s.heap.get? b=P6 u->h'.get? b=P6 u)(heo:∃u,h'.get? e=P6 u)(new:ObjOk X.prog X.w (upd H x o) h' x o):Inv X pins Y (upd H x o) { s with heap:=h',toks:=t' }:=I.un (Un.write mu he k heo) (I.hok.write mu he k heo new)
theorem Inv.pins_of{pins':List (Qc×Obj)}(I:Inv X pins Y H s)(h:∀p∈pins',s.heap.get? p.1=P6 p.2/\H p.1=P7/\p.1≠X.env.locals/\p.1∉X.fs/\∀v,p.2.data≠.cell v):Inv X pins' Y H s:=
 ⟨I.ok,I.os,I.bare,I.base,I.loc,I.cell,I.free,I.freeC,λp hp=>(NR.mp hp).elim (λz=>I.pin p (N8 _ z)) (h p),I.hok,I.len⟩
theorem nK{N:List Str}(hN:N.Nodup){i j:Nat}{x:Str}(a:N[i]?=P6 x)(b:N[j]?=P6 x):i=j:=by
 obtain⟨h1,e1⟩:=MJ.mp a;obtain⟨h2,e2⟩:=MJ.mp b;exact(PU hN).mp (e1.trans e2.symm)
theorem ij{i:Nat}{x:Str}{Q:Unit->Qd->Prop}(I:Inv X pins Y H s)(hN:X.N.Nodup)(hi:X.N[i]?=P6 x)(hx:Cq X.env.scope x)(r:RelV v u)(h:∀s',Inv X pins (Y.set i (P6 v)) H s'->(∃a,Heap.SameBut a s.heap s'.heap/\(a=X.env.locals\/X.env.cells.lookup x=P6 a))->Q () s')(hf:X.fn x=P8\/X.env.scope.names.lookup x=P6 .local:=by first|exact .inl rfl|exact .inr rfl|assumption):Qf M A (storeName X.env x u) Q E s:=by
 obtain⟨m,hn,hl⟩:=id I.loc;have hcls:(X.env.scope.kind==.class||(X.env.scope.kind==.module&&X.env.locals != X.env.globals))=Qb:=by rw[I.ok.kind];rfl
 have hiY:i<Y.length:=by rw[I.len];exact(MJ.mp hi).1
 have cne:=I.cne
 have tracked:∀{a:Qc} {h':Qn},(∃o,s.heap.get? a=P6 o/\H a=P7)->Heap.SameBut a s.heap h'->HOk X.prog X.w H h':=λ{a h'} ha hs b ob e=>by
  obtain⟨_,_,hfree⟩:=ha;refine(I.hok b ob e).stay (λc w' hc q=>(hs.2 c ?_).trans q) (λ_ q=>q) λ_ _ q=>q
  rintro rfl
  rcases hc with rfl|hc
  ·rw[hfree] at e;cases e
  ·rw[hfree] at hc;cases hc
 rcases hx with hk|hk
 ·refine wpAny_storeName_local hk hn (λh' hn' hs=>?_) hcls;obtain⟨oL,_,_,hoL,_⟩:=id hn;refine h _ ⟨I.ok,I.os,I.bare,⟨λb o e n hb hx=>?_,λb o e n hb hx=>?_,I.base.free,λb o e hx=>?_,I.base.tups,I.base.frzs,I.base.tbls⟩,⟨_,hn',λj y v' e1 e2 e3=>?_⟩,λy c e=>?_,I.free,I.freeC,λp hp=>?_,tracked ⟨oL,hoL,I.free⟩ hs,by simpa using I.len⟩ ⟨_,hs,.inl rfl⟩
  ·exact(hs.2 b (MM (MG (MD e) I.ok.above))).trans (I.base.keep b o e n hb hx)
  ·obtain⟨sl,e1⟩:=I.base.slot b o e n hb hx;exact⟨sl,(hs.2 b (MM (MG (MD e) I.ok.above))).trans e1⟩
  ·obtain⟨o',e1⟩:=I.base.there b o e hx;exact⟨o',(hs.2 b (MM (MG (MD e) I.ok.above))).trans e1⟩
  ·by_cases hj:j=i
   ·subst hj;rw[hi] at e1;cases e1;rw[MW hiY] at e2;cases e2;exact⟨u,r,.inl ⟨hk,by simp⟩⟩
   ·rw[MV (Ne.symm hj)] at e2;obtain⟨u',r',q⟩:=hl j y v' e1 e2 e3;refine⟨u',r',?_⟩;rcases q with⟨k,e⟩|⟨k,c,e,z⟩
    ·refine .inl ⟨k,?_⟩;have:y≠x:=λe=>hj (nK hN e1 (e▸hi));simp[this,e]
    ·exact .inr ⟨k,c,e,z.sameBut hs (cne y c e)⟩
  ·obtain⟨w',z⟩:=I.cell y c e;exact⟨w',z.sameBut hs (cne y c e)⟩
  ·obtain⟨e,n,ne,nf,d⟩:=I.pin p hp;exact⟨(hs.2 p.1 ne).trans e,n,ne,nf,d⟩
 ·have hfn:X.fn x=P8:=by
   rcases hf with z|z
   ·exact z
   ·rw[z] at hk;cases hk
  obtain⟨c,hc⟩:=I.ok.has x (.inl hk);obtain⟨w',z⟩:=I.cell x c hc;refine wpAny_storeName_cell I.ok.kind hk hc z (λh' hc' hs=>?_);obtain⟨oc,hoc,hocd⟩:=id z;refine h { s with heap:=h' } ⟨I.ok,I.os,I.bare,⟨λb o e n hb hx=>?_,λb o e n hb hx=>?_,I.base.free,λb o e hx=>?_,I.base.tups,I.base.frzs,I.base.tbls⟩,⟨m,hn.sameBut hs (Ne.symm (cne x c hc)),λj y v' e1 e2 e3=>?_⟩,λy c' e=>?_,I.free,I.freeC,λp hp=>?_,tracked ⟨oc,hoc,I.freeC x c hc⟩ hs,by simpa using I.len⟩ ⟨c,hs,.inr hc⟩
  ·exact(hs.2 b (MM (MG (MD e) (I.ok.cab x c hfn hc)))).trans (I.base.keep b o e n hb hx)
  ·obtain⟨sl,e1⟩:=I.base.slot b o e n hb hx;exact⟨sl,(hs.2 b (MM (MG (MD e) (I.ok.cab x c hfn hc)))).trans e1⟩
  ·obtain⟨o',e1⟩:=I.base.there b o e hx;exact⟨o',(hs.2 b (MM (MG (MD e) (I.ok.cab x c hfn hc)))).trans e1⟩
  ·by_cases hj:j=i
   ·subst hj;rw[hi] at e1;cases e1;rw[MW hiY] at e2;cases e2;exact⟨u,r,.inr ⟨.inl hk,c,hc,hc'⟩⟩
   ·rw[MV (Ne.symm hj)] at e2;obtain⟨u',r',q⟩:=hl j y v' e1 e2 e3;refine⟨u',r',?_⟩;rcases q with q|⟨k,c',e,z'⟩
    ·exact .inl q
    ·refine .inr ⟨k,c',e,z'.sameBut hs ?_⟩
     rintro rfl
     exact hj (nK hN e1 (I.ok.inj _ _ _ e hc▸hi))
  ·by_cases hcc:c'=c
   ·subst hcc;exact⟨_,hc'⟩
   ·obtain⟨w2,z2⟩:=I.cell y c' e;exact⟨w2,z2.sameBut hs hcc⟩
  ·obtain⟨e,n,ne,nf,d⟩:=I.pin p hp;refine⟨(hs.2 p.1 ?_).trans e,n,ne,nf,d⟩;intro q;rw[q,hoc] at e;have q':oc=p.2:=Option.some.inj e;exact d w' (by rw[<- q'];exact hocd)
theorem nM{i:Nat}{x:Str}{Q:Unit->Qd->Prop}(I:Inv X pins Y H s)(hN:X.N.Nodup)(hi:X.N[i]?=P6 x)(hx:Cq X.env.scope x)(r:RelV v u)(h:∀s',Inv X pins (Y.set i (P6 v)) H s'->Q () s')(hf:X.fn x=P8\/X.env.scope.names.lookup x=P6 .local:=by first|exact .inl rfl|exact .inr rfl|assumption):Qf M A (storeName X.env x u) Q E s:=
 ij I hN hi hx r (λs' I' _=>h s' I') hf
theorem Inv.call'{s':Qd}{ch:List Qc}(I:Inv X pins Y H s)(ho:s'.os=s.os)(u:Un (vq X.stack) ch H H' s.heap s'.heap)(hok:HOk X.prog X.w H' s'.heap)(hg:AllBare s'.gens)
  (hch:∀b∈ch,(b∈X.ex\/X.s₀.heap.objs.size<=b)/\b≠X.env.locals/\(∀x c,X.env.cells.lookup x=P6 c->c≠b)/\∀p∈X.pn++pins,p.1≠b):Inv X pins Y H' s':=by
 obtain⟨h',g',d',t',o'⟩:=s';have e:o'=s.os:=ho;subst e;exact I.call (g':=g') (t':=t') (d':=d') u hok hg hch
end
noncomputable abbrev XK:=Qa->Option Qc->Hp->Prop
noncomputable abbrev St:=List (Option V)
noncomputable abbrev VK:=V->Hp->Prop
noncomputable abbrev TE:=St->Hp->VK->Prop
noncomputable abbrev TT:=St->Hp->(Bool->Hp->Prop)->Prop
noncomputable abbrev TA:=St->Hp->(List V->Hp->Prop)->Prop
structure ik where
 nx:St->Hp->Prop
 rt:VK
 bk:St->Hp->Prop:=λ_ _=>False
 ct:St->Hp->Prop:=λ_ _=>False
noncomputable abbrev TS:=ik->St->Hp->Prop
noncomputable def EP(X:Cx)(pins:List (Qc×Obj))(Y:St)(Q:VK)(u:Qa)(s':Qd):Prop:=∃v H',Inv X pins Y H' s'/\RelV v u/\Q v H'
noncomputable def TP(X:Cx)(pins:List (Qc×Obj))(Y:St)(Q:Bool->Hp->Prop)(b:Bool)(s':Qd):Prop:=∃H',Inv X pins Y H' s'/\Q b H'
noncomputable def AP(X:Cx)(pins:List (Qc×Obj))(Y:St)(Q:List V->Hp->Prop)(us:List Qa)(s':Qd):Prop:=∃vs H',Inv X pins Y H' s'/\Vals vs us/\Q vs H'
noncomputable def SP(X:Cx)(pins:List (Qc×Obj))(D:ik)(f:Flow)(s':Qd):Prop:=
 match f with
 |.next=>∃Y' H',Inv X pins Y' H' s'/\D.nx Y' H'
 |.brk=>∃Y' H',Inv X pins Y' H' s'/\D.bk Y' H'
 |.cont=>∃Y' H',Inv X pins Y' H' s'/\D.ct Y' H'
 |.ret u=>∃v Y' H',Inv X pins Y' H' s'/\RelV v u/\D.rt v H'
noncomputable def PE(X:Cx)(e:P9)(t:TE):Prop:=
 ∀(pins:List (Qc×Obj)) (s:Qd) (Y:St) (H:Hp) (Q:VK),Inv X pins Y H s->t Y H Q->Qf (Qg X.prog X.w) X.A (eval e X.env) (EP X pins Y Q) X.xe s
noncomputable def PT(X:Cx)(e:P9)(t:TT):Prop:=
 ∀(pins:List (Qc×Obj)) (s:Qd) (Y:St) (H:Hp) (Q:Bool->Hp->Prop),Inv X pins Y H s->t Y H Q->Qf (Qg X.prog X.w) X.A (isTrue e X.env (eval e X.env)) (TP X pins Y Q) X.xe s
noncomputable def PW(X:Cx)(e:P9)(t:TT):Prop:=
 ∀(whole:Sem Qa) (pins:List (Qc×Obj)) (s:Qd) (Y:St) (H:Hp) (Q:Bool->Hp->Prop),Inv X pins Y H s->t Y H Q->Qf (Qg X.prog X.w) X.A (isTrue e X.env whole) (TP X pins Y Q) X.xe s
noncomputable def PA(X:Cx)(es:List P9)(t:TA):Prop:=
 ∀(pos:Pos) (pins:List (Qc×Obj)) (s:Qd) (Y:St) (H:Hp) (Q:List V->Hp->Prop),Inv X pins Y H s->t Y H Q->Qf (Qg X.prog X.w) X.A (spliced (backTo pos (Qm es X.env))) (AP X pins Y Q) X.xe s
noncomputable def PS(X:Cx)(st:Ql)(t:TS):Prop:=
 ∀(pins:List (Qc×Obj)) (s:Qd) (Y:St) (H:Hp) (D:ik),Inv X pins Y H s->t D Y H->Qf (Qg X.prog X.w) X.A (exec st X.env) (SP X pins D) X.xe s
noncomputable def PSs(X:Cx)(st:List Ql)(t:TS):Prop:=
 ∀(pins:List (Qc×Obj)) (s:Qd) (Y:St) (H:Hp) (D:ik),Inv X pins Y H s->t D Y H->Qf (Qg X.prog X.w) X.A (execs st X.env) (SP X pins D) X.xe s
theorem aV{α:Type}{t:Sem α}{Q Q':α->Qd->Prop}{M:Model}{A:Qk}{E:Qa->Qd->Prop}{s:Qd}(h:Qf M A t Q E s)(hQ:∀a s,Q a s->Q' a s):Qf M A t Q' E s:=wpAny_mono h hQ λ_ _ x=>x
end L2
namespace L2
open PySem PySem.Spec PyProof.Rows
section
variable {X:Cx}
noncomputable def Jv(i:Nat):TE:=λY H Q=>∃v,Y[i]?=P6 (P6 v)/\Q v H
noncomputable def tC(v:V):TE:=λ_ H Q=>Q v H
theorem pT{i:Nat}{x:Str}(hN:X.N[i]?=P6 x)(hv:IQ X.env.scope x)(hd:(x==("__debug__":Str))=Qb:=by decide)(hcd:(x==("__classdict__":Str))=Qb:=by decide):PE X (.Name x pos) (Jv i):=by
 intro pins s Y H Q I h;obtain⟨v,e,h⟩:=h;obtain⟨m,hn,hl⟩:=I.loc;obtain⟨u,r,l⟩:=hl i x v hN e hv;have fin:EP X pins Y Q u s:=⟨v,H,I,r,h⟩;rcases l with⟨hk,hm⟩|⟨hk,c,hc,hcell⟩
 ·exact wpAny_Name (wpAny_loadName_local I.ok.kind hk hn hm fin) hd
 ·rcases hk with hk|hk
  ·exact wpAny_Name (wpAny_loadName_cell I.ok.kind hk hc hcell fin) hd
  ·exact wpAny_Name (wpAny_loadName_free I.ok.kind hk hc hcell fin hcd) hd
theorem Cr{i j pos}:PE X (.Constant (.int i) j pos) (tC (.int i)):=λ_ _ _ H _ I h=>wpAny_Constant_int ⟨.int i,H,I.tok _,⟨_,rfl⟩,h⟩
theorem FT{b j pos}:PE X (.Constant (.bool b) j pos) (tC (.bl b)):=λ_ _ _ H _ I h=>Constant_bool ⟨.bl b,H,I,rfl,h⟩
theorem Cs{j pos}:PE X (.Constant .none j pos) (tC .non):=λ_ _ _ H _ I h=>Constant_none ⟨.non,H,I,rfl,h⟩
theorem Ct{x j pos}:PE X (.Constant (.str x) j pos) (tC (.str x)):=λ_ _ _ H _ I h=>Calls.Constant_str ⟨.str x,H,I.tok _,⟨_,rfl⟩,h⟩
noncomputable def Gl(X:Cx)(x:Str):Prop:=X.env.kindOf x=P6 .globalImplicit
theorem gq{x:Str}{Q:Qa->Qd->Prop}(I:Inv X pins Y H s)(hg:Gl X x)(hm:X.mg x=P6 u)(h:Q u s)(hd:(x==("__debug__":Str))=Qb:=by decide):Qf (Qg X.prog X.w) X.A (eval (.Name x pos) X.env) Q E s:=
 Calls.Name_function_global I.ok.kind hg (Calls.loadGlobal_global (by rw[I.ok.glob];exact I.mod.glob.keeps I.bk) hm h) hd
theorem c0{x:Str}{Q:Qa->Qd->Prop}(I:Inv X pins Y H s)(hg:Gl X x)(hm:X.mg x=P7)(hv:bootBuiltins x=P6 u)(h:Q u s)(hn:x≠"__name__":=by decide)(hd:(x==("__debug__":Str))=Qb:=by decide):Qf (Qg X.prog X.w) X.A (eval (.Name x pos) X.env) Q E s:=by
 obtain⟨mb,h1,h2⟩:=I.mod.blt;exact Calls.Name_function_global I.ok.kind hg (Calls.loadGlobal_builtin (by rw[I.ok.glob];exact I.mod.glob.keeps I.bk) hm (by rw[I.ok.blt];exact h1.keeps I.bk) ((h2 x hn).trans hv) h) hd
theorem yP{x:Str}(hg:Gl X x)(hm:X.mg x=P6 u)(r:RelV v u)(hd:(x==("__debug__":Str))=Qb:=by decide):PE X (.Name x pos) (tC v):=
 λ_ _ _ H _ I h=>gq I hg hm ⟨v,H,I,r,h⟩ hd
theorem yQ{x:Str}(hg:Gl X x)(hm:X.mg x=P7)(hv:bootBuiltins x=P6 u)(r:RelV v u)(hn:x≠"__name__":=by decide)(hd:(x==("__debug__":Str))=Qb:=by decide):PE X (.Name x pos) (tC v):=
 λ_ _ _ H _ I h=>c0 I hg hm hv ⟨v,H,I,r,h⟩ hn hd
variable {a b:P9} {ta tb:TE} {pos:Pos}
variable {tA tB':TT} {rest:List P9}
noncomputable def Jw(t u:TT):TT:=λY H Q=>t Y H λc H1=>if c=P8 then u Y H1 Q else Q Qb H1
noncomputable def L0(t u:TT):TT:=λY H Q=>t Y H λc H1=>if c=P8 then Q P8 H1 else u Y H1 Q
noncomputable def Jx(t:TT):TT:=λY H Q=>t Y H λc H1=>Q (!c) H1
theorem yR(ha:PT X a tA):PW X (.BoolOp .And [a] pos) tA:=by
 intro wh pins s Y H Q I h;refine isTrue_and (aV (ha pins s Y H Q I h) λc s1 e=>?_)
 cases c with
 |true=>exact isTrue_and_nil e
 |false=>exact e
theorem Cu(ha:PT X a tA):PW X (.BoolOp .Or [a] pos) tA:=by
 intro wh pins s Y H Q I h;refine isTrue_or (aV (ha pins s Y H Q I h) λc s1 e=>?_)
 cases c with
 |false=>exact isTrue_or_nil e
 |true=>exact e
theorem vB(ha:PT X a tA)(hb:PW X (.BoolOp .And (b::rest) pos) tB'):PW X (.BoolOp .And (a::b::rest) pos) (Jw tA tB'):=by
 intro wh pins s Y H Q I h;refine isTrue_and (aV (ha pins s Y H _ I h) λc s1 ⟨H1,I1,q1⟩=>?_)
 cases c with
 |true=>exact hb wh pins s1 Y H1 Q I1 q1
 |false=>exact⟨H1,I1,q1⟩
theorem Bi(ha:PT X a tA)(hb:PW X (.BoolOp .Or (b::rest) pos) tB'):PW X (.BoolOp .Or (a::b::rest) pos) (L0 tA tB'):=by
 intro wh pins s Y H Q I h;refine isTrue_or (aV (ha pins s Y H _ I h) λc s1 ⟨H1,I1,q1⟩=>?_)
 cases c with
 |true=>exact⟨H1,I1,q1⟩
 |false=>exact hb wh pins s1 Y H1 Q I1 q1
theorem Cv(ha:PT X a tA):PT X (.UnaryOp .Not a pos) (Jx tA):=by
 intro pins s Y H Q I h;exact isTrue_not (ha pins s Y H (λc H1=>Q (!c) H1) I h)
noncomputable def FU(ta tb:TE):TE:=λY H Q=>ta Y H λx H1=>∃c,x=.bl c/\if c=P8 then tb Y H1 Q else Q (.bl Qb) H1
noncomputable def Jy(ta tb:TE):TE:=λY H Q=>ta Y H λx H1=>∃c,x=.bl c/\if c=P8 then Q (.bl P8) H1 else tb Y H1 Q
theorem Cw{op}(h:PE X a t):PE X (.BoolOp op [a] pos) t:=λpins s Y H Q I hw=>BoolOp_one (h pins s Y H Q I hw)
theorem vC(ha:PE X a ta)(hb:PE X (.BoolOp .And (b::rest) pos) tb):PE X (.BoolOp .And (a::b::rest) pos) (FU ta tb):=by
 intro pins s Y H Q I h;refine BoolOp_and (aV (ha pins s Y H _ I h) λv s1 ⟨x,H1,I1,r1,q1⟩=>?_);obtain⟨c,rfl,q1⟩:=q1;cases r1;refine Qz ?_
 cases c with
 |true=>exact hb pins s1 Y H1 Q I1 q1
 |false=>exact⟨.bl Qb,H1,I1,rfl,q1⟩
theorem Bj(ha:PE X a ta)(hb:PE X (.BoolOp .Or (b::rest) pos) tb):PE X (.BoolOp .Or (a::b::rest) pos) (Jy ta tb):=by
 intro pins s Y H Q I h;refine BoolOp_or (aV (ha pins s Y H _ I h) λv s1 ⟨x,H1,I1,r1,q1⟩=>?_);obtain⟨c,rfl,q1⟩:=q1;cases r1;refine Qz ?_
 cases c with
 |false=>exact hb pins s1 Y H1 Q I1 q1
 |true=>exact⟨.bl P8,H1,I1,rfl,q1⟩
noncomputable def L1(t:TT)(ta tb:TE):TE:=λY H Q=>t Y H λc H1=>if c=P8 then ta Y H1 Q else tb Y H1 Q
theorem nN{c:P9}(hc:PT X c tA)(ha:PE X a ta)(hb:PE X b tb):PE X (.IfExp c a b pos) (L1 tA ta tb):=by
 intro pins s Y H Q I h;refine wpAny_IfExp (aV (hc pins s Y H _ I h) λd s1 ⟨H1,I1,q1⟩=>?_)
 cases d with
 |true=>exact ha pins s1 Y H1 Q I1 q1
 |false=>exact hb pins s1 Y H1 Q I1 q1
end
end L2
namespace L2
open PySem PySem.Spec PyProof.Rows
noncomputable def SqL(K:Mz)(H:Hp)(a:Qc)(xs:List V):Prop:=
 Rd H a (.lst xs)\/
  ∃(o:Obj) (its:Array Qa) (n:Nat),K.lookup a=P6 o/\o.cls=.type "list"/\o.dict=P7/\o.data=.seq its n/\its.size<=sizeLine/\Vals xs its.toList
noncomputable def SqT(K:Mz)(H:Hp)(a:Qc)(xs:List V):Prop:=
 Rd H a (.tup xs)\/
  ∃(o:Obj) (its:Array Qa) (n:Nat),K.lookup a=P6 o/\o.cls=.type "tuple"/\o.data=.seq its n/\its.size<=sizeLine/\Vals xs its.toList
noncomputable def Jz:Qa->Option V
 |.none=>P6 .non
 |.bool b=>P6 (.bl b)
 |.int i _=>P6 (.int i)
 |.str x _=>P6 (.str x)
 |.bytes b _=>P6 (.byt b)
 |.float b _=>P6 (.flt b)
 |.ref a=>P6 (.ref a)
 |.type n=>P6 (.ty n)
 |_=>P7
theorem RelV.abs(r:RelV x u):Jz u=P6 x:=by
 cases x with
 |non=>cases r;rfl
 |bl _=>cases r;rfl
 |int _=>obtain⟨t,rfl⟩:=r;rfl
 |str _=>obtain⟨t,rfl⟩:=r;rfl
 |byt _=>obtain⟨t,rfl⟩:=r;rfl
 |flt _=>obtain⟨t,rfl⟩:=r;rfl
 |ref _=>cases r;rfl
 |ty _=>cases r;rfl
theorem RelV.inj(r:RelV x u)(q:RelV y u):x=y:=Option.some.inj (r.abs.symm.trans q.abs)
theorem Vals.inj:∀{xs ys:List V} {us:List Qa},Vals xs us->Vals ys us->xs=ys
 |_,_,_,.nil,.nil=>rfl
 |_,_,_,.cons r t,.cons r' t'=>by rw[r.inj r',Vals.inj t t']
section
variable {X:Cx} {pins:List (Qc×Obj)} {Y:St} {H:Hp} {s:Qd} {a:Qc} {xs ys:List V}
theorem SqL.of{K:Mz}(h:H a=P6 (.lst xs)):SqL K H a xs:=.inl (.inl h)
theorem SqT.of{K:Mz}(h:H a=P6 (.tup xs)):SqT K H a xs:=.inl (.inl h)
theorem Inv.list(I:Inv X pins Y H s)(h:SqL X.K H a xs):∃its:List Qa,Vals xs its/\PlainL s.heap a its.toArray/\xs.length<=sizeLine:=by
 rcases h with h|⟨o,its,n,hk,hc,hd,hs,hz,r⟩
 ·obtain⟨z,its,n,r,e⟩:=h.ok I.hok;exact⟨its,r,⟨_,n,e,rfl,rfl,rfl⟩,z⟩
 ·refine⟨its.toList,r,⟨o,n,I.kIn a o hk,hc,hd,by simpa using hs⟩,?_⟩;have e:=r.length;simp only[NY] at e
  lia
theorem Inv.tuple(I:Inv X pins Y H s)(h:SqT X.K H a xs):∃its:List Qa,Vals xs its/\IsTup s.heap a its.toArray/\xs.length<=sizeLine:=by
 rcases h with h|⟨o,its,n,hk,hc,hs,hz,r⟩
 ·obtain⟨z,its,r,p⟩:=h.ok I.hok;exact⟨its,r,p,z⟩
 ·refine⟨its.toList,r,⟨o,I.kIn a o hk,hc,n,by simpa using hs⟩,?_⟩;have e:=r.length;simp only[NY] at e
  lia
theorem Inv.list_inj(I:Inv X pins Y H s)(h:SqL X.K H a xs)(h':SqL X.K H a ys):xs=ys:=by
 obtain⟨its,r,⟨o,n,e,_,_,d⟩,_⟩:=I.list h;obtain⟨its',r',⟨o',n',e',_,_,d'⟩,_⟩:=I.list h';rw[e] at e';cases e';rw[d] at d';injection d' with d1 _;have:its=its':=by simpa using congrArg Array.toList d1
 subst this;exact r.inj r'
theorem Inv.tuple_inj(I:Inv X pins Y H s)(h:SqT X.K H a xs)(h':SqT X.K H a ys):xs=ys:=by
 obtain⟨its,r,⟨o,e,_,n,d⟩,_⟩:=I.tuple h;obtain⟨its',r',⟨o',e',_,n',d'⟩,_⟩:=I.tuple h';rw[e] at e';cases e';rw[d] at d';injection d' with d1 _;have:its=its':=by simpa using congrArg Array.toList d1
 subst this;exact r.inj r'
end
noncomputable abbrev Cx.wish(X:Cx)(E:Qa->Qd->Prop):Cx:={ X with xe:=E }
noncomputable abbrev Cx.nox(X:Cx):Cx:=X.wish λ_ _=>False
theorem Cx.Ok.wish{X:Cx}(ok:X.Ok)(E:Qa->Qd->Prop):(X.wish E).Ok:=
 ⟨ok.mod,ok.kind,ok.glob,ok.blt,ok.above,ok.inj,ok.has,ok.cab,ok.hd,ok.frames,ok.stk,ok.exf,ok.bs,ok.bsz,ok.noex,ok.exfs,ok.funs,ok.frf⟩
theorem Cx.Ok.unwish{X:Cx}(ok:(X.wish E).Ok):X.Ok:=
 ⟨ok.mod,ok.kind,ok.glob,ok.blt,ok.above,ok.inj,ok.has,ok.cab,ok.hd,ok.frames,ok.stk,ok.exf,ok.bs,ok.bsz,ok.noex,ok.exfs,ok.funs,ok.frf⟩
section
variable {X:Cx} {pins:List (Qc×Obj)} {Y:St} {H:Hp} {s:Qd} {E:Qa->Qd->Prop}
theorem Inv.wish(I:Inv X pins Y H s)(E:Qa->Qd->Prop):Inv (X.wish E) pins Y H s:=⟨I.ok.wish E,I.os,I.bare,I.base,I.loc,I.cell,I.free,I.freeC,I.pin,I.hok,I.len⟩
theorem Inv.unwish(I:Inv (X.wish E) pins Y H s):Inv X pins Y H s:=⟨I.ok.unwish,I.os,I.bare,I.base,I.loc,I.cell,I.free,I.freeC,I.pin,I.hok,I.len⟩
theorem SP.unwish(h:SP (X.wish E) pins D f s'):SP X pins D f s':=by
 cases f with
 |next=>obtain⟨Y',H',I,q⟩:=h;exact⟨Y',H',I.unwish,q⟩
 |brk=>obtain⟨Y',H',I,q⟩:=h;exact⟨Y',H',I.unwish,q⟩
 |cont=>obtain⟨Y',H',I,q⟩:=h;exact⟨Y',H',I.unwish,q⟩
 |ret u=>obtain⟨v,Y',H',I,r,q⟩:=h;exact⟨v,Y',H',I.unwish,r,q⟩
theorem PSs.nox{st:List Ql}{t:TS}(h:PSs X.nox st t):PSs X st t:=λpins s Y H D I hw=>
 wpAny_mono (h pins s Y H D (I.wish _) hw) (λ_ _ q=>q.unwish) λ_ _ z=>False.elim z
end
section
variable {X:Cx} {st:Ql} {rest:List Ql} {t u:TS} {e:P9} {te:TE} {pos:Pos}
noncomputable def vD:TS:=λD Y H=>D.nx Y H
noncomputable def JA(t u:TS):TS:=λD Y H=>t { D with nx:=u D } Y H
theorem yS:PSs X [] vD:=λ_ _ Y H _ I h=>wpAny_execs_nil ⟨Y,H,I,h⟩
theorem vF(h1:PS X st t)(h2:PSs X rest u):PSs X (st::rest) (JA t u):=by
 intro pins s Y H D I h;refine wpAny_execs_cons (aV (h1 pins s Y H { D with nx:=u D } I h) λf s1 q=>?_)
 cases f with
 |next=>
  obtain⟨Y',H',I',q⟩:=q;exact h2 pins s1 Y' H' D I' q
 |ret v=>exact q
 |brk=>exact q
 |cont=>exact q
theorem yT(h1:PS X st t):PSs X [st] t:=by
 intro pins s Y H D I h;refine wpAny_execs_cons (aV (h1 pins s Y H D I h) λf s1 q=>?_)
 cases f with
 |next=>exact wpAny_execs_nil q
 |ret v=>exact q
 |brk=>exact q
 |cont=>exact q
theorem yU:PS X (.Pass pos) vD:=λ_ _ Y H _ I h=>wpAny_Pass ⟨Y,H,I,h⟩
theorem Inv.quiet(I:Inv X pins Y H s):interactive X.env=Qb:=by simp[interactive,I.ok.kind]
theorem Cy{x j pos pos'}:PS X (.Expr (.Constant (.str x) j pos) pos') vD:=λ_ s Y H _ I h=>wpAny_Expr (Calls.Constant_str (show SP X _ _ .next { s with toks:=s.toks+1 } from⟨Y,H,I.tok _,h⟩)) I.quiet
noncomputable def FV(te:TE):TS:=λD Y H=>te Y H λ_ H1=>D.nx Y H1
theorem yV(he:PE X e te)(hs:swapsWith e P7 pos.line X.env=pure Qb:=by rfl):PS X (.Expr e pos) (FV te):=by
 intro pins s Y H D I h;exact wpAny_Expr_any (aV (he pins s Y H _ I h) λv s1 ⟨x,H1,I1,r1,q1⟩=>⟨Y,H1,I1,q1⟩) I.quiet hs
noncomputable def JB(te:TE):TS:=λD Y H=>te Y H D.rt
theorem CA(he:PE X e te):PS X (.Return (P6 e) pos) (JB te):=by
 intro pins s Y H D I h;exact wpAny_Return_some (aV (he pins s Y H _ I h) λv s1 ⟨x,H1,I1,r1,q1⟩=>⟨x,Y,H1,I1,r1,q1⟩)
noncomputable def JC(c:TT)(t u:TS):TS:=λD Y H=>c Y H λb H1=>if b=P8 then t D Y H1 else u D Y H1
theorem Bk{c:P9}{a b:List Ql}{tc:TT}(hc:PT X c tc)(ha:PSs X a t)(hb:PSs X b u):PS X (.If c a b pos) (JC tc t u):=by
 intro pins s Y H D I h;refine wpAny_If (aV (hc pins s Y H _ I h) λd s1 ⟨H1,I1,q1⟩=>?_)
 cases d with
 |true=>exact ha pins s1 Y H1 D I1 q1
 |false=>exact hb pins s1 Y H1 D I1 q1
end
noncomputable abbrev TG:=V->St->Hp->(St->Hp->Prop)->Prop
noncomputable abbrev vG:=List V->St->Hp->(St->Hp->Prop)->Prop
noncomputable def PG(X:Cx)(target:P9)(t:TG):Prop:=
 ∀(pins:List (Qc×Obj)) (s:Qd) (Y:St) (H:Hp) (v:V) (u:Qa) (Q:St->Hp->Prop),Inv X pins Y H s->RelV v u->t v Y H Q->
  Qf (Qg X.prog X.w) X.A (assign target X.env u) (λ_ s'=>∃Y' H',Inv X pins Y' H' s'/\Q Y' H') X.xe s
noncomputable def CB(X:Cx)(ts:List P9)(t:vG):Prop:=
 ∀(pins:List (Qc×Obj)) (s:Qd) (Y:St) (H:Hp) (vs:List V) (us:List Qa) (Q:St->Hp->Prop),Inv X pins Y H s->Vals vs us->t vs Y H Q->
  Qf (Qg X.prog X.w) X.A (assignInOrder ((Qr ts X.env).map (·.2)) us) (λ_ s'=>∃Y' H',Inv X pins Y' H' s'/\Q Y' H') X.xe s
noncomputable abbrev CC:=V->V->V->Hp->(Hp->Prop)->Prop
noncomputable def FW(X:Cx)(t:CC):Prop:=
 ∀(pins:List (Qc×Obj)) (s:Qd) (Y:St) (H:Hp) (o i v:V) (ov iv u:Qa) (Q:Hp->Prop),Inv X pins Y H s->RelV o ov->RelV i iv->RelV v u->t o i v H Q->
  Qf (Qg X.prog X.w) X.A (setItem ov iv u) (λ_ s'=>∃H',Inv X pins Y H' s'/\Q H') X.xe s
section
variable {X:Cx} {pos:Pos}
noncomputable def gu(i:Nat):TG:=λv Y H Q=>Q (Y.set i (P6 v)) H
theorem rO{i:Nat}{x:Str}(hN:X.N.Nodup)(hi:X.N[i]?=P6 x)(hx:Cq X.env.scope x)(hf:X.fn x=P8\/X.env.scope.names.lookup x=P6 .local:=by first|exact .inl rfl|exact .inr rfl|assumption):PG X (.Name x pos) (gu i):=by
 intro pins s Y H v u Q I r h;exact wpAny_assign_Name (nM I hN hi hx r (λs' I'=>⟨_,H,I',h⟩) hf)
noncomputable def CD:vG:=λvs Y H Q=>vs=[]/\Q Y H
noncomputable def vH(t:TG)(u:vG):vG:=λvs Y H Q=>∃v r,vs=v::r/\t v Y H λY' H'=>u r Y' H' Q
theorem rP:CB X [] CD:=by
 intro pins s Y H vs us Q I r h;obtain⟨e,h⟩:=h;subst e;cases r;exact assignInOrder_nil ⟨Y,H,I,h⟩
theorem nO{e:P9}{es:List P9}{t:TG}{u:vG}(h1:PG X e t)(h2:CB X es u)
  (hs:(Qr (e::es) X.env).map (·.2)=assign e X.env::(Qr es X.env).map (·.2):=by rfl):CB X (e::es) (vH t u):=by
 intro pins s Y H vs us Q I r h;obtain⟨v,vr,e1,h⟩:=h;subst e1
 cases r with
 |cons r rr=>
  rw[hs];refine assignInOrder_cons (aV (h1 pins s Y H _ _ _ I r h) λ_ s1 ⟨Y1,H1,I1,q1⟩=>?_);exact h2 pins s1 Y1 H1 _ _ Q I1 rr q1
noncomputable def FX(K:Mz)(n:Nat)(t:vG):TG:=λv Y H Q=>∃a xs,v=.ref a/\SqT K H a xs/\xs.length=n/\t xs Y H Q
theorem vI{k:Nat}{n:Nat}(hc:X.calm=P8)(h:CB X es t)(hn:(Qr es X.env).length=n:=by rfl)(hst:(Qr es X.env).findIdx? (·.1)=P7:=by rfl):PG X (.Tuple es k pos) (FX X.K n t):=by
 intro pins s Y H v u Q I r hw;obtain⟨a,xs,e1,hq,hl,hw⟩:=hw;subst e1;cases r;obtain⟨its,rv,ht,hz⟩:=I.tuple hq;refine assign_Tuple_tuple (I.ok.hd hc) ht (by simp[hn,<- hl,rv.length]) hst λh' hx=>?_;have I1:Inv X pins Y H { s with heap:=h' }:=I.kept (t':=s.toks) λb o e=>hx b o (MM (MD e)) e;exact h pins _ Y H xs _ Q I1 (by simpa using rv) hw
noncomputable def JD(to ti:TE)(t:CC):TG:=λv Y H Q=>to Y H λo H1=>ti Y H1 λi H2=>t o i v H2 λH3=>Q Y H3
theorem CF{o i:P9}{to ti:TE}{t:CC}(ho:PE X o to)(hi:PE X i ti)(hs:FW X t)
  (ha:∀v,assign (.Subscript o i pos) X.env v=(do
   let ov <- holding [v] (eval o X.env);let iv <- holding [v,ov] (eval i X.env)
   standAt pos
   holding [v,ov,iv] (setItem ov iv v)
   release [v,ov,iv] []):=by intro _;rfl):PG X (.Subscript o i pos) (JD to ti t):=by
 intro pins s Y H v u Q I r h;rw[ha];refine Qe (Qx (aV (ho pins s Y H _ I h) λov s1 ⟨x,H1,I1,r1,q1⟩=>?_));refine Qe (Qx (aV (hi pins s1 Y H1 _ I1 q1) λiv s2 ⟨y,H2,I2,r2,q2⟩=>?_));refine Qe (wpAny_standAt (Qe (Qx (aV (hs pins s2 Y H2 x y v ov iv u _ I2 r1 r2 r q2) λ_ s3 ⟨H3,I3,q3⟩=>?_))));exact wpAny_release ⟨Y,H3,I3,q3⟩
noncomputable def yW(te:TE)(g:TG):TS:=λD Y H=>te Y H λx H1=>g x Y H1 D.nx
theorem pU{tg e:P9}{te:TE}{g:TG}(he:PE X e te)(hg:PG X tg g)(hs:swapsWithSole [tg] e pos.line X.env=pure Qb:=by rfl)(hw:swappedStores [tg] e X.env=pure P7:=by rfl)
  (h1:(Qr [tg] X.env).map (·.2)=[assign tg X.env]:=by rfl):PS X (.Assign [tg] e pos) (yW te g):=by
 intro pins s Y H D I h;refine wpAny_Assign_stores (aV (he pins s Y H _ I h) λv s1 ⟨x,H1,I1,r1,q1⟩=>?_) hs hw;rw[h1];exact aV (hg pins s1 Y H1 x v _ I1 r1 q1) λ_ s2 q=>q
theorem pV{i:Nat}{x:Str}{e:P9}{te:TE}{pos':Pos}(hN:X.N.Nodup)(hi:X.N[i]?=P6 x)(hx:Cq X.env.scope x)(he:PE X e te)(hs:swapsWith e (P6 (.Name x pos')) pos.line X.env=pure Qb:=by rfl)(hf:X.fn x=P8\/X.env.scope.names.lookup x=P6 .local:=by first|exact .inl rfl|exact .inr rfl|assumption) :
  PS X (.Assign [.Name x pos'] e pos) (yW te (gu i)):=by
 intro pins s Y H D I h;refine wpAny_Assign_Name (aV (he pins s Y H _ I h) λv s1 ⟨y,H1,I1,r1,q1⟩=>?_) hs;exact nM I1 hN hi hx r1 (λs2 I2=>⟨_,H1,I2,q1⟩) hf
end
section
variable {X:Cx} {pos:Pos}
noncomputable def CG(c:TT)(tb:TS):TS:=λD Y H=>∃W:Nat->St->Hp->Prop,(∃m,W m Y H)/\∀m Y H,W m Y H->
 c Y H λb H1=>if b=P8 then ∃N:St->Hp->Prop,(∀Y' H',N Y' H'->∃m',m'<m/\W m' Y' H')/\tb { D with nx:=N,ct:=N,bk:=D.nx } Y H1 else D.nx Y H1
theorem vJ{c:P9}{body:List Ql}{tc:TT}{tb:TS}(hp:PassesOwn (Qg X.prog X.w) X.A X.env X.xe)(hc:PT X c tc)(hb:PSs X body tb):PS X (.While c body [] pos) (CG tc tb):=by
 intro pins s Y H D I h;obtain⟨W,⟨m0,w0⟩,turn⟩:=h;refine wpAny_While (codeAny_whileLoop (λn s'=>∃Y' H',Inv X pins Y' H' s'/\W n Y' H') ?_ m0 ⟨Y,H,I,w0⟩)
 rintro n s1 ⟨Y1,H1,I1,w1⟩
 refine Qy hp (aV (hc pins s1 Y1 H1 _ I1 (turn n Y1 H1 w1)) λb s2 ⟨H2,I2,q2⟩=>?_)
 cases b with
 |true=>
  obtain⟨N,hN,q2⟩:=q2;rw[if_pos rfl];refine Qy hp (aV (hb pins s2 Y1 H2 _ I2 q2) λf s3 q3=>?_)
  cases f with
  |next=>
   obtain⟨Y3,H3,I3,n3⟩:=q3;obtain⟨m',hm,w3⟩:=hN Y3 H3 n3;exact⟨m',hm,Y3,H3,I3,w3⟩
  |cont=>
   obtain⟨Y3,H3,I3,n3⟩:=q3;obtain⟨m',hm,w3⟩:=hN Y3 H3 n3;exact⟨m',hm,Y3,H3,I3,w3⟩
  |brk=>exact q3
  |ret v=>exact q3
 |false=>
  rw[if_neg NA];exact wpAny_execs_nil ⟨Y1,H2,I2,q2⟩
end
structure It where
 go:Nat->Hp->Prop
 yld:Nat->Hp->V->Hp->Prop
 stop:Nat->Hp->Prop
noncomputable def gw(X:Cx)(pins:List (Qc×Obj))(H:Hp)(b:Qc):Prop:=
 H b=P7/\b≠X.env.locals/\b∉X.fs/\(b∈X.ex\/X.s₀.heap.objs.size<=b)/\(∀x c,X.env.cells.lookup x=P6 c->c≠b)/\∀p∈X.pn++pins,p.1≠b
theorem Inv.fpOk{H H':Hp}{s:Qd}(I:Inv X pins Y H s)(hb:s.heap.objs.size<=b)(hn:H' b=P7):gw X pins H' b:=by
 refine⟨hn,NP (MG I.lt hb),I.nofs hb,.inr (M0 I.sz hb),λx c e z=>?_,λp hp z=>?_⟩
 ·obtain⟨v,q⟩:=I.cell x c e;exact absurd (MG q.lt (by rw[z];exact hb)) (Ng _)
 ·exact absurd (MG (MD (I.pin p hp).1) (by rw[z];exact hb)) (Ng _)
structure nP(P:Program)(w:World)(K:Mz)(tg:Expr)(J:It)(fp:List Addr)(it:Addr)(tn:Nat->Heap->Prop):Prop where
 mem:it∈fp
 obj:∀i h,tn i h->∀b∈fp,∃o,h.get? b=P6 o/\∀v,o.data≠.cell v
 keep:∀i h h',tn i h->(∀b∈fp,∀o,h.get? b=P6 o->h'.get? b=P6 o)->tn i h'
 item:∀(X:Cx),X.prog=P->X.w=w->X.K=K->X.calm=P8->∀(i:Nat) (pins:List (Qc×Obj)) (s:Qd) (Y:St) (H:Hp) (E:Qa->Qd->Prop),Inv X pins Y H s->(∀b∈fp,gw X pins H b)->tn i s.heap->J.go i H->
  Qf (Qg P w) X.A (pyNext (.ref it)) (λr s1=>∃u,r=P6 u/\
   Qf (Qg P w) X.A (letOwnedTupleGo tg (.ref it) u) (λ_ s2=>∃x H',Inv X pins Y H' s2/\RelV x u/\J.yld i H x H'/\tn (i+1) s2.heap/\∀b∈fp,H' b=P7) E s1) E s
 done:∀(X:Cx),X.prog=P->X.w=w->X.K=K->X.calm=P8->∀(i:Nat) (pins:List (Qc×Obj)) (s:Qd) (Y:St) (H:Hp) (E:Qa->Qd->Prop),Inv X pins Y H s->(∀b∈fp,gw X pins H b)->tn i s.heap->J.stop i H->
  Qf (Qg P w) X.A (pyNext (.ref it)) (λr s1=>r=P7/\Inv X pins Y H s1) E s
 self:∀(A:Qk) (i:Nat) (s:Qd) (Q:Qa->Qd->Prop) (E:Qa->Qd->Prop),tn i s.heap->Q (.ref it) s->Qf (Qg P w) A (pyIter (.ref it)) Q E s
noncomputable abbrev TI:=St->Hp->(It->Hp->Prop)->Prop
noncomputable def JE(X:Cx)(pins:List (Qc×Obj))(Y:St)(tg:P9)(R:It->Hp->Prop)(itv:Qa)(s2:Qd):Prop:=
 ∃(it:Qc) (fp:List Qc) (tn:Nat->Qn->Prop) (J:It) (H':Hp),itv=.ref it/\Inv X pins Y H' s2/\nP X.prog X.w X.K tg J fp it tn/\tn 0 s2.heap/\(∀b∈fp,gw X pins H' b)/\R J H'
noncomputable def PI(X:Cx)(tg iter:P9)(wi:TI):Prop:=
 ∀(pins:List (Qc×Obj)) (s:Qd) (Y:St) (H:Hp) (R:It->Hp->Prop),Inv X pins Y H s->wi Y H R->
  Qf (Qg X.prog X.w) X.A (eval iter X.env) (λv s1=>Qf (Qg X.prog X.w) X.A (pyIter v) (JE X pins Y tg R) X.xe s1) X.xe s
theorem nQ{s:Qd}{o:Obj}{n:String}{Q:Unit->Qd->Prop}(ho:s.heap.get? it=P6 o)(hc:o.cls=.type n)(hd:o.data=.fields vs)(hn:["enumerate","zip","dict_itemiterator","dict_reverseitemiterator","odict_iterator","itertools.zip_longest","itertools.pairwise"].contains n=Qb)(hQ:Q () s):Qf M A (letOwnedTupleGo tg (.ref it) u) Q E s:=by
  unfold letOwnedTupleGo
  cases tg<;>first
    |exact Qh hQ
    |(cases u<;>first
        |exact Qh hQ
        | (refine Qe (wpAny_load ho ?_)
           rw[hc,hd]
           show Qf M A (if(["enumerate","zip","dict_itemiterator","dict_reverseitemiterator","odict_iterator","itertools.zip_longest","itertools.pairwise"].contains n&&vs[0]?==P6 (QD _))=P8 then _ else _) Q E s
           rw[if_neg (by intro h;rw[hn,Bool.false_and] at h;cases h)];exact Qh hQ))
noncomputable def FG(K:Mz)(a:Qc):It:=
 ⟨λi H=>∃xs x,SqL K H a xs/\xs[i]?=P6 x,λi H x H'=>H'=H/\∀xs,SqL K H a xs->xs[i]?=P6 x,λi H=>∃xs,SqL K H a xs/\xs.length<=i⟩
noncomputable def JF(K:Mz)(a:Qc):It:=
 ⟨λi H=>∃xs x,SqT K H a xs/\xs[i]?=P6 x,λi H x H'=>H'=H/\∀xs,SqT K H a xs->xs[i]?=P6 x,λi H=>∃xs,SqT K H a xs/\xs.length<=i⟩
noncomputable def FY(lo:Int)(n:Nat):It:=⟨λi _=>i<n,λi H x H'=>H'=H/\x=.int (lo+i),λi _=>n<=i⟩
theorem uo{P:Qi}{w:Qj}{K:Mz}{tg:P9}(a it:Qc):nP P w K tg (FG K a) [it] it (λi h=>h.IsListIter it a i) where
 mem:=by simp
 obj:=λi h st b hb=>by
  have e:b=it:=by simpa using hb
  subst e;obtain⟨o,e,c,d⟩:=st;exact⟨o,e,λv z=>by rw[d] at z;cases z⟩
 keep:=λi h h' st k=>st.at λo e=>k it (by simp) o e
 item:=by
  intro X hP hw hK hc i pins s Y H E I hf st hg;subst hP hw hK;obtain⟨xs,x,hq,hx⟩:=hg;obtain⟨its,rv,p,hz⟩:=I.list hq;obtain⟨u,hu,ru⟩:=rv.get hx;obtain⟨f0,f1,f2,f3,f4,f5⟩:=hf it (by simp);refine wpAny_pyNext_list_item st p.isList (x:=u) (by simpa using hu) λh' st' sb=>?_;have I1:Inv X pins Y H { s with heap:=h' }:=I.turned (t':=s.toks) (λb o hb e=>(sb.2 b hb).trans e) f0 f1 f3 f4 f5;obtain⟨o,e,c,d⟩:=id st';exact⟨u,rfl,nQ (s:={ s with heap:=h' }) e c d (by decide) ⟨x,H,I1,ru,⟨rfl,λys hy=>by rw[I.list_inj hy hq];exact hx⟩,st',λb hb=>(hf b hb).1⟩⟩
 done:=by
  intro X hP hw hK hc i pins s Y H E I hf st hg;subst hP hw hK;obtain⟨xs,hq,hx⟩:=hg;obtain⟨its,rv,p,hz⟩:=I.list hq;obtain⟨f0,f1,f2,f3,f4,f5⟩:=hf it (by simp);have hl:=rv.length;exact wpAny_pyNext_list_end (I.ok.hd hc) st p.isList (by simp;lia) λh' eb=>⟨rfl,I.turned (t':=s.toks) (λb o hb e=>eb b o hb e) f0 f1 f3 f4 f5⟩
 self:=λ_ _ _ _ _ st h=>wpAny_pyIter_listiter st h
theorem pW{P:Qi}{w:Qj}{K:Mz}{tg:P9}(a it:Qc):nP P w K tg (JF K a) [it] it (λi h=>h.IsTupleIter it a i) where
 mem:=by simp
 obj:=λi h st b hb=>by
  have e:b=it:=by simpa using hb
  subst e;obtain⟨o,e,c,d⟩:=st;exact⟨o,e,λv z=>by rw[d] at z;cases z⟩
 keep:=λi h h' st k=>st.at λo e=>k it (by simp) o e
 item:=by
  intro X hP hw hK hc i pins s Y H E I hf st hg;subst hP hw hK;obtain⟨xs,x,hq,hx⟩:=hg;obtain⟨its,rv,p,hz⟩:=I.tuple hq;obtain⟨u,hu,ru⟩:=rv.get hx;obtain⟨f0,f1,f2,f3,f4,f5⟩:=hf it (by simp);refine wpAny_pyNext_tuple_item st (show s.heap.IsTuple a its.toArray from p) (x:=u) (by simpa using hu) λh' st' sb=>?_;have I1:Inv X pins Y H { s with heap:=h' }:=I.turned (t':=s.toks) (λb o hb e=>(sb.2 b hb).trans e) f0 f1 f3 f4 f5;obtain⟨o,e,c,d⟩:=id st';exact⟨u,rfl,nQ (s:={ s with heap:=h' }) e c d (by decide) ⟨x,H,I1,ru,⟨rfl,λys hy=>by rw[I.tuple_inj hy hq];exact hx⟩,st',λb hb=>(hf b hb).1⟩⟩
 done:=by
  intro X hP hw hK hc i pins s Y H E I hf st hg;subst hP hw hK;obtain⟨xs,hq,hx⟩:=hg;obtain⟨its,rv,p,hz⟩:=I.tuple hq;obtain⟨f0,f1,f2,f3,f4,f5⟩:=hf it (by simp);have hl:=rv.length;exact wpAny_pyNext_tuple_end (I.ok.hd hc) st (show s.heap.IsTuple a its.toArray from p) (by simp;lia) λh' eb=>⟨rfl,I.turned (t':=s.toks) (λb o hb e=>eb b o hb e) f0 f1 f3 f4 f5⟩
 self:=λ_ _ _ _ _ st h=>wpAny_pyIter_tupleiter st h
theorem pX{P:Qi}{w:Qj}{K:Mz}{tg:P9}(it:Qc)(lo:Int)(n:Nat):nP P w K tg (FY lo n) [it] it (λi h=>IsRangeIter h it (lo+(i:Nat)*1) ((n:Int)-(i:Nat)) 1) where
 mem:=by simp
 obj:=λi h st b hb=>by
  have e:b=it:=by simpa using hb
  subst e
  exact⟨_,st,λv z=>by
   have z':Data.fields _=Data.cell v:=z;cases z'⟩
 keep:=λi h h' st k=>k it (by simp) _ st
 item:=by
  intro X hP hw hK hc i pins s Y H E I hf st hg;subst hP hw hK;obtain⟨f0,f1,f2,f3,f4,f5⟩:=hf it (by simp);have W:=Walks.range (prog:=X.prog) (w:=X.w) (I.ok.hd hc) it lo 1 n;refine W.item i s _ _ hg st λv h' tk hv st' kk=>?_;obtain⟨t,rfl⟩:=hv;have I1:Inv X pins Y H { s with heap:=h',toks:=tk }:=I.turned (λb o hb e=>kk b o (by simpa using hb) e) f0 f1 f3 f4 f5;refine⟨_,rfl,nQ (s:={ s with heap:=h',toks:=tk }) (n:="range_iterator") st' rfl rfl (by decide) ⟨.int (lo+i),H,I1,⟨t,?_⟩,⟨rfl,rfl⟩,st',λb hb=>(hf b hb).1⟩⟩;rw[Int.mul_one]
 done:=by
  intro X hP hw hK hc i pins s Y H E I hf st hg;subst hP hw hK;obtain⟨f0,f1,f2,f3,f4,f5⟩:=hf it (by simp);exact wpAny_pyNext_range_end (I.ok.hd hc) st (by have:n<=i:=hg;lia) λh' eb=>⟨rfl,I.turned (t':=s.toks) (λb o hb e=>eb b o hb e) f0 f1 f3 f4 f5⟩
 self:=λ_ _ _ _ _ st h=>wpAny_pyIter_rangeiter st h
end L2
namespace L2
open PySem PySem.Spec PyProof.Rows
section
variable {X:Cx} {tg:P9}
noncomputable def FZ(K:Mz)(tl:TE):TI:=λY H R=>tl Y H λx H1=>∃a,x=.ref a/\(∃xs,SqL K H1 a xs)/\R (FG K a) H1
noncomputable def JG(K:Mz)(tl:TE):TI:=λY H R=>tl Y H λx H1=>∃a,x=.ref a/\(∃xs,SqT K H1 a xs)/\R (JF K a) H1
theorem yX{l:P9}{tl:TE}(hl:PE X l tl):PI X tg l (FZ X.K tl):=by
 intro pins s Y H R I h;refine aV (hl pins s Y H _ I h) λv s1 ⟨x,H1,I1,r1,q1⟩=>?_;obtain⟨a,e,⟨xs,hq⟩,q⟩:=q1;subst e;cases r1;obtain⟨its,rv,p,hz⟩:=I1.list hq;refine QA p.isList ?_;refine⟨s1.heap.objs.size,[s1.heap.objs.size],_,_,H1,rfl,I1.kept (t':=s1.toks) λb o e=>MC _ e,uo a _,⟨_,MP _ rfl,rfl,rfl⟩,λb hb=>?_,q⟩;have e:b=s1.heap.objs.size:=by simpa using hb
 subst e;exact I1.fpOk (MH _) (I1.hok.fresh (MH _))
theorem CH{l:P9}{tl:TE}(hl:PE X l tl):PI X tg l (JG X.K tl):=by
 intro pins s Y H R I h;refine aV (hl pins s Y H _ I h) λv s1 ⟨x,H1,I1,r1,q1⟩=>?_;obtain⟨a,e,⟨xs,hq⟩,q⟩:=q1;subst e;cases r1;obtain⟨its,rv,p,hz⟩:=I1.tuple hq;refine wpAny_pyIter_tuple (show s1.heap.IsTuple a its.toArray from p) ?_;refine⟨s1.heap.objs.size,[s1.heap.objs.size],_,_,H1,rfl,I1.kept (t':=s1.toks) λb o e=>MC _ e,pW a _,⟨_,MP _ rfl,rfl,rfl⟩,λb hb=>?_,q⟩;have e:b=s1.heap.objs.size:=by simpa using hb
 subst e;exact I1.fpOk (MH _) (I1.hok.fresh (MH _))
theorem nR{s:Qd}{R:It->Hp->Prop}{lo hi:Int}{tk:Nat}(I:Inv X pins Y H s)(h1:-(2^62)<=lo)(h2:lo<2^62)(h3:-(2^62)<=hi)(h4:hi<2^62)(q:R (FY lo (hi-lo).toNat) H):Qf (Qg X.prog X.w) X.A (pyIter (.ref s.heap.objs.size)) (JE X pins Y tg R) E { s with heap:=s.heap.push { cls:=.type "range",data:=.fields #[.int lo t,.int hi u,.int 1 v] },toks:=tk }:=by
 refine wpAny_pyIter_range (IsRange.new ..) (small_one h1 h2 h3 h4) ?_;have I1:Inv X pins Y H { s with heap:=s.heap.push { cls:=.type "range",data:=.fields #[.int lo t,.int hi u,.int 1 v] },toks:=tk }:=I.kept λb o e=>MC _ e
 refine⟨(s.heap.push { cls:=.type "range",data:=.fields #[.int lo t,.int hi u,.int 1 v] }).objs.size,[(s.heap.push { cls:=.type "range",data:=.fields #[.int lo t,.int hi u,.int 1 v] }).objs.size],_,_,H,rfl,
  I1.kept (t':=tk) λb o e=>MC _ e,pX _ lo (hi-lo).toNat,?_,λb hb=>?_,q⟩
 ·have e1:lo+((0:Nat):Int)*1=lo:=by simp
  have e2:(((hi-lo).toNat:Nat):Int)-((0:Nat):Int)=Builtin.Range.rangeSize lo hi 1:=by rw[rangeSize_one];split<;>lia
  show IsRangeIter _ _ (lo+((0:Nat):Int)*1) ((((hi-lo).toNat:Nat):Int)-((0:Nat):Int)) 1;rw[e1,e2];exact MP _ rfl
 ·have e:b=(s.heap.push { cls:=.type "range",data:=.fields #[.int lo t,.int hi u,.int 1 v] }).objs.size:=by simpa using hb
  subst e;exact I1.fpOk (MH _) (I1.hok.fresh (MH _))
noncomputable def F5(ta:TA):TI:=λY H R=>ta Y H λvs H1=>∃j:Int,vs=[.int j]/\-(2^62)<=j/\j<2^62/\R (FY 0 j.toNat) H1
noncomputable def Ga(ta:TA):TI:=λY H R=>ta Y H λvs H1=>∃i j:Int,vs=[.int i,.int j]/\(-(2^62)<=i/\i<2^62/\-(2^62)<=j/\j<2^62)/\R (FY i (j-i).toNat) H1
theorem li{a:P9}{ta:TA}{p pos:Pos}(hg:Gl X "range")(hm:X.mg "range" = P7)(ha:PA X [a] ta)(hs:Qm [a] X.env=[(Qb,eval a X.env)]:=by rfl):PI X tg (.Call (.Name "range" p) [a] [] pos) (F5 ta):=by
 intro pins s Y H R I h;refine Call_ (c0 I hg hm boot_range (PyProof.Rows.callWith_type1 (aV (ha pos pins s Y H _ I h) λus s1 ⟨vs,H1,I1,r1,q1⟩=>?_) hs rfl));obtain⟨j,e,q1,q2,q⟩:=q1;subst e
 cases r1 with
 |cons r rr=>
  cases rr;obtain⟨t,rfl⟩:=r;exact call_range_1 (nR I1 (by lia) (by lia) q1 q2 (by simpa using q))
theorem uq{a b:P9}{ta:TA}{p pos:Pos}(hg:Gl X "range")(hm:X.mg "range" = P7)(ha:PA X [a,b] ta)(hs:Qm [a,b] X.env=[(Qb,eval a X.env),(Qb,eval b X.env)]:=by rfl)(hs2:Qm [b] X.env=[(Qb,eval b X.env)]:=by rfl) :
  PI X tg (.Call (.Name "range" p) [a,b] [] pos) (Ga ta):=by
 intro pins s Y H R I h;refine Call_ (c0 I hg hm boot_range (PyProof.Rows.callWith_type1 (aV (ha pos pins s Y H _ I h) λus s1 ⟨vs,H1,I1,r1,q1⟩=>?_) (by rw[hs,hs2]) (by rw[hs2];rfl)));obtain⟨i,j,e,⟨q1,q2,q3,q4⟩,q⟩:=q1;subst e
 cases r1 with
 |cons r rr=>
  cases rr with
  |cons r' rr=>
   cases rr;obtain⟨t,rfl⟩:=r;obtain⟨t',rfl⟩:=r';exact call_range_2 (nR I1 q1 q2 q3 q4 q)
noncomputable def JH(wi:TI)(g:TG)(tb:TS):TS:=λD Y H=>wi Y H λJ H1=>∃W:Nat->Nat->St->Hp->Prop,(∃m,W 0 m Y H1)/\∀i m Y H,W i m Y H->
 (J.stop i H/\D.nx Y H)\/(J.go i H/\∃N:St->Hp->Prop,(∀Y' H',N Y' H'->∃m',m'<m/\W (i+1) m' Y' H')/\∀x H',J.yld i H x H'->g x Y H' λY2 H2=>tb { D with nx:=N,ct:=N,bk:=D.nx } Y2 H2)
noncomputable def l5(fp:List Qc)(h:Qn):List (Qc×Obj):=fp.filterMap λb=>(h.get? b).map λo=>(b,o)
theorem ba{fp:List Qc}{h:Qn}(hb:b∈fp)(e:h.get? b=P6 o):(b,o)∈l5 fp h:=OB.mpr ⟨b,hb,by rw[e];rfl⟩
theorem ur{fp:List Qc}{h:Qn}{p:Qc×Obj}(hp:p∈l5 fp h):p.1∈fp/\h.get? p.1=P6 p.2:=by
 obtain⟨b,hb,e⟩:=OB.mp hp
 cases q:h.get? b with
 |none=>rw[q] at e;cases e
 |some o=>
  rw[q] at e;have e':(b,o)=p:=Option.some.inj e;subst e';exact⟨hb,q⟩
theorem Inv.pinned{pins:List (Qc×Obj)}{s:Qd}{fp:List Qc}(I:Inv X pins Y H s)(hf:∀b∈fp,gw X pins H b)(ho:∀b∈fp,∃o,s.heap.get? b=P6 o/\∀v,o.data≠.cell v):Inv X (pins++l5 fp s.heap) Y H s:=
 I.pins_of λp hp=>(NR.mp hp).elim (λz=>I.pin p (MN _ z)) λz=>by
  obtain⟨hb,e⟩:=ur z;obtain⟨f0,f1,f2,_⟩:=hf p.1 hb;obtain⟨o,e',d⟩:=ho p.1 hb;rw[e] at e';cases e';exact⟨e,f0,f1,f2,d⟩
theorem Inv.unpinned{pins pl:List (Qc×Obj)}(I:Inv X (pins++pl) Y H s):Inv X pins Y H s:=I.pins_of λp hp=>I.pin p (MN _ (N8 _ hp))
theorem CI{iter:P9}{body:List Ql}{wi:TI}{g:TG}{tb:TS}{pos:Pos}(hp:PassesOwn (Qg X.prog X.w) X.A X.env X.xe)(hc:X.calm=P8)(hi:PI X tg iter wi)(hg:PG X tg g)(hb:PSs X body tb)
  (hs:∀x,foldedSetIterable iter X.env x=pure x:=by intro _;rfl):PS X (.For tg iter body [] pos) (JH wi g tb):=by
 intro pins s Y H D I h;refine wpAny_For (aV (hi pins s Y H _ I h) λv s1 h1=>aV h1 λitv s2 h2=>?_) hs;obtain⟨it,fp,tn,J,H2,e,I2,T,st2,f2,W,⟨m0,w0⟩,turn⟩:=h2;subst e
 -- what stays P8 of the iterator's objects through the loop
 have stat:∀{H':Hp},(∀b∈fp,H' b=P7)->∀b∈fp,gw X pins H' b:=λhn b hb=>⟨hn b hb,(f2 b hb).2⟩;refine codeAny_forLoop_any (λn s'=>∃i Y' H',Inv X pins Y' H' s'/\tn i s'.heap/\(∀b∈fp,H' b=P7)/\W i n Y' H') ?_ m0 ⟨0,Y,H2,I2,st2,λb hb=>(f2 b hb).1,w0⟩
 rintro n s3 ⟨i,Y3,H3,I3,st3,fr3,w3⟩
 rcases turn i n Y3 H3 w3 with⟨stop,qn⟩|⟨go,N,hN,step⟩
 ·refine Qy hp (aV (T.done X rfl rfl rfl hc i pins s3 Y3 H3 X.xe I3 (stat fr3) st3 stop) λr s4 ⟨hr,I4⟩=>?_);subst hr;exact wpAny_execs_nil ⟨Y3,H3,I4,qn⟩
 ·refine Qy hp (aV (T.item X rfl rfl rfl hc i pins s3 Y3 H3 X.xe I3 (stat fr3) st3 go) λr s4 ⟨u,hr,h4⟩=>?_);subst hr;refine Qy hp (aV h4 λ_ s5 ⟨x,H5,I5,r5,y5,st5,fr5⟩=>?_);have I5':=I5.pinned (stat fr5) (T.obj _ _ st5);refine Qy hp (aV (hg _ s5 Y3 H5 x u _ I5' r5 (step x H5 y5)) λ_ s6 ⟨Y6,H6,I6,q6⟩=>?_);refine Qy hp (aV (hb _ s6 Y6 H6 _ I6 q6) λf s7 q7=>?_)
  have again:∀{Y7:St} {H7:Hp},Inv X (pins++l5 fp s5.heap) Y7 H7 s7->N Y7 H7->∃m,m<n/\∃i Y' H',Inv X pins Y' H' s7/\tn i s7.heap/\(∀b∈fp,H' b=P7)/\W i m Y' H':=λ{Y7 H7} I7 n7=>by
   obtain⟨m',hm,w7⟩:=hN Y7 H7 n7;refine⟨m',hm,i+1,Y7,H7,I7.unpinned,T.keep _ _ _ st5 λb hb o e=>(I7.pin (b,o) (MN _ (MN _ (ba hb e)))).1,λb hb=>?_,w7⟩;obtain⟨o,e,d⟩:=T.obj _ _ st5 b hb;exact(I7.pin (b,o) (MN _ (MN _ (ba hb e)))).2.1
  cases f with
  |next=>obtain⟨Y7,H7,I7,n7⟩:=q7;exact again I7 n7
  |cont=>obtain⟨Y7,H7,I7,n7⟩:=q7;exact again I7 n7
  |brk=>obtain⟨Y7,H7,I7,q7⟩:=q7;exact⟨Y7,H7,I7.unpinned,q7⟩
  |ret v=>obtain⟨x7,Y7,H7,I7,r7,q7⟩:=q7;exact⟨x7,Y7,H7,I7.unpinned,r7,q7⟩
end
end L2
namespace L2
open PySem PySem.Spec PyProof.Rows
noncomputable abbrev R2:=V->V->Hp->VK->Prop
noncomputable def jh(X:Cx)(f:Qa->Qa->Sem Qa)(r:R2):Prop:=
 ∀(pins:List (Qc×Obj)) (s:Qd) (Y:St) (H:Hp) (x y:V) (v u:Qa) (Q:VK),Inv X pins Y H s->RelV x v->RelV y u->r x y H Q->
  Qf (Qg X.prog X.w) X.A (f v u) (EP X pins Y Q) X.xe s
noncomputable def eN(X:Cx)(f:Qa)(r:List V->Hp->VK->Prop):Prop:=
 ∀(pins:List (Qc×Obj)) (s:Qd) (Y:St) (H:Hp) (xs:List V) (us:List Qa) (Q:VK),Inv X pins Y H s->Vals xs us->r xs H Q->
  Qf (Qg X.prog X.w) X.A (call f us) (EP X pins Y Q) X.xe s
noncomputable def JI(X:Cx)(r:V->Hp->(Bool->Hp->Prop)->Prop):Prop:=
 ∀(pins:List (Qc×Obj)) (s:Qd) (Y:St) (H:Hp) (x:V) (v:Qa) (Q:Bool->Hp->Prop),Inv X pins Y H s->RelV x v->r x H Q->
  Qf (Qg X.prog X.w) X.A (truthy v) (TP X pins Y Q) X.xe s
noncomputable def IU(r:R2)(ta tb:TE):TE:=λY H Q=>ta Y H λx H1=>tb Y H1 λy H2=>r x y H2 Q
noncomputable def rI(C:Int->Int->Prop)(g:Int->Int->V):R2:=λx y H Q=>∃i j,x=.int i/\y=.int j/\C i j/\Q (g i j) H
noncomputable def yY(g:Int->Int->V):R2:=λx y H Q=>∃i j,x=.int i/\y=.int j/\Q (g i j) H
section
variable {X:Cx} {a b c:P9} {ta tb tc:TE} {pos:Pos}
theorem CJ(ha:PE X a ta)(hb:PE X b tb){pins:List (Qc×Obj)}{s:Qd}{Y:St}{H:Hp}{R:V->V->Hp->Prop}(I:Inv X pins Y H s)
  (h:ta Y H λx H1=>tb Y H1 λy H2=>R x y H2) {Q:Qa->Qd->Prop} {f:Qa->Qa->Sem Qa}
  (hf:∀v u s2 x y H2,Inv X pins Y H2 s2->RelV x v->RelV y u->R x y H2->Qf (Qg X.prog X.w) X.A (f v u) Q X.xe s2) :
  Qf (Qg X.prog X.w) X.A (eval a X.env) (λv s₁=>Qf (Qg X.prog X.w) X.A (eval b X.env) (λu s₂=>Qf (Qg X.prog X.w) X.A (f v u) Q X.xe s₂) X.xe s₁) X.xe s:=by
 refine aV (ha pins s Y H _ I h) λv s1 ⟨x,H1,I1,r1,q1⟩=>?_;refine aV (hb pins s1 Y H1 _ I1 q1) λu s2 ⟨y,H2,I2,r2,q2⟩=>?_;exact hf v u s2 x y H2 I2 r1 r2 q2
theorem Bl(ho:jh X (binaryOp op) r)(ha:PE X a ta)(hb:PE X b tb):PE X (.BinOp a op b pos) (IU r ta tb):=by
 intro pins s Y H Q I h;exact wpAny_BinOp (CJ ha hb I h λv u s2 x y H2 I2 rx ry q=>ho pins s2 Y H2 x y v u Q I2 rx ry q)
theorem FH{f:Qa->Qa->Sem Qa}{C:Int->Int->Prop}{g:Int->Int->Int}
  (rule:∀(i j:Int) (t u:Tok) (s:Qd) (Q:Qa->Qd->Prop) (E:Qa->Qd->Prop),C i j->Q (.int (g i j) s.toks) { s with toks:=s.toks+1 }->Qf (Qg X.prog X.w) X.A (f (.int i t) (.int j u)) Q E s) :
  jh X f (rI C λi j=>.int (g i j)):=by
 intro pins s Y H x y v u Q I rx ry h;obtain⟨i,j,rfl,rfl,hc,q⟩:=h;obtain⟨t,rfl⟩:=rx;obtain⟨t',rfl⟩:=ry;exact rule i j t t' s _ _ hc ⟨.int (g i j),H,I.tok _,⟨_,rfl⟩,q⟩
theorem vK{f:Qa->Qa->Sem Qa}{g:Int->Int->Int}
  (rule:∀(i j:Int) (t u:Tok) (s:Qd) (Q:Qa->Qd->Prop) (E:Qa->Qd->Prop),Q (.int (g i j) s.toks) { s with toks:=s.toks+1 }->Qf (Qg X.prog X.w) X.A (f (.int i t) (.int j u)) Q E s) :
  jh X f (yY λi j=>.int (g i j)):=by
 intro pins s Y H x y v u Q I rx ry h;obtain⟨i,j,rfl,rfl,q⟩:=h;obtain⟨t,rfl⟩:=rx;obtain⟨t',rfl⟩:=ry;exact rule i j t t' s _ _ ⟨.int (g i j),H,I.tok _,⟨_,rfl⟩,q⟩
theorem Gb{f:Qa->Qa->Sem Qa}{g:Int->Int->Bool}
  (rule:∀(i j:Int) (t u:Tok) (s:Qd) (Q:Qa->Qd->Prop) (E:Qa->Qd->Prop),Q (.bool (g i j)) s->Qf (Qg X.prog X.w) X.A (f (.int i t) (.int j u)) Q E s) :
  jh X f (yY λi j=>.bl (g i j)):=by
 intro pins s Y H x y v u Q I rx ry h;obtain⟨i,j,rfl,rfl,q⟩:=h;obtain⟨t,rfl⟩:=rx;obtain⟨t',rfl⟩:=ry;exact rule i j t t' s _ _ ⟨.bl (g i j),H,I,rfl,q⟩
noncomputable def JJ(i j:Int):Prop:=0<=j/\j<=1000000/\i.natAbs<2^64
theorem pY(k:Nat):(0:Int)<=2^k:=by
 rw[two_pow_cast];exact Int.natCast_nonneg _
theorem CK:jh X (binaryOp .Add) (yY λi j=>.int (i+j)):=vK λ_ _ _ _ _ _ _ q=>add_int q
theorem CL:jh X (binaryOp .Sub) (yY λi j=>.int (i-j)):=vK λ_ _ _ _ _ _ _ q=>sub_int q
theorem CM:jh X (binaryOp .Mod) (rI (λ_ j=>0<j) λi j=>.int (i%j)):=FH λi j _ _ _ _ _ hc q=>by
 have h1:(0:Int)<j:=hc;exact mod_int' (by lia) (by rw[Int.fmod_eq_emod_of_nonneg i (by lia)];exact q)
theorem CN:jh X (binaryOp .Pow) (rI JJ λi j=>.int (i^j.toNat)):=FH λ_ _ _ _ _ _ _ hc q=>pow_int_small hc.1 hc.2.1 hc.2.2 q
theorem CP:jh X (binaryOp .RShift) (rI (λ_ j=>0<=j) λi j=>.int (i / 2^j.toNat)):=FH λi j _ _ _ _ _ hc q=>
 rshift_int hc (by rw[OI i (pY _)];exact q)
theorem CQ:jh X (binaryOp .BitAnd) (yY λi j=>.int (Builtin.bitAnd i j)):=vK λ_ _ _ _ _ _ _ q=>and_int q
theorem Gc:jh X (binaryOp .BitOr) (yY λi j=>.int (Builtin.bitOr i j)):=vK λ_ _ _ _ _ _ _ q=>or_int q
theorem CS:jh X (binaryOp .BitXor) (yY λi j=>.int (Builtin.bitXor i j)):=vK λ_ _ _ _ _ _ _ q=>xor_int q
end
section
variable {X:Cx} {a b c:P9} {ta tb tc:TE} {pos:Pos}
theorem Gd:jh X (compareOp .Lt) (yY λi j=>.bl (decide (i<j))):=Gb λ_ _ _ _ _ _ _ q=>lt_int q
theorem Ge:jh X (compareOp .Gt) (yY λi j=>.bl (decide (j<i))):=Gb λ_ _ _ _ _ _ _ q=>gt_int q
theorem rQ{op:Qu}{r:R2}(ho:jh X (compareOp op) r)(ha:PE X a ta)(hb:PE X b tb)(hm:Qs op b=Qb):PE X (.Compare a [op] [b] pos) (IU r ta tb):=by
 intro pins s Y H Q I h;exact wpAny_Compare1 (CJ ha hb I h λv u s2 x y H2 I2 rx ry q=>ho pins s2 Y H2 x y v u Q I2 rx ry q) hm
noncomputable def Gf(t:TE):TT:=λY H Q=>t Y H λx H'=>∃k,x=.bl k/\Q k H'
theorem rR{op:Qu}(ho:jh X (compareOp op) r)(ha:PE X a ta)(hb:PE X b tb)(hm:Qs op b=Qb):PT X (.Compare a [op] [b] pos) (Gf (IU r ta tb)):=by
 intro pins s Y H Q I h
 refine wpAny_isTrue_Compare1 (aV (ha pins s Y H _ I h) λv s1 ⟨x,H1,I1,r1,q1⟩=>aV (hb pins s1 Y H1 _ I1 q1) λu s2 ⟨y,H2,I2,r2,q2⟩=>
  aV (ho pins s2 Y H2 x y v u _ I2 r1 r2 q2) λc s3 ⟨z,H3,I3,r3,k,e,q3⟩=>?_) hm
 subst e;cases r3;exact Qz ⟨H3,I3,q3⟩
noncomputable def yZ(K:Mz)(x:V)(H:Hp)(k:Bool):Prop:=
 match x with
 |.bl b=>k=b
 |_=>False
theorem il:(sizeLine:Nat)<2^63:=by rw[sizeLine_eq];decide
theorem fW:JI X (λx H Q=>∃k,yZ X.K x H k/\Q k H):=by
 intro pins s Y H x v Q I rx h;obtain⟨k,e,q⟩:=h
 cases x with
 |bl b=>
  cases rx;have e':k=b:=e;subst e';exact Qz ⟨H,I,q⟩
 |_=>exact e.elim
theorem vL(ha:PE X a ta)(he:∀whole,isTrue a X.env whole=(do let v <- whole;standAt a.pos;holding [v] (truthy v))) :
  PT X a (λY H Q=>ta Y H λx H'=>∃k,yZ X.K x H' k/\Q k H'):=by
 intro pins s Y H Q I h;exact isTrue_plain (aV (ha pins s Y H _ I h) λv s1 ⟨x,H1,I1,r1,q1⟩=>fW pins s1 Y H1 x v Q I1 r1 q1) (he _)
theorem p0:jh X (binaryOp .Add) (λx y H Q=>∃i j,x=.str i/\y=.str j/\i.length+j.length<=sizeLine/\Q (.str (i++j)) H):=by
 intro pins s Y H x y v u Q I rx ry h;obtain⟨i,j,rfl,rfl,hz,q⟩:=h;obtain⟨t,rfl⟩:=rx;obtain⟨t',rfl⟩:=ry;exact add_str (λt' tk=>⟨.str (i++j),H,I.tok _,⟨_,rfl⟩,q⟩) hz
theorem jO{x:V}(r:Vals [x] us):∃u,us=[u]/\RelV x u:=by
 cases r with
 |cons r1 r2=>cases r2;exact⟨_,rfl,r1⟩
theorem vM(r:Vals [x,y] us):∃u w',us=[u,w']/\RelV x u/\RelV y w':=by
 cases r with
 |cons r1 r2=>
  cases r2 with
  |cons r3 r4=>cases r4;exact⟨_,_,rfl,r1,r3⟩
theorem ut(hc:X.calm=P8):eN X (.builtin "max") (λxs H Q=>∃i j,xs=[.int i,.int j]/\Q (.int (if j > i then j else i)) H):=by
 intro pins s Y H xs us Q I r h;obtain⟨i,j,rfl,q⟩:=h;obtain⟨u,w',rfl,⟨t,rfl⟩,⟨t',rfl⟩⟩:=vM r;refine max_two_ints (I.ok.hd hc) λh' tk k=>⟨_,H,I.kept k,?_,q⟩;by_cases hj:j > i
 ·rw[if_pos hj,if_pos hj];exact⟨_,rfl⟩
 ·rw[if_neg hj,if_neg hj];exact⟨_,rfl⟩
theorem uu(hc:X.calm=P8):eN X (.builtin "min") (λxs H Q=>∃i j,xs=[.int i,.int j]/\Q (.int (if j<i then j else i)) H):=by
 intro pins s Y H xs us Q I r h;obtain⟨i,j,rfl,q⟩:=h;obtain⟨u,w',rfl,⟨t,rfl⟩,⟨t',rfl⟩⟩:=vM r;refine min_two_ints (I.ok.hd hc) λh' tk k=>⟨_,H,I.kept k,?_,q⟩;by_cases hj:j<i
 ·rw[if_pos hj,if_pos hj];exact⟨_,rfl⟩
 ·rw[if_neg hj,if_neg hj];exact⟨_,rfl⟩
end
end L2
namespace L2
open PySem PySem.Spec PyProof.Rows
structure ObjM(h:Heap)(x dx C:Addr)(mA:Str->Option Value):Prop where
 obj:h.get? x=P6 (NF C dx)
 ns:h.Ns1 dx mA
 ne:dx≠x
theorem uw{h:Qn}{mA:Str->Option Qa}(n:h.Ns1 dx mA):∃od,h.get? dx=P6 od/\∀name,Ph name od=P6 (mA name):=by
 obtain⟨o,es,ep,ho,hd,hk,_,hm⟩:=n;refine⟨o,ho,λname=>?_⟩;have e:=hm name;unfold nsFind findBy at e;rw[<- Array.find?_toList] at e;unfold Ph;rw[hd];dsimp only;split
 ·rename_i y q;rw[q] at e;exact congrArg P6 e
 ·rename_i q;rw[q] at e
  have a:es.toList.any (·.refKey)=Qb:=by
   rw[PK];intro y hy;obtain⟨z,t,hkey⟩:=hk y (Array.mem_toList_iff.mp hy);simp[DictEntry.refKey,hkey]
  have a':¬es.toList.any (·.refKey)=P8:=by rw[a];exact NA
  rw[if_neg a'];exact congrArg P6 e
theorem ObjM.look{mA:Str->Option Qa}(I:ObjM h x dx C mA):∃od,PySem.W.InstAt h x (NF C dx) C (P6 od)/\∀name,Ph name od=P6 (mA name):=
 let ⟨od,ho,hl⟩:=uw I.ns
 ⟨od,⟨I.obj,rfl,rfl,ho⟩,hl⟩
section
variable {prog:Qi} {w:Qj} {A:Qk} {E:Qa->Qd->Prop} {s:Qd} {K:Mz} {x dx C f:Qc} {mA:Str->Option Qa} {name:Str} {v:Qa}
theorem y3{expr:Bool}{Q:Qa->Qd->Prop}(X:K.In s.heap)(I:ObjM s.heap x dx C mA)(hg:OW K C name=P8)(hh:ON K C=P8)
  (ha:NB K (.ref C) name=P6 P7) (hv:mA name=P6 v) (hv':PV v=P8) (h:Q v { s with toks:=s.toks+1 }) :
  Qf (Qg prog w) A (getAttr (.ref x) name expr) Q E s:=by
 obtain⟨od,J,hl⟩:=I.look;exact PySem.W.get_value X J (PySem.W.plainGet_of hg).1 (PySem.W.findObj_own hh ha rfl (by rw[hl,hv])) hv' h
theorem y4{ns:List Str}{Q:Unit->Qd->Prop}(X:K.In s.heap)(I:ObjM s.heap x dx C mA)
  (hs:NB K (.ref C) "__setattr__" = P6 (P6 (.builtin "object.__setattr__"))) (hp:PL K C=P8) (ht:O7 K C name=P6 P7) (hh:ON K C=P8)
  (hw:PySem.Within mA ns) (hsz:ns.length<=sizeLine)
  (h:∀h',ObjM h' x dx C (λy=>if y=name then P6 v else mA y)->Heap.SameBut dx s.heap h'->Q () { s with heap:=h',toks:=s.toks+2 }) :
  Qf (Qg prog w) A (setAttr (.ref x) name v) Q E s:=by
 obtain⟨od,J,hl⟩:=I.look;refine PySem.W.set_plain X J hs (PySem.W.osa_open (s:={ s with toks:=s.toks+1 }) (r:=P7) X J hp ht λb=>?_);obtain⟨cd,hc,hd'⟩:=PySem.W.any_some hh;have hx:s.heap.get? x=P6 ⟨.ref C,P6 dx,.plain,#[]⟩:=I.obj;refine Qe (Qh (Qe (Qe (wpAny_loadPart hx (Qe (PySem.W.Looks.here (s:={ s with toks:=s.toks+1 }) (PySem.W.looks_clsIn X hc) ?_))))));rw[hd'];refine Qh (a:=P6 dx) (Qe (Qh (Qe ?_)));refine wpAny_nsSet1 (s:={ s with toks:=s.toks+1 }) I.ns λh' hn2 hs2=>?_;obtain⟨oD,esD,epD,hoD,hdD,hcD⟩:=hn2.count (PySem.Within.cons name v hw);refine Qe (wpAny_lookBehind hoD (by rw[hdD];exact pastItsLine_dict (M0 hcD (by rw[MY];lia))) ?_);exact Qh (h _ ⟨(hs2.2 _ (Ne.symm I.ne)).trans I.obj,hn2,I.ne⟩ hs2)
theorem vN(X:K.In s.heap)(hm:P4 K C=P8)(hi:NB K (.ref C) "__init__" = P6 (P6 (.ref f)))(hf:PySem.W.typeIn K (.ref f)=P6 (.type "function"))(h:codeAny (Qg prog w) (A.under (.builtin "type.__call__" ⟨.ref C::vs,kw⟩)) (.call (.ref f) ⟨.ref (s.heap.objs.size+1)::vs,kw⟩) (PySem.W.InitBack (s.heap.objs.size+1) R)
   { s with heap:=(s.heap.push Nn).push (NF C s.heap.objs.size) }) :
  codeAny (Qg prog w) A (.call (.ref C) ⟨vs,kw⟩) R s:=by
 obtain⟨hh,g,d,t,os⟩:=s;exact PySem.W.make_core (PySem.W.makes_of X hm) (PySem.W.looks_findIn X hi) (λself=>PySem.W.bind_fn X self hf) (.inl rfl) h
end
noncomputable def putF(f:Str)(v:V):List (Str×V)->List (Str×V)
 |[]=>[(f,v)]
 |(g,x)::r=>if g=f then(g,v)::r else(g,x)::putF f v r
theorem iW(f g:Str)(v:V):∀fs:List (Str×V),(putF f v fs).lookup g=if g=f then P6 v else fs.lookup g
 |[]=>by
  show Ny g [(f,v)]=_;by_cases h:g=f
  ·have hb:(g==f)=P8:=beq_iff_eq.mpr h;simp only[Ny,hb,if_pos h]
  ·have hb:(g==f)=Qb:=beq_eq_false_iff_ne.mpr h;simp only[Ny,hb,if_neg h]
 |(k,x)::r=>by
  have ih:=iW f g v r
  rw[show putF f v ((k,x)::r)=(if k=f then(k,v)::r else(k,x)::putF f v r) from rfl]
  by_cases hk:k=f
  ·rw[if_pos hk];by_cases h:g=k
   ·have hb:(g==k)=P8:=beq_iff_eq.mpr h;simp only[Ny,hb,if_pos (h.trans hk)]
   ·have hb:(g==k)=Qb:=beq_eq_false_iff_ne.mpr h;simp only[Ny,hb,if_neg (λe:g=f=>h (e.trans hk.symm))]
  ·rw[if_neg hk];by_cases h:g=k
   ·have hb:(g==k)=P8:=beq_iff_eq.mpr h;simp only[Ny,hb,if_neg (λe:g=f=>hk (h.symm.trans e))]
   ·have hb:(g==k)=Qb:=beq_eq_false_iff_ne.mpr h;simp only[Ny,hb];exact ih
theorem ip(f:Str)(v:V):∀fs:List (Str×V),f∈(putF f v fs).map (·.1)/\∀g,g∈fs.map (·.1)->g∈(putF f v fs).map (·.1)
 |[]=>⟨by simp[putF],λg h=>by simp at h⟩
 |(k,x)::r=>by
  obtain⟨i1,i2⟩:=ip f v r
  rw[show putF f v ((k,x)::r)=(if k=f then(k,v)::r else(k,x)::putF f v r) from rfl]
  by_cases hk:k=f
  ·rw[if_pos hk];subst hk;exact⟨by simp,λg h=>by simpa using h⟩
  ·rw[if_neg hk];refine⟨?_,λg h=>?_⟩
   ·rw[MU];exact MS _ i1
   ·rw[MU] at h⊢;rcases ML.mp h with e|e
    ·exact ML.mpr (.inl e)
    ·exact MS _ (i2 g e)
theorem iX(f:Str)(v:V):∀fs:List (Str×V),(putF f v fs).length<=fs.length+1
 |[]=>by simp[putF]
 |(k,x)::r=>by
  have ih:=iX f v r
  rw[show putF f v ((k,x)::r)=(if k=f then(k,v)::r else(k,x)::putF f v r) from rfl]
  by_cases hk:k=f
  ·rw[if_pos hk,MY,MY];lia
  ·rw[if_neg hk,MY,MY];lia
theorem RelO.some_of(r:RelO (P6 v) o):∃u,o=P6 u/\RelV v u:=by
 cases o with
 |none=>exact(show False from r).elim
 |some u=>exact⟨u,rfl,r⟩
theorem ux(r:RelV v u):PV u=P8:=by
 cases v with
 |non=>cases(show u=Value.none from r);rfl
 |bl b=>cases(show u=Value.bool b from r);rfl
 |int i=>obtain⟨t,e⟩:=(show ∃t,u=Value.int i t from r);cases e;rfl
 |str x=>obtain⟨t,e⟩:=(show ∃t,u=Value.str x t from r);cases e;rfl
 |byt b=>obtain⟨t,e⟩:=(show ∃t,u=Value.bytes b t from r);cases e;rfl
 |flt b=>obtain⟨t,e⟩:=(show ∃t,u=Value.float b t from r);cases e;rfl
 |ref a=>cases(show u=Value.ref a from r);rfl
 |ty n=>cases(show u=Value.type n from r);rfl
section
variable {P:Qi} {w:Qj} {H H':Hp} {h h':Qn} {a C dx:Qc} {fs fs':List (Str×V)}
theorem l6(hok:HOk P w H h)(e:H a=P6 (.ins C dx fs)):∃mA,ObjM h a dx C mA/\(∀f,RelO (fs.lookup f) (mA f))/\PySem.Within mA (fs.map (·.1))/\fs.length<=1000/\H dx=P6 (.own a):=by
 obtain⟨d,z,ne,ob,mA,n,r,q⟩:=(show ObjOk P w H h a (.ins C dx fs) from hok a _ e);exact⟨mA,⟨ob,n,ne⟩,r,q,z,d⟩
end
structure Cls(K:Mz)(C:Addr):Prop where
 pg:OW K C Str.empty=P8
 hd:ON K C=P8
 po:PL K C=P8
 sa:NB K (.ref C) "__setattr__" = P6 (P6 (.builtin "object.__setattr__"))
theorem Cls.get{K:Mz}{C:Qc}(c:Cls K C)(f:Str):OW K C f=P8:=c.pg
noncomputable def NoAttr(K:Mz)(C:Qc)(f:Str):Prop:=NB K (.ref C) f=P6 P7
theorem NoAttr.taker{K:Mz}{C:Qc}{f:Str}(n:NoAttr K C f):O7 K C f=P6 P7:=by
 unfold O7;rw[show NB K (.ref C) f=P6 P7 from n];rfl
section
variable {X:Cx} {pins:List (Qc×Obj)} {Y:St} {H:Hp} {s:Qd} {a C dx:Qc} {fs:List (Str×V)} {f:Str} {v:V} {A:Qk} {E:Qa->Qd->Prop}
theorem p6{b:Bool}{Q:Qa->Qd->Prop}(I:Inv X pins Y H s)(e:H a=P6 (.ins C dx fs))(c:Cls X.K C)(n:NoAttr X.K C f)(l:fs.lookup f=P6 v)
  (h:∀u s',Inv X pins Y H s'->RelV v u->Q u s'):Qf (Qg X.prog X.w) A (getAttr (.ref a) f b) Q E s:=by
 obtain⟨mA,O,r,_,_,_⟩:=l6 I.hok e;obtain⟨u,hu,ru⟩:=RelO.some_of (v:=v) (o:=mA f) (by rw[<- l];exact r f);exact y3 I.kIn O (c.get f) c.hd n hu (ux ru) (h u _ (I.tok _) ru)
theorem p7{Q:Unit->Qd->Prop}(I:Inv X pins Y H s)(e:H a=P6 (.ins C dx fs))(c:Cls X.K C)(n:NoAttr X.K C f)(hl:fs.length<1000)(ry:RelV y u)(h:∀s',Inv X pins Y (upd H a (.ins C dx (putF f y fs))) s'->Q () s'):Qf (Qg X.prog X.w) A (setAttr (.ref a) f u) Q E s:=by
 obtain⟨mA,O,r,wi,_,ho⟩:=l6 I.hok e;have hz:(fs.map (·.1)).length<=sizeLine:=by rw[MB,sizeLine_eq];lia
 refine y4 I.kIn O c.sa c.po n.taker c.hd wi hz λh' O' sb=>h _ ?_;have hd:∃o,h'.get? dx=P6 o:=let ⟨o,_,_,e',_⟩:=O'.ns;⟨o,e'⟩;refine I.write (x:=a) (e:=dx) (by rw[e];exact True.intro) (.inr ho) (λb q hb z=>(sb.2 b hb).trans z) hd ?_;refine⟨by rw[ad O.ne];exact ho,?_,O.ne,O'.obj,_,O'.ns,λg=>?_,λg hg=>?_⟩
 ·have:=iX f y fs;lia
 ·show RelO ((putF f y fs).lookup g) (if g=f then P6 u else mA g)
  rw[iW];by_cases q:g=f
  ·rw[if_pos q,if_pos q];exact ry
  ·rw[if_neg q,if_neg q];exact r g
 ·by_cases q:g=f
  ·rw[q];exact(ip f y fs).1
  ·refine(ip f y fs).2 g (wi g λz=>hg ?_)
   show(if g=f then P6 u else mA g)=P7
   rw[if_neg q];exact z
theorem Inv.made(I:Inv X pins Y H s):Inv X pins Y (upd (upd H s.heap.objs.size (.own (s.heap.objs.size+1))) (s.heap.objs.size+1) (.ins C s.heap.objs.size []))
  { s with heap:=(s.heap.push Nn).push (NF C s.heap.objs.size) }:=by
 have e1:(s.heap.push Nn).get? s.heap.objs.size=P6 Nn:=MP s.heap rfl
 have e2:((s.heap.push Nn).push (NF C s.heap.objs.size)).get? (s.heap.objs.size+1)=P6 (NF C s.heap.objs.size):=by
  have:=MP (s.heap.push Nn) (o:=NF C s.heap.objs.size) rfl;rwa [NC] at this
 have e3:(s.heap.push Nn).Ns s.heap.objs.size (λ_=>P7):=⟨Nn,#[],_,e1,rfl,(λe he=>absurd he (by simp)),λ_=>rfl⟩;have I1:=I.laid (a:=s.heap.objs.size) (o:=.own (s.heap.objs.size+1)) (h':=s.heap.push Nn) (t':=s.toks) (λb u q=>MC _ q) (MH _) ⟨_,e1⟩;refine I1.laid (a:=s.heap.objs.size+1) (o:=.ins C s.heap.objs.size []) (t':=s.toks) (λb u q=>MC _ q) (Nat.le_of_eq (NC _ _)) ?_;have ne:s.heap.objs.size≠s.heap.objs.size+1:=MM (Nz _);refine⟨by rw[ad ne,ai],M4 _,ne,e2,λ_=>P7,(Heap.Ns1.of_empty e3).at λo q=>MC _ q,λ_=>True.intro,λy hy=>absurd rfl hy⟩
theorem y6{f:Str}(hb:attributeBase e f env (eval e env)=eval e env)(h:Qf (Qg prog w) A (eval e env) (λo s₁=>Qf (Qg prog w) A (getAttr o f P8) Q E s₁) E s):Qf (Qg prog w) A (eval (.Attribute e f pos) env) Q E s:=
 Attribute_any_ h (by rw[arm_eval_Attribute,hb])
end
noncomputable def JK(K:Mz)(ta:TE)(f:Str):TE:=λY H Q=>ta Y H λx H1=>∃a C dx fs v,x=.ref a/\H1 a=P6 (.ins C dx fs)/\Cls K C/\NoAttr K C f/\fs.lookup f=P6 v/\Q v H1
noncomputable def JL(K:Mz)(ta tv:TE)(f:Str):TS:=λD Y H=>tv Y H λy H1=>ta Y H1 λx H2=>∃a C dx fs,x=.ref a/\H2 a=P6 (.ins C dx fs)/\Cls K C/\NoAttr K C f/\fs.length<1000/\
 D.nx Y (upd H2 a (.ins C dx (putF f y fs)))
section
variable {X:Cx} {o e value:P9} {f:Str} {pos pos' tpos:Pos} {ta tv:TE}
theorem vO(he:PE X e ta)(hb:attributeBase e f X.env (eval e X.env)=eval e X.env):PE X (.Attribute e f pos) (JK X.K ta f):=by
 intro pins s Y H Q I h;refine y6 hb (aV (he pins s Y H _ I h) λu s1 ⟨x,H1,I1,rx,a,C,dx,fs,v,ex,ea,c,n,l,q⟩=>?_);subst ex;obtain rfl:u=Value.ref a:=rx;exact p6 I1 ea c n l λu' s2 I2 ru=>⟨v,H1,I2,ru,q⟩
theorem CT(ha:PE X o ta)(hv:PE X value tv)(hs:swapsWith value (P6 (.Attribute o f pos')) pos.line X.env=pure Qb):PS X (.Assign [.Attribute o f pos'] value pos) (JL X.K ta tv f):=by
 intro pins s Y H D I h;refine plainObj_wpAny_Assign_Attribute (aV (hv pins s Y H _ I h) λu s1 ⟨y,H1,I1,ry,q⟩=>aV (ha pins s1 Y H1 _ I1 q) λov s2 ⟨x,H2,I2,rx,a,C,dx,fs,ex,ea,c,n,l,q2⟩=>?_) hs;subst ex;obtain rfl:ov=Value.ref a:=rx;exact p7 I2 ea c n l ry λs3 I3=>⟨Y,_,I3,q2⟩
end
section
variable {X:Cx} {pins:List (Qc×Obj)} {Y:St} {H:Hp} {s:Qd} {A:Qk} {E:Qa->Qd->Prop} {Q:Qa->Qd->Prop} {c:Qa} {b:Bool}
inductive gx (K:Mz) (H:Hp):V->Value->Prop where
 |bl (x:Bool):gx K H (.bl x) (.type "bool")
 |int (i:Int):gx K H (.int i) (.type "int")
 |lst {a:Qc} {xs:List V} (e:H a=P6 (.lst xs)):gx K H (.ref a) (.type "list")
theorem uy(I:Inv X pins Y H s)(rx:RelV x u)(ty:gx X.K H x t)(e:ND X.K t c=P6 b)(h:∀tk,Q (.bool b) { s with toks:=tk }) :
  Qf (Qg X.prog X.w) A (call (.builtin "isinstance") [u,c]) Q E s:=by
 cases ty with
 |bl y=>cases(show u=Value.bool y from rx);exact Ni PySem.W.kitx_bool I.kIn True.intro e (λz=>nomatch z) h
 |int i=>obtain⟨t,q⟩:=(show ∃t,u=Value.int i t from rx);cases q;exact Ni PySem.W.kitx_int I.kIn True.intro e (λz=>nomatch z) h
 |@lst a xs ea=>
  cases(show u=Value.ref a from rx);obtain⟨_,_,n,_,h1⟩:=(show ObjOk X.prog X.w H s.heap a (.lst xs) from I.hok a _ ea)
  exact Ni PM I.kIn ⟨_,h1,rfl⟩ e (λz=>nomatch z) h
end
end L2
namespace L2
open PySem PySem.Spec PyProof.Rows
structure Room(k:Nat)(A:Around):Prop where
 hd:A.handled=P7
 dp:A.depth+3*k+5<recursionLimit
 un:A.units+16*k+200<cLine
 gd:A.guards=P6 []
theorem Room.mono{j k:Nat}(r:Room k A)(h:j<=k):Room j A:=⟨r.hd,by have:=r.dp;lia,by have:=r.un;lia,r.gd⟩
theorem Room.deeper{k:Nat}{A:Qk}(r:Room (k+1) A)(env:Env):Room k (A.deeper env):=
 ⟨r.hd,by have:=r.dp;show A.depth+1+3*k+5<_;lia,by have:=r.un;show A.units+3+16*k+200<_;lia,r.gd⟩
theorem p8{A:Qk}:(A.under (.builtin "type.__call__" ⟨.ref C::us,kw⟩)).depth=A.depth+1:=by
 first|rfl|simp[Around.under,Code.weight,Code.isCreation,Code.isGuard,Code.isCaller,Code.frames,Code.isFrame,guardIds]
theorem p9{A:Qk}:(A.under (.builtin "type.__call__" ⟨.ref C::us,kw⟩)).units=A.units+1:=by
 first|rfl|simp[Around.under,Code.cUnits,Code.frames,Code.isFrame]
theorem nS{A:Qk}:(A.under (.builtin "type.__call__" ⟨.ref C::us,kw⟩)).guards=A.guards:=by
 first|rfl|simp[Around.under,Code.weight,Code.isCreation,Code.isGuard,Code.isCaller,Code.frames,Code.isFrame,guardIds]
theorem Room.make{k:Nat}{A:Qk}(r:Room (k+1) A)(C:Qc)(us:List Qa)(kw:List (Str×Qa)):Room k (A.under (.builtin "type.__call__" ⟨.ref C::us,kw⟩)):=
 ⟨r.hd,by have:=r.dp;rw[p8];lia,by have:=r.un;rw[p9];lia,by rw[nS];exact r.gd⟩
theorem Room.depth{k:Nat}{A:Qk}(r:Room k A):A.depth<recursionLimit:=by have:=r.dp;lia
noncomputable def y7:TA:=λ_ H Q=>Q [] H
noncomputable def Gg(ta:TE)(tr:TA):TA:=λY H Q=>ta Y H λx H1=>tr Y H1 λxs H2=>Q (x::xs) H2
section
variable {X:Cx} {e:P9} {es:List P9} {te:TE} {t:TA} {pos:Pos}
theorem dG:PA X [] y7:=λ_ _ _ _ H Q I h=>Calls.spliced_nil ⟨[],H,I,.nil,h⟩
theorem bg(ha:PE X e te)(hr:PA X es t)(hs:Qm (e::es) X.env=(Qb,eval e X.env)::Qm es X.env:=by rfl):PA X (e::es) (Gg te t):=by
 intro pos pins s Y H Q I h;rw[hs];show Qf _ _ (spliced ((Qb,eval e X.env)::backTo pos (Qm es X.env))) _ _ s;refine Calls.spliced_cons (aV (ha pins s Y H _ I h) λu s1 ⟨x,H1,I1,r1,q1⟩=>?_);exact aV (hr pos pins s1 Y H1 _ I1 q1) λus s2 ⟨xs,H2,I2,r2,q2⟩=>⟨x::xs,H2,I2,.cons r1 r2,q2⟩
noncomputable def JM(t:TA):TE:=λY H Q=>t Y H λxs H1=>xs.length<=sizeLine/\∀p,H1 p=P7->Q (.ref p) (upd H1 p (.tup xs))
noncomputable def JN(t:TA):TE:=λY H Q=>t Y H λxs H1=>xs.length<=sizeLine/\∀p,H1 p=P7->Q (.ref p) (upd H1 p (.lst xs))
theorem l7{x1}(h:PA X es t):PE X (.Tuple es x1 pos) (JM t):=by
 intro pins s Y H Q I hq;refine wpAny_Tuple_spliced (aV (h pos pins s Y H _ I hq) λus s1 ⟨xs,H1,I1,r,z,q⟩=>⟨by rw[<- r.length];exact z,?_⟩);have hf:H1 s1.heap.objs.size=P7:=I1.hok.fresh (MH _);refine⟨.ref s1.heap.objs.size,upd H1 s1.heap.objs.size (.tup xs),I1.laid (t':=s1.toks) (λb u e=>MC _ e) (MH _) ?_,rfl,q _ hf⟩;exact⟨z,us,r,⟨_,MP _ rfl,rfl,_,rfl⟩⟩
theorem CU(h:PA X es t):PE X (.List es pos) (JN t):=by
 intro pins s Y H Q I hq;refine wpAny_List_spliced (aV (h pos pins s Y H _ I hq) λus s1 ⟨xs,H1,I1,r,z,q⟩=>⟨by rw[<- r.length];exact z,?_⟩);have hf:H1 s1.heap.objs.size=P7:=I1.hok.fresh (MH _);refine⟨.ref s1.heap.objs.size,upd H1 s1.heap.objs.size (.lst xs),I1.laid (t':=s1.toks) (λb u e=>MC _ e) (MH _) ?_,rfl,q _ hf⟩;exact⟨z,us,0,r,MP _ rfl⟩
end
noncomputable abbrev Sp:=List V->Hp->VK->XK->Prop
noncomputable abbrev uz:=List Env->Hp->Qd->XK->Qa->Qd->Prop
structure Env0(P:Program)(w:World)(K:Mz)(mg:Str->Option Value)(base:Heap)(A:Around)(outer:List Env)(s:Shared)(H:Hp):Prop where
 frames:A.frames=P6 outer
 mod:Mod K mg base
 bs:∀b o,base.get? b=P6 o->s.heap.get? b=P6 o/\H b=P7
 bsz:base.objs.size<=s.heap.objs.size
 funs:s.heap.FunFrames base outer
 frf:∀b∈vq outer,H b=P7
 hok:HOk P w H s.heap
 bare:AllBare s.gens
noncomputable def CE(outer:List Env)(P:Qi)(w:Qj)(H:Hp)(s:Qd)(Q:VK)(u:Qa)(s':Qd):Prop:=
 ∃v H',s'.os=s.os/\AllBare s'.gens/\Un (vq outer) [] H H' s.heap s'.heap/\HOk P w H' s'.heap/\RelV v u/\Q v H'
noncomputable def CR(CX:uz)(outer:List Env)(P:Qi)(w:Qj)(H:Hp)(s:Qd)(Q:VK)(E:XK)(r:Result)(s':Qd):Prop:=
 match r with
 |.ok (.ret u)=>CE outer P w H s Q u s'
 |.ok _=>False
 |.error e=>CX outer H s E e s'
structure FnOk(P:Program)(w:World)(K:Mz)(mg:Str->Option Value)(base:Heap)(CX:uz)(k:Nat)(f:Addr)(fd:FuncData)(ps:List Str)(sp:Sp):Prop where
 len:∀vs H Q E,sp vs H Q E->vs.length=ps.length
 run:∀(A:Qk) (outer:List Env) (s:Qd) (H:Hp) (args:Args) (us:List Qa) (vs:List V) (Q:VK) (E:XK),Room k A->Env0 P w K mg base A outer s H->BindsTo s fd args (ps.zip us)->Vals vs us->sp vs H Q E->
  codeAny (Qg P w) A (.call (.ref f) args) (CR CX outer P w H s Q E) s
theorem FnOk.mono{P:Qi}{w:Qj}{K:Mz}{mg:Str->Option Qa}{base:Qn}{CX:uz}{j k:Nat}{f:Qc}{fd:Qw}{ps:List Str}{sp:Sp}(F:FnOk P w K mg base CX j f fd ps sp)(h:j<=k) :
  FnOk P w K mg base CX k f fd ps sp:=⟨F.len,λA outer s H args us vs Q E hr=>F.run A outer s H args us vs Q E (hr.mono h)⟩
theorem FnOk.imp{P:Qi}{w:Qj}{K:Mz}{mg:Str->Option Qa}{base:Qn}{CX:uz}{k:Nat}{f:Qc}{fd:Qw}{ps:List Str}{sp sp':Sp}(F:FnOk P w K mg base CX k f fd ps sp)
  (h:∀vs H Q E,sp' vs H Q E->sp vs H Q E):FnOk P w K mg base CX k f fd ps sp':=
 ⟨λvs H Q E q=>F.len vs H Q E (h _ _ _ _ q),λA outer s H args us vs Q E hr he hb hv hs=>F.run A outer s H args us vs Q E hr he hb hv (h _ _ _ _ hs)⟩
theorem Env0.make{P:Qi}{w:Qj}{K:Mz}{mg:Str->Option Qa}{base:Qn}{A:Qk}{outer:List Env}{s:Qd}{H:Hp}(e:Env0 P w K mg base A outer s H)(C:Qc)(us:List Qa)(kw:List (Str×Qa)) :
  Env0 P w K mg base (A.under (.builtin "type.__call__" ⟨.ref C::us,kw⟩)) outer s H:=⟨by first|exact e.frames|(simpa[Around.under,Code.envs,Code.isFrame,pushEnvs] using e.frames),e.mod,e.bs,e.bsz,e.funs,e.frf,e.hok,e.bare⟩
section
variable {X:Cx} {pins:List (Qc×Obj)} {Y:St} {H:Hp} {s s':Qd}
theorem Inv.env0(I:Inv X pins Y H s):Env0 X.prog X.w X.K X.mg X.base X.A X.stack s H:=
 ⟨I.ok.frames,I.ok.mod,I.bs,M0 I.ok.bsz I.sz,I.stack,I.stkFree,I.hok,I.bare⟩
theorem Inv.after(I:Inv X pins Y H s)(h:CE X.stack X.prog X.w H s Q u s'):EP X pins Y Q u s':=by
 obtain⟨v,H',os,bare,un,hok,r,q⟩:=h;obtain⟨hh,g,d,t,os'⟩:=s';obtain rfl:os'=s.os:=os;exact⟨v,H',I.call (h':=hh) (g':=g) (d':=d) (t':=t) (ch:=[]) un hok bare (λb z=>absurd z (by simp)),r,q⟩
end
noncomputable def Bm(sp:Sp)(dvs:List V)(E:XK)(t:TA):TE:=λY H Q=>t Y H λvs H1=>sp (vs++dvs) H1 Q E
noncomputable def Bn(C:Qc)(sp:Sp)(dvs:List V)(E:XK)(t:TA):TE:=λY H Q=>t Y H λvs H1=>∀x dx,H1 x=P7->H1 dx=P7->dx≠x->
 sp (.ref x::(vs++dvs)) (upd (upd H1 dx (.own x)) x (.ins C dx [])) (λv H2=>v=.non/\Q (.ref x) H2) E
noncomputable def Binds(K:Mz)(fd:Qw)(ps:List Str)(ds:List Qa):Prop:=
 ∀(s:Qd) (us:List Qa),K.In s.heap->(us++ds).length=ps.length->BindsTo s fd ⟨us,[]⟩ (ps.zip (us++ds))
theorem Binds.all{K:Mz}{fd:Qw}{ps:List Str}(h:∀us:List Qa,us.length=ps.length->bindArgs fd ⟨us,[]⟩=pure (ps.zip us)):Binds K fd ps []:=λs us _ hl=>by
 rw[NQ] at hl⊢;exact .of_eq (h us hl)
noncomputable def fX(CX:uz)(X:Cx)(E:XK):Prop:=∀(pins:List (Qc×Obj)) (Y:St) (H:Hp) (s:Qd) (e:Qa) (s':Qd),Inv X pins Y H s->CX X.stack H s E e s'->X.xe e s'
section
variable {X:Cx} {CX:uz} {k:Nat} {f C:Qc} {fd:Qw} {ps:List Str} {sp:Sp} {dvs:List V} {ds:List Qa} {E:XK} {x m:Str} {p pos apos:Pos} {e o:P9} {es:List P9} {ta:TE} {t:TA}
theorem vP{vs:List V}(F:FnOk X.prog X.w X.K X.mg X.base CX k f fd ps sp)(hr:Room k X.A)(hb:Binds X.K fd ps ds)(hd:Vals dvs ds)(hx:fX CX X E)(I:Inv X pins Y H s)(r:Vals vs us)(h:sp (vs++dvs) H Q E):Qf (Qg X.prog X.w) X.A (call (.ref f) us) (EP X pins Y Q) X.xe s:=by
 have r2:Vals (vs++dvs) (us++ds):=r.append hd;have hl:(us++ds).length=ps.length:=by rw[<- r2.length];exact F.len _ _ _ _ h
 refine wpAny_call (codeAny_mono (F.run X.A X.stack s H ⟨us,[]⟩ (us++ds) (vs++dvs) Q E hr I.env0 (hb s us I.kIn hl) r2 h) λr s' hq=>?_)
 cases r with
 |error e=>exact hx pins Y H s e s' I hq
 |ok fl=>
  cases fl with
  |ret u=>exact I.after hq
  |next=>exact False.elim hq
  |brk=>exact False.elim hq
  |cont=>exact False.elim hq
theorem rS(F:FnOk X.prog X.w X.K X.mg X.base CX k f fd ps sp)(hr:Room k X.A)(hg:Gl X x)(hm:X.mg x=P6 (.ref f))(hk:Nw X.K (.ref f)=P8)(hb:Binds X.K fd ps ds)(hd:Vals dvs ds)(hx:fX CX X E)
  (ha:PA X (e::es) t) (hdb:(x==("__debug__":Str))=Qb:=by decide) (he:Qm (e::es) X.env=(Qb,eval e X.env)::Qm es X.env:=by rfl) (hpl:(backTo pos (Qm es X.env)).any (·.1)=Qb:=by rfl) :
  PE X (.Call (.Name x p) (e::es) [] pos) (Bm sp dvs E t):=by
 intro pins s Y H Q I h;refine wpAny_Call_Name_kw (gq I hg hm ?_ hdb);refine PB (h₀:=X.base) I.ok.mod.kin hk (aV (ha pos pins s Y H _ I h) λus s1 ⟨vs,H1,I1,r,q⟩=>⟨I1.kIn,?_⟩) he hpl;exact vP F hr hb hd hx I1 r q
theorem vQ(F:FnOk X.prog X.w X.K X.mg X.base CX k f fd ps sp)(hr:Room k X.A)(hg:Gl X x)(hm:X.mg x=P6 (.ref f))(hk:Nw X.K (.ref f)=P8)(hb:Binds X.K fd ps ds)(hd:Vals dvs ds)(hx:fX CX X E)
  (hdb:(x==("__debug__":Str))=Qb:=by decide):PE X (.Call (.Name x p) [] [] pos) (Bm sp dvs E y7):=by
 intro pins s Y H Q I h;refine wpAny_Call_Name_kw (gq I hg hm ?_ hdb);exact Pu I.kIn hk (vP (us:=[]) F hr hb hd hx I .nil h)
structure Mk(K:Mz)(C f:Addr):Prop where
 makes:P4 K C=P8
 init:NB K (.ref C) "__init__" = P6 (P6 (.ref f))
 fn:PySem.W.isFn K (.ref f)=P8
 kp:Nw K (.ref C)=P8
theorem nT{H:Hp}{Q:VK}{vs:List V}(M:Mk X.K C f)(F:FnOk X.prog X.w X.K X.mg X.base CX k f fd ps sp)(hr:Room (k+1) X.A)(hb:Binds X.K fd ps ds)(hd:Vals dvs ds)(hx:fX CX X E)(I:Inv X pins Y H s)(r:Vals vs us)(h:∀x dx,H x=P7->H dx=P7->dx≠x->sp (.ref x::(vs++dvs)) (upd (upd H dx (.own x)) x (.ins C dx [])) (λv H2=>v=.non/\Q (.ref x) H2) E) :
  Qf (Qg X.prog X.w) X.A (call (.ref C) us) (EP X pins Y Q) X.xe s:=by
 have hq:=h (s.heap.objs.size+1) s.heap.objs.size (I.hok.fresh (Oa _)) (I.hok.fresh (MH _)) (MM (Nz _));have I2:=Inv.made (C:=C) I;have r2:Vals (V.ref (s.heap.objs.size+1)::(vs++dvs)) (Value.ref (s.heap.objs.size+1)::(us++ds)):=.cons rfl (r.append hd)
 have hl:(Value.ref (s.heap.objs.size+1)::us++ds).length=ps.length:=by
  have e:=r2.length;rw[F.len _ _ _ _ hq] at e;exact e.symm
 refine wpAny_call (vN (f:=f) I.kIn M.makes M.init (beq_iff_eq.mp M.fn) (codeAny_mono (F.run _ X.stack _ _ ⟨Value.ref (s.heap.objs.size+1)::us,[]⟩ (Value.ref (s.heap.objs.size+1)::(us++ds)) _ _ E (hr.make C us [])
  (I2.env0.make C us []) (hb _ (Value.ref (s.heap.objs.size+1)::us) I2.kIn hl) r2 hq) λr s' hq'=>?_))
 cases r with
 |error e=>exact hx pins Y _ _ e s' I2 hq'
 |ok fl=>
  cases fl with
  |ret u=>
   obtain⟨v,H',I3,rv,ev,q3⟩:=I2.after hq';subst ev;exact⟨rv,⟨V.ref (s.heap.objs.size+1),H',I3,rfl,q3⟩⟩
  |next=>exact False.elim hq'
  |brk=>exact False.elim hq'
  |cont=>exact False.elim hq'
theorem y8(M:Mk X.K C f)(F:FnOk X.prog X.w X.K X.mg X.base CX k f fd ps sp)(hr:Room (k+1) X.A)(hg:Gl X x)(hm:X.mg x=P6 (.ref C))(hb:Binds X.K fd ps ds)(hd:Vals dvs ds)(hx:fX CX X E)
  (ha:PA X (e::es) t) (hdb:(x==("__debug__":Str))=Qb:=by decide) (he:Qm (e::es) X.env=(Qb,eval e X.env)::Qm es X.env:=by rfl) (hpl:(backTo pos (Qm es X.env)).any (·.1)=Qb:=by rfl) :
  PE X (.Call (.Name x p) (e::es) [] pos) (Bn C sp dvs E t):=by
 intro pins s Y H Q I h;refine wpAny_Call_Name_kw (gq I hg hm ?_ hdb);refine PB (h₀:=X.base) I.ok.mod.kin M.kp (aV (ha pos pins s Y H _ I h) λus s1 ⟨vs,H1,I1,r,q⟩=>⟨I1.kIn,?_⟩) he hpl;exact nT M F hr hb hd hx I1 r q
theorem vR(M:Mk X.K C f)(F:FnOk X.prog X.w X.K X.mg X.base CX k f fd ps sp)(hr:Room (k+1) X.A)(hg:Gl X x)(hm:X.mg x=P6 (.ref C))(hb:Binds X.K fd ps ds)(hd:Vals dvs ds)(hx:fX CX X E)
  (hdb:(x==("__debug__":Str))=Qb:=by decide):PE X (.Call (.Name x p) [] [] pos) (Bn C sp dvs E y7):=by
 intro pins s Y H Q I h;refine wpAny_Call_Name_kw (gq I hg hm ?_ hdb);exact Pu I.kIn M.kp (nT (us:=[]) M F hr hb hd hx I .nil h)
end
section
variable {X:Cx} {CX:uz} {k:Nat} {f C:Qc} {fd:Qw} {ps ks:List Str} {sp:Sp} {E:XK} {x m:Str} {p pos apos kpos:Pos} {e o:P9} {es:List P9} {kws:List Keyword} {te ta:TE} {t tk:TA} {nm:Option Str}
variable {g:List Qa->List Qa->List Qa} {gV:List V->List V->List V}
end
structure ar(N P:List Str)(sc:Scope):Prop where
 kind:sc.kind=.function
 co:sc.isCoroutine=Qb
 gen:sc.isGenerator=Qb
 nd:N.Nodup
 pre:N.take P.length=P
 par:∀x∈P,sc.names.lookup x=P6 .local\/sc.names.lookup x=P6 .cell
 nofree:∀y∈sc.names,y.2≠.free
theorem lj{kindOf:Str->Option Qt}{x:Str}:∀{binds:List (Str×Qa)} {m:Str->Option Qa},(∀v,(x,v)∉binds)->bindL kindOf binds m x=m x
 |[],_,_=>rfl
 |(n,v)::r,m,h=>by
  unfold bindL;rw[lj λw hw=>h w (MS _ hw)];split
  ·have:x≠n:=by rintro rfl;exact h v M1
   simp[this]
  ·rfl
theorem ll{kindOf:Str->Option Qt}{x:Str}:∀{binds:List (Str×Qa)} {m:Str->Option Qa},(∀v,(x,v)∉binds)->bindC kindOf binds m x=m x
 |[],_,_=>rfl
 |(n,v)::r,m,h=>by
  unfold bindC;rw[ll λw hw=>h w (MS _ hw)];split
  ·rfl
  ·have:x≠n:=by rintro rfl;exact h v M1
   simp[this]
theorem lq{kindOf:Str->Option Qt}{x:Str}{v:Qa}:∀{P:List Str} {vs:List Qa} {i:Nat} {m:Str->Option Qa},P.Nodup->P[i]?=P6 x->vs[i]?=P6 v->kindOf x=P6 .local->
  bindL kindOf (P.zip vs) m x=P6 v
 |[],_,_,_,_,h,_,_=>by simp at h
 |_::_,[],_,_,_,_,h,_=>by simp at h
 |p::P,w::vs,0,m,nd,h1,h2,hk=>by
  simp at h1 h2;subst h1;subst h2;show bindL kindOf ((p,w)::P.zip vs) m p=_;unfold bindL;rw[lj λv hv=>(M3.mp nd).1 (O8 hv).1,if_pos hk];simp
 |p::P,w::vs,i+1,m,nd,h1,h2,hk=>by
  show bindL kindOf ((p,w)::P.zip vs) m x=_;unfold bindL;exact lq (i:=i) (M3.mp nd).2 (by simpa using h1) (by simpa using h2) hk
theorem lr{kindOf:Str->Option Qt}{x:Str}{v:Qa}:∀{P:List Str} {vs:List Qa} {i:Nat} {m:Str->Option Qa},P.Nodup->P[i]?=P6 x->vs[i]?=P6 v->kindOf x≠P6 .local->
  bindC kindOf (P.zip vs) m x=P6 v
 |[],_,_,_,_,h,_,_=>by simp at h
 |_::_,[],_,_,_,_,h,_=>by simp at h
 |p::P,w::vs,0,m,nd,h1,h2,hk=>by
  simp at h1 h2;subst h1;subst h2;show bindC kindOf ((p,w)::P.zip vs) m p=_;unfold bindC;rw[ll λv hv=>(M3.mp nd).1 (O8 hv).1,if_neg hk];simp
 |p::P,w::vs,i+1,m,nd,h1,h2,hk=>by
  show bindC kindOf ((p,w)::P.zip vs) m x=_;unfold bindC;exact lr (i:=i) (M3.mp nd).2 (by simpa using h1) (by simpa using h2) hk
noncomputable def bU(N:List Str)(vs:List V):St:=vs.map P6++Nh (N.length-vs.length) P7
noncomputable def l8(CX:uz)(P:Qi)(w:Qj)(K:Mz)(mg:Str->Option Qa)(base:Qn)(N:List Str)(qual:Str)(scope:Qo)(f:Qc)(cd:Qa)(A:Qk)(outer:List Env)(s:Qd)(H:Hp)(E:XK):Cx where
 prog:=P
 w:=w
 K:=K
 mg:=mg
 base:=base
 A:=A.deeper (envOfC qual scope s.heap.objs.size f cd)
 N:=N
 s₀:=s
 H₀:=H
 env:=envOfC qual scope s.heap.objs.size f cd
 outer:=outer
 stack:=envOfC qual scope s.heap.objs.size f cd::outer
 ex:=[]
 calm:=P8
 fn:=λ_=>P8
 pn:=[]
 xe:=λe s'=>Qf (Qg P w) (A.deeper (envOfC qual scope s.heap.objs.size f cd)) (leaving (envOfC qual scope s.heap.objs.size f cd) e) (λ_ s''=>CX outer H s E e s'') (λe' s''=>CX outer H s E e' s'') s'
theorem nU{sc:Qo}{n:Nat}{x:Str}(h:sc.names.lookup x=P6 .cell):∃c,(Qq n sc.names []).lookup x=P6 c:=by
 have q:=Pe sc.names n [] (.inl h);exact Option.isSome_iff_exists.mp q
theorem uA{CX:uz}{P:Qi}{w:Qj}{K:Mz}{mg:Str->Option Qa}{base:Qn}{N ps:List Str}{qual:Str}{scope:Qo}{f:Qc}{cd:Qa}{A:Qk}{outer:List Env}{s s1:Qd}{H:Hp}{E:XK}{us:List Qa}{vs:List V}
  (S:ar N ps scope) (hd:A.handled=P7) (e0:Env0 P w K mg base A outer s H) (hl:vs.length=ps.length) (r:Vals vs us)
  (x:InCallC s s.heap.objs.size (bindL (envOfC qual scope s.heap.objs.size f cd).kindOf (ps.zip us) λ_=>P7) (Qq (s.heap.objs.size+1) scope.names []) (bindC (envOfC qual scope s.heap.objs.size f cd).kindOf (ps.zip us) λ_=>P7) s1) :
  Inv (l8 CX P w K mg base N qual scope f cd A outer s H E) [] (bU N vs) H s1:=by
 have hpl:ps.length<=N.length:=by have:=congrArg OA S.pre;rw[M8] at this;lia
 obtain⟨h1,tk,rfl,hk⟩:=x.done;have noA:∀b:Qc,b∉(l8 CX P w K mg base N qual scope f cd A outer s H E).ex:=λb z=>absurd (show b∈([]:List Qc) from z) (by simp)
 refine⟨⟨e0.mod,S.kind,rfl,rfl,MH _,λy z c h1 h2=>?_,λy hy=>?_,λy c _ h=>?_,λ_=>hd,Around.frames_deeper e0.frames,.inr ⟨rfl,rfl⟩,λb z=>absurd z (noA b),e0.bs,e0.bsz,λb _ _=>noA b,λb z=>absurd z (noA b),e0.funs,e0.frf⟩,
  rfl,e0.bare,Un.kept hk,⟨_,x.toInCall.ns,λi y v h1 h2 h3=>?_⟩,λy c h=>⟨_,x.cell y c h⟩,e0.hok.fresh (MH _),λy c h=>?_,λp hp=>absurd (show p∈([]:List (Qc×Obj)) from hp) (by simp),e0.hok.kept hk,?_⟩
 ·exact name_of_addr x.apart (PySem.mem_of_lookup h1) (PySem.mem_of_lookup h2)
 ·have hy:scope.names.lookup y=P6 .cell\/scope.names.lookup y=P6 .free:=hy;rcases hy with hy|hy
  ·exact nU hy
  ·exact absurd rfl (S.nofree _ (PySem.mem_of_lookup hy))
 ·exact Of (x.above y c (PySem.mem_of_lookup h))
 ·have hi:i<vs.length:=by
   unfold bU at h2;by_cases hi:i<vs.length
   ·exact hi
   ·rw[NT (by simpa using hi)] at h2;rw[N0] at h2
    split at h2<;>cases h2
  have ha:vs[i]?=P6 v:=by
   unfold bU at h2;rw[Nq (by simpa using hi),MF] at h2
   cases e:vs[i]? with
   |none=>rw[e] at h2;cases h2
   |some a=>rw[e] at h2;cases h2;rfl
  obtain⟨u,hu,rv⟩:=r.get ha
  have hp:ps[i]?=P6 y:=by
   rw[<- S.pre,OX (by lia)];exact h1
  have ndP:ps.Nodup:=by rw[<- S.pre];exact S.nd.sublist (OO _ _)
  refine⟨u,rv,?_⟩;rcases S.par y (Nf hp) with k|k
  ·exact .inl ⟨k,lq ndP hp hu k⟩
  ·obtain⟨c,e⟩:=nU (n:=s.heap.objs.size+1) k;refine .inr ⟨.inl k,c,e,?_⟩;have q:=x.cell y c e;rw[lr ndP hp hu (by show scope.names.lookup y≠_;rw[k];decide)] at q;exact q
 ·exact e0.hok.fresh (Of (x.above y c (PySem.mem_of_lookup h)))
 ·unfold bU;show _=N.length;rw[MX,MB,Pi]
  lia
theorem Gi{CX:uz}{P:Qi}{w:Qj}{K:Mz}{mg:Str->Option Qa}{base:Qn}{k:Nat}{f:Qc}{name qual:Str}{params:Arguments}{body:List Ql}{scope:Qo}{dV kV doc pm cdv ct oc:Qa}{an od:Option Qc}
  {osl:Array (Option Qa)} {N ps:List Str} {sp:Sp} (lk:K.lookup f=P6 ⟨oc,od,.func (NG name qual params body scope dV kV doc pm an cdv ct),osl⟩) (hcd:Oz K cdv qual=P8) (S:ar N ps scope)
  (len:∀vs H Q E,sp vs H Q E->vs.length=ps.length)
  (hbody:∀(A:Qk) (outer:List Env) (s:Qd) (H:Hp) (vs:List V) (Q:VK) (E:XK),Room k (A.deeper (envOfC qual scope s.heap.objs.size f cdv))->sp vs H Q E->
   ∃t,PSs (l8 CX P w K mg base N qual scope f cdv A outer s H E) body t/\t { nx:=λ_ H'=>Q .non H',rt:=Q } (bU N vs) H) :
  FnOk P w K mg base CX (k+1) f (NG name qual params body scope dV kV doc pm an cdv ct) ps sp:=by
 refine⟨len,λA outer s H args us vs Q E hr e0 hb r hsp=>?_⟩;have hl:=len _ _ _ _ hsp;have KX:K.In s.heap:=e0.mod.kin.keeps λb o e=>(e0.bs b o e).1;have lim:s.heap.NoLimit:=e0.mod.nolimit.keeps λb o e=>(e0.bs b o e).1
 have hkind:∀y∈ps.zip us,scope.names.lookup y.1=P6 .local\/(scope.names.lookup y.1=P6 .cell/\((Qq (s.heap.objs.size+1) scope.names []).lookup y.1).isSome=P8):=λ⟨n,v⟩ hy=>by
  rcases S.par n (O8 hy).1 with q|q
  ·exact .inl q
  ·exact .inr ⟨q,Pe _ _ _ (.inl q)⟩
 refine codeAny_call_function hr.depth (KX _ _ lk) rfl S.co S.gen rfl (PySem.W.codeRec_of KX hcd) (hb _ _ _ _ ?_);refine wpAny_newFunctionEnv_cells S.kind hkind λenv he s1 x=>?_;subst he;refine⟨lim.keeps x.toInCall.keep,codeAny_func ?_⟩;obtain⟨t,ht,hq⟩:=hbody A outer s H vs Q E (hr.deeper _) hsp;have I:Inv (l8 CX P w K mg base N qual scope f cdv A outer s H E) [] (bU N vs) H s1:=uA S hr.hd e0 hl r x;refine wpAny_mono (ht [] s1 (bU N vs) H _ I hq) (λfl s' hs=>?_) λe s' hs=>hs
 have fin:∀{Y':St} {H':Hp} {v:V} {u:Qa},Inv (l8 CX P w K mg base N qual scope f cdv A outer s H E) [] Y' H' s'->RelV v u->Q v H'->CE outer P w H s Q u s':=
  λ{Y' H' v u} J rv q=>⟨v,H',J.os,J.bare,J.base,J.hok,rv,q⟩
 cases fl with
 |ret u=>
  obtain⟨v,Y',H',J,rv,q⟩:=hs;exact fin J rv q
 |next=>
  obtain⟨Y',H',J,q⟩:=hs;exact fin (v:=V.non) (u:=Value.none) J rfl q
 |brk=>
  obtain⟨_,_,_,q⟩:=hs;exact False.elim q
 |cont=>
  obtain⟨_,_,_,q⟩:=hs;exact False.elim q
end L2
namespace L2
open PySem PySem.Spec PyProof.Rows
section
variable {X:Cx} {x:Str} {p pos:Pos} {e:P9} {es:List P9} {t:TA} {id T:String} {r:List V->Hp->VK->Prop}
noncomputable def Lz(r:List V->Hp->VK->Prop)(t:TA):TE:=λY H Q=>t Y H λvs H1=>r vs H1 Q
theorem c5(hc:eN X (.builtin id) r)(hg:Gl X x)(hm:X.mg x=P7)(hv:bootBuiltins x=P6 (.builtin id))(ha:PA X (e::es) t)(hn:x≠"__name__":=by decide)(hdb:(x==("__debug__":Str))=Qb:=by decide)
  (he:Qm (e::es) X.env=(Qb,eval e X.env)::Qm es X.env:=by rfl) (hpl:(backTo pos (Qm es X.env)).any (·.1)=Qb:=by rfl):PE X (.Call (.Name x p) (e::es) [] pos) (Lz r t):=by
 intro pins s Y H Q I h;refine wpAny_Call_Name_kw (c0 I hg hm hv ?_ hn hdb);exact PyProof.Rows.callWith_builtin1 (aV (ha pos pins s Y H _ I h) λus s1 ⟨vs,H1,I1,r1,q1⟩=>hc pins s1 Y H1 vs us Q I1 r1 q1) he hpl
theorem dN(hc:eN X (.type T) r)(hg:Gl X x)(hm:X.mg x=P7)(hv:bootBuiltins x=P6 (.type T))(ha:PA X (e::es) t)(hn:x≠"__name__":=by decide)(hdb:(x==("__debug__":Str))=Qb:=by decide)
  (he:Qm (e::es) X.env=(Qb,eval e X.env)::Qm es X.env:=by rfl) (hpl:(backTo pos (Qm es X.env)).any (·.1)=Qb:=by rfl):PE X (.Call (.Name x p) (e::es) [] pos) (Lz r t):=by
 intro pins s Y H Q I h;refine wpAny_Call_Name_kw (c0 I hg hm hv ?_ hn hdb);exact PyProof.Rows.callWith_type1 (aV (ha pos pins s Y H _ I h) λus s1 ⟨vs,H1,I1,r1,q1⟩=>hc pins s1 Y H1 vs us Q I1 r1 q1) he hpl
end
end L2
namespace HT
open PySem PyProof.Rows
section
open PySem.SeqAt
open PySem.AutoSeq1 (wpAny_loadPart')
open PySem.MeetsSeq PySem.MeetsSeq2 PySem.MeetsSeq3
end
section
variable {prog:Qi} {w:Qj} {A:Qk} {E:Qa->Qd->Prop} {s:Qd}
noncomputable def ji(n d:Nat):Option Int->Nat
 |none=>d
 |some v=>if v<0 then(v+(n:Int)).toNat else min v.toNat n
theorem gy(n d:Nat):ji n d P7=d:=rfl
theorem dA(n d k:Nat):ji n d (P6 (k:Int))=min k n:=by
 show(if(k:Int)<0 then((k:Int)+(n:Int)).toNat else min (k:Int).toNat n)=min k n
 rw[if_neg (by lia),Nx]
end
end HT
namespace L2
open PySem PySem.Spec PyProof.Rows
noncomputable abbrev TO:=St->Hp->(Option Int->Hp->Prop)->Prop
noncomputable def PO(X:Cx)(e:Option P9)(t:TO):Prop:=
 ∀(pins:List (Qc×Obj)) (s:Qd) (Y:St) (H:Hp) (Q:Option Int->Hp->Prop),Inv X pins Y H s->t Y H Q->
  Qf (Qg X.prog X.w) X.A (evalPart e X.env) (λu s'=>∃o H',Inv X pins Y H' s'/\IsPart u o/\Q o H') X.xe s
noncomputable def y9:TO:=λ_ H Q=>Q P7 H
noncomputable def Gj(t:TE):TO:=λY H Q=>t Y H λx H1=>∃i,x=.int i/\Q (P6 i) H1
section
variable {X:Cx} {e:P9} {te:TE} {lo hi:Option P9} {tl th:TO} {pos p2:Pos}
theorem za:PO X P7 y9:=by
 intro pins s Y H Q I h;rw[evalPart_none];exact Qh ⟨P7,H,I,.none,h⟩
theorem zb(h:PE X e te):PO X (P6 e) (Gj te):=by
 intro pins s Y H Q I hw;rw[evalPart_some];refine aV (h pins s Y H _ I hw) λu s1 ⟨x,H1,I1,r1,q1⟩=>?_;obtain⟨i,rfl,q⟩:=q1;obtain⟨t,rfl⟩:=r1;exact⟨P6 i,H1,I1,.int i t,q⟩
noncomputable def LA(X:Cx)(r:V->Option Int->Option Int->Hp->VK->Prop):Prop:=
 ∀(pins:List (Qc×Obj)) (s:Qd) (Y:St) (H:Hp) (x:V) (v vl vu:Qa) (lo hi:Option Int) (sl:Qc) (Q:VK),Inv X pins Y H s->RelV x v->s.heap.IsSliceOf sl vl vu .none->IsPart vl lo->IsPart vu hi->r x lo hi H Q->
  ∃T id,typeLookup (.type T) "__getitem__" = pure (P6 (.builtin id))/\s.TypeIs v T/\Qf (Qg X.prog X.w) X.A (getItem v (.ref sl)) (EP X pins Y Q) X.xe s
noncomputable def L3(r:V->Option Int->Option Int->Hp->VK->Prop)(te:TE)(tl th:TO):TE:=λY H Q=>te Y H λx H1=>tl Y H1 λl H2=>th Y H2 λu H3=>r x l u H3 Q
theorem nV(hr:LA X r)(he:PE X e te)(hl:PO X lo tl)(hu:PO X hi th):PE X (.Subscript e (.Slice lo hi P7 p2) pos) (L3 r te tl th):=by
 intro pins s Y H Q I h;refine Subscript_ (aV (he pins s Y H _ I h) λv s1 ⟨x,H1,I1,r1,q1⟩=>?_);refine wpAny_Slice (aV (hl pins s1 Y H1 _ I1 q1) λvl s2 ⟨l,H2,I2,pl,q2⟩=>aV (hu pins s2 Y H2 _ I2 q2) λvu s3 ⟨u,H3,I3,pu,q3⟩=>?_);rw[evalPart_none];refine Qh ?_;have I4:Inv X pins Y H3 { s3 with heap:=s3.heap.push { cls:=.type "slice",data:=.fields #[vl,vu,.none] } }:=I3.kept (t':=s3.toks) λb ob q=>MC _ q;obtain⟨T,id,hT,ht,hg⟩:=hr pins { s3 with heap:=s3.heap.push { cls:=.type "slice",data:=.fields #[vl,vu,.none] } } Y H3 x v vl vu l u s3.heap.objs.size Q I4 r1 (Heap.IsSliceOf.new ..) pl pu q3;show Qf (Qg X.prog X.w) X.A (subscriptTail e (.Slice lo hi P7 p2) v (.ref s3.heap.objs.size)) (EP X pins Y Q) X.xe { s3 with heap:=s3.heap.push { cls:=.type "slice",data:=.fields #[vl,vu,.none] } };exact tail_any (ops:=[.ref s3.heap.objs.size,v]) ht hT hg (by with_unfolding_all rfl)
noncomputable def uB(xs:List V)(lo hi:Option Int):List V:=(xs.drop (HT.ji xs.length 0 lo)).take (HT.ji xs.length xs.length hi-HT.ji xs.length 0 lo)
theorem nX(xs:List V)(lo hi:Option Int):(uB xs lo hi).length<=xs.length:=by
 unfold uB;rw[M8,On]
 lia
end
end L2
namespace L2
open PySem PySem.Spec PyProof.Rows
noncomputable def jv(n:Nat)(i:Int):Option Nat:=if 0<=i then(if i<n then P6 i.toNat else P7) else if -(n:Int)<=i then P6 (i+n).toNat else P7
noncomputable def l9{α:Type}(xs:List α)(i:Int):Option α:=(jv xs.length i).bind λj=>xs[j]?
theorem ma{n:Nat}{i:Int}{j:Nat}(h:jv n i=P6 j):seqIndex? i n=P6 j/\j<n/\-(n:Int)<=i/\i<n:=by
 unfold jv at h;by_cases h0:0<=i
 ·rw[if_pos h0] at h;by_cases h1:i<n
  ·rw[if_pos h1] at h;have e:i.toNat=j:=Option.some.inj h;exact⟨by rw[seqIndex_of h0 h1,e],by lia,by lia,h1⟩
  ·rw[if_neg h1] at h;cases h
 ·rw[if_neg h0] at h;by_cases h1:-(n:Int)<=i
  ·rw[if_pos h1] at h;have e:(i+n).toNat=j:=Option.some.inj h;exact⟨by rw[seqIndex_neg (by lia) h1,e],by lia,h1,by lia⟩
  ·rw[if_neg h1] at h;cases h
theorem me{α:Type}{xs:List α}{i:Int}{v:α}(h:l9 xs i=P6 v):∃j,seqIndex? i xs.length=P6 j/\xs[j]?=P6 v/\j<xs.length/\-(xs.length:Int)<=i/\i<xs.length:=by
 unfold l9 at h
 cases e:jv xs.length i with
 |none=>rw[e] at h;cases h
 |some j=>
  rw[e] at h;obtain⟨h1,h2,h3,h4⟩:=ma e;exact⟨j,h1,h,h2,h3,h4⟩
noncomputable def rT(b:P9):Prop:=∀o i,subscripted b Qb o i=operate [o,i] (getItem o i)
noncomputable def IxR(X:Cx)(r:R2):Prop:=
 ∀(value slice:P9) (pins:List (Qc×Obj)) (s:Qd) (Y:St) (H:Hp) (x y:V) (v u:Qa) (Q:VK),Inv X pins Y H s->RelV x v->RelV y u->r x y H Q->
  subscripted slice Qb v u=operate [v,u] (getItem v u)->Qf (Qg X.prog X.w) X.A (subscriptTail value slice v u) (EP X pins Y Q) X.xe s
noncomputable def Gk(X:Cx)(id:String)(r:V->List V->Hp->VK->Prop):Prop:=
 ∀(pins:List (Qc×Obj)) (s:Qd) (Y:St) (H:Hp) (x:V) (xs:List V) (v:Qa) (us:List Qa) (Q:VK),Inv X pins Y H s->RelV x v->Vals xs us->r x xs H Q->
  Qf (Qg X.prog X.w) X.A (call (.builtin id) (v::us)) (EP X pins Y Q) X.xe s
section
variable {X:Cx} {a b:P9} {ta tb:TE} {pos:Pos}
theorem IxR.or{r r':R2}(h:IxR X r)(h':IxR X r'):IxR X (λx y H Q=>r x y H Q\/r' x y H Q):=by
 intro value slice pins s Y H x y v u Q I rx ry q hs;rcases q with q|q
 ·exact h value slice pins s Y H x y v u Q I rx ry q hs
 ·exact h' value slice pins s Y H x y v u Q I rx ry q hs
theorem rU(hr:IxR X r)(ha:PE X a ta)(hb:PE X b tb)(hs:rT b):PE X (.Subscript a b pos) (IU r ta tb):=by
 intro pins s Y H Q I h;exact Subscript_ (CJ ha hb I h λv u s2 x y H2 I2 rx ry q=>hr a b pins s2 Y H2 x y v u Q I2 rx ry q (hs _ _))
noncomputable def Gm(K:Mz):R2:=λx y H Q=>∃p xs i v,x=.ref p/\y=.int i/\SqL K H p xs/\l9 xs i=P6 v/\Q v H
noncomputable def Gn(K:Mz):R2:=λx y H Q=>∃p xs i v,x=.ref p/\y=.int i/\SqT K H p xs/\l9 xs i=P6 v/\Q v H
noncomputable def Go:R2:=λx y H Q=>∃z i c,x=.str z/\y=.int i/\z.length<=sizeLine/\l9 z.cps.toList i=P6 c/\Q (.str ⟨#[c]⟩) H
theorem ix_list:IxR X (Gm X.K):=by
 intro value slice pins s Y H x y v u Q I rx ry h hs;obtain⟨p,xs,i,z,rfl,rfl,hq,he,q⟩:=h;cases rx;obtain⟨t,rfl⟩:=ry;obtain⟨its,r,pl,hz⟩:=I.list hq;obtain⟨j,h1,h2,h3,h4,h5⟩:=me he;obtain⟨w,ew,rw'⟩:=r.get h2;have hl:=r.length;have hn:=il;have fin:EP X pins Y Q w s:=⟨z,H,I,rw',q⟩;by_cases h0:0<=i
 ·have hj:i.toNat=j:=by
   rw[seqIndex_of h0 h5] at h1;exact Option.some.inj h1
  exact item_listR pl.isList h0 (by lia) (by rw[hj];simpa using ew) fin hs
 ·have hj:(i+(its.toArray.size:Int)).toNat=j:=by
   rw[seqIndex_neg (by lia) h4] at h1;rw[MQ,<- hl];exact Option.some.inj h1
  exact subscriptTail_builtinR (x:=w) pl.isList.typeIs slot_list_getitem.lookup
   (wpAny_getItem_list_neg (Q:=λr s'=>r=w/\EP X pins Y Q r s') pl.isList (by lia) (by rw[MQ]<;>lia) (by lia) (by rw[hj];simpa using ew) ⟨rfl,fin⟩) hs
theorem ix_tup:IxR X (Gn X.K):=by
 intro value slice pins s Y H x y v u Q I rx ry h hs;obtain⟨p,xs,i,z,rfl,rfl,hq,he,q⟩:=h;cases rx;obtain⟨t,rfl⟩:=ry;obtain⟨its,r,pl,hz⟩:=I.tuple hq;obtain⟨j,h1,h2,h3,h4,h5⟩:=me he;obtain⟨w,ew,rw'⟩:=r.get h2;have hl:=r.length;have hn:=il;have fin:EP X pins Y Q w s:=⟨z,H,I,rw',q⟩;exact subscriptTail_builtinR (x:=w) pl.typeIs slot_tuple_getitem.lookup
  (getItem_tuple (j:=j) (Q:=λr s'=>r=w/\EP X pins Y Q r s') pl (by lia) (by lia) (by rw[MQ,<- hl];exact h1) (by simpa using ew) ⟨rfl,fin⟩) hs
theorem CV:IxR X Go:=by
 intro value slice pins s Y H x y v u Q I rx ry h hs;obtain⟨z,i,c,rfl,rfl,hz,he,q⟩:=h;obtain⟨t,rfl⟩:=rx;obtain⟨t',rfl⟩:=ry;obtain⟨j,h1,h2,h3,h4,h5⟩:=me he;have hl:z.cps.toList.length=z.length:=by simp[Str.length]
 rw[hl] at h1 h4 h5;have hn:=il
 exact tail_any (typeIs_str s z t) slot_str_getitem.lookup (getItem_str (c:=c) (by
  have e1:decide (i < -(2^63:Int))=Qb:=decide_eq_false (by lia);have e2:decide (i ≥ 2^63)=Qb:=decide_eq_false (by lia);rw[e1,e2,Ps]) (by rw[h1];simpa using h2) ⟨.str ⟨#[c]⟩,H,I.tok _,⟨_,rfl⟩,q⟩) hs
noncomputable def LB(K:Mz):R2:=λx y H Q=>Gm K x y H Q\/Gn K x y H Q\/Go x y H Q
theorem mf:IxR X (LB X.K):=ix_list.or (ix_tup.or CV)
theorem qc(its:List Qa)(n j:Nat)(u:Qa):Obj.mapSeq (·.setIfInBounds j u) { cls:=.type "list",data:=.seq its.toArray n }={ cls:=.type "list",data:=.seq (its.set j u).toArray n }:=by
 simp[Obj.mapSeq]
theorem Inv.lst{pins:List (Qc×Obj)}{Y:St}{H:Hp}{s:Qd}{p:Qc}{xs:List V}(I:Inv X pins Y H s)(h:H p=P6 (.lst xs)) :
  ∃(its:List Qa) (n:Nat),Vals xs its/\s.heap.get? p=P6 { cls:=.type "list",data:=.seq its.toArray n }/\xs.length<=sizeLine:=by
 obtain⟨z,its,n,r,e⟩:=I.hok p _ h;exact⟨its,n,r,e,z⟩
theorem Inv.lstUpd{H:Hp}{s:Qd}{xs ys:List V}{its its':List Qa}{n n':Nat}(I:Inv X pins Y H s)(h:H p=P6 (.lst xs))(ho:s.heap.get? p=P6 { cls:=.type "list",data:=.seq its.toArray n })(hf:f { cls:=.type "list",data:=.seq its.toArray n }={ cls:=.type "list",data:=.seq its'.toArray n' })(r:Vals ys its')(hz:ys.length<=sizeLine)(t:Nat) :
  Inv X pins Y (upd H p (.lst ys)) { s with heap:=s.heap.update p f,toks:=t }:=by
 have e:(s.heap.update p f).get? p=P6 { cls:=.type "list",data:=.seq its'.toArray n' }:=by
  rw[Pj f ho (by rw[hf]<;>rfl),hf]
 refine I.write (x:=p) (e:=p) (by rw[h];trivial) (.inl rfl) (λb u hb q=>(Ol _ _ (Ne.symm hb)).trans q) ⟨_,e⟩ ?_;exact⟨hz,its',n',r,e⟩
noncomputable def Gp:V->V->V->Hp->(Hp->Prop)->Prop:=λo i v H Q=>∃p xs k j,o=.ref p/\i=.int k/\H p=P6 (.lst xs)/\jv xs.length k=P6 j/\Q (upd H p (.lst (xs.set j v)))
theorem vS:FW X Gp:=by
 intro pins s Y H o i v ov iv u Q I ro ri rv h;obtain⟨p,xs,k,j,rfl,rfl,hp,hj,q⟩:=h;cases ro;obtain⟨t,rfl⟩:=ri;obtain⟨its,n,r,ho,hz⟩:=I.lst hp;obtain⟨h1,h2,h3,h4⟩:=ma hj;have hl:=r.length;have hn:=il
 have I':Inv X pins Y (upd H p (.lst (xs.set j v))) { s with heap:=s.heap.update p (Obj.mapSeq (·.setIfInBounds j u)) }:=
  I.lstUpd hp ho (qc its n j u) (r.set rv j) (by rw[N1];exact hz) s.toks
 by_cases h0:0<=k
 ·have hk:k.toNat=j:=by
   rw[seqIndex_of h0 h4] at h1;exact Option.some.inj h1
  exact PySem.W.ki_setAt ho h0 (by lia) (by rw[MQ,<- hl];exact h4) (by rw[hk];exact⟨_,I',q⟩)
 ·have hk:(k+(its.toArray.size:Int)).toNat=j:=by
   rw[seqIndex_neg (by lia) h3] at h1;rw[MQ,<- hl];exact Option.some.inj h1
  exact PySem.W.ki_setBack ho (by lia) (by rw[MQ,<- hl];exact h3) (by lia) (by rw[hk];exact⟨_,I',q⟩)
theorem mh(lo hi:Option Int)(n:Nat):(sliceBounds lo hi P7 n).1=((HT.ji n 0 lo:Nat):Int)/\(sliceBounds lo hi P7 n).2.1=((HT.ji n n hi:Nat):Int)/\(sliceBounds lo hi P7 n).2.2=1:=by
 refine⟨?_,?_,rfl⟩
 ·cases lo with
  |none=>simp[sliceBounds,HT.ji]
  |some i=>
   simp only[sliceBounds,HT.ji,OY,show(1:Int) > 0 by decide,if_true];by_cases h:i<0
   ·simp only[h,if_true]<;>lia
   ·simp only[h,if_false]<;>lia
 ·cases hi with
  |none=>simp[sliceBounds,HT.ji]
  |some i=>
   simp only[sliceBounds,HT.ji,OY,show(1:Int) > 0 by decide,if_true];by_cases h:i<0
   ·simp only[h,if_true]<;>lia
   ·simp only[h,if_false]<;>lia
theorem kY(its:List Qa)(lo hi:Option Int):slicePick its.toArray lo hi P7=((its.drop (HT.ji its.length 0 lo)).take (HT.ji its.length its.length hi-HT.ji its.length 0 lo)).toArray:=by
 obtain⟨h1,h2,h3⟩:=mh lo hi its.toArray.size;unfold slicePick;rw[h1,h2,h3]
 simp only[sliceRange_one,pick_run,MQ]<;>rfl
noncomputable def JO(K:Mz):V->Option Int->Option Int->Hp->VK->Prop:=λx lo hi H Q=>∃a xs,x=.ref a/\SqL K H a xs/\∀p,H p=P7->Q (.ref p) (upd H p (.lst (uB xs lo hi)))
theorem rV:LA X (JO X.K):=by
 intro pins s Y H x v vl vu lo hi sl Q I rx hs pl pu h;obtain⟨a,xs,rfl,hx,q⟩:=h;cases rx;obtain⟨its,r,ht,hz⟩:=I.list hx;have hlen:=r.length;refine⟨"list",_,slot_list_getitem.lookup,ht.isList.typeIs,?_⟩
 refine wpAny_getItem_list_slice ht.isList hs pl pu .none (by simp) ?_ (by rw[MQ]<;>lia)
 rw[kY,<- hlen];refine⟨.ref s.heap.objs.size,_,I.laid (t':=s.toks) (o:=.lst (uB xs lo hi)) (λb ob q=>MC _ q) (MH _) ?_,rfl,q _ (I.hok.fresh (MH _))⟩;exact⟨M0 (nX xs lo hi) hz,_,0,(r.drop (HT.ji xs.length 0 lo)).take (HT.ji xs.length xs.length hi-HT.ji xs.length 0 lo),MP _ rfl⟩
theorem mi:eN X (.builtin "len") (λxs H Q=>∃p ys,xs=[.ref p]/\(SqL X.K H p ys\/SqT X.K H p ys)/\Q (.int ys.length) H):=by
 intro pins s Y H xs us Q I r h;obtain⟨p,ys,rfl,hq,q⟩:=h;obtain⟨u,rfl,rx⟩:=jO r;cases rx;have hn:=il;rcases hq with hq|hq
 ·obtain⟨its,r',pl,hz⟩:=I.list hq;have hlen:=r'.length
  exact Calls.call_len_list pl.isList (by simp only[MQ]<;>lia) ⟨.int ys.length,H,I.tok _,⟨s.toks+1,by rw[MQ,hlen]⟩,q⟩
 ·obtain⟨its,r',pl,hz⟩:=I.tuple hq;have hlen:=r'.length
  exact len_tuple pl (by simp only[MQ]<;>lia) ⟨.int ys.length,H,I.tok _,⟨s.toks+1,by rw[MQ,hlen]⟩,q⟩
theorem d4:eN X (.type "list") (λxs H Q=>∃p ys,xs=[.ref p]/\(SqL X.K H p ys\/SqT X.K H p ys)/\∀l,H l=P7->Q (.ref l) (upd H l (.lst ys))):=by
 intro pins s Y H xs us Q I r h;obtain⟨p,ys,rfl,hq,q⟩:=h;obtain⟨u,rfl,rx⟩:=jO r;cases rx
 have fin:∀(its:List Qa),Vals ys its->ys.length<=sizeLine->∀(h':Qn) (c':Nat),(∀b o',s.heap.get? b=P6 o'->h'.get? b=P6 o')->
   h'.get? s.heap.objs.size=P6 { cls:=.type "list",dict:=P7,data:=.seq its.toArray c',slots:=#[] }->EP X pins Y Q (.ref s.heap.objs.size) { s with heap:=h' }:=λits r' hz h' c' kp e=>
  ⟨.ref s.heap.objs.size,_,I.laid (t':=s.toks) kp (MH _) (show ObjOk X.prog X.w _ h' _ (.lst ys) from⟨hz,its,c',r',e⟩),rfl,q _ (I.hok.fresh (MH _))⟩
 rcases hq with hq|hq
 ·obtain⟨its,r',pl,hz⟩:=I.list hq;have hlen:=r'.length;obtain⟨o,ho,hc,n,hd⟩:=pl.isList
  exact call_list_seq p (.inl rfl) ho hc hd (λh' c' kp e=>fin its r' hz h' c' kp e) (by simp only[MQ]<;>lia)
 ·obtain⟨its,r',pl,hz⟩:=I.tuple hq;have hlen:=r'.length;obtain⟨o,ho,hc,n,hd⟩:=pl
  exact call_list_seq p (.inr rfl) ho hc hd (λh' c' kp e=>fin its r' hz h' c' kp e) (by simp only[MQ]<;>lia)
noncomputable def IV(K:Mz)(T:String)(x:V)(H:Hp):Prop:=match x with
 |.str _=>T="str"
 |.int _=>T="int"
 |.ref p=>(T="list"/\∃xs,SqL K H p xs)\/(T="tuple"/\∃o,K.lookup p=P6 o/\o.cls=.type "tuple"/\o.dict=P7)\/
   (T="dict"/\((∃kvs,H p=P6 (.dK kvs))\/∃m ep kvs,H p=P6 (.dT m ep kvs)))\/(T="set"/\∃S n,H p=P6 (.set S n))
 |_=>False
theorem vT{s:Qd}{T:String}(I:Inv X pins Y H s)(r:RelV x v)(ty:IV X.K T x H) :
  s.TypeIs v T/\∀a,v=.ref a->∃ob,s.heap.get? a=P6 ob/\ob.dict=P7:=by
 cases x with
 |str z=>
  obtain⟨t,rfl⟩:=r;cases(show T="str" from ty)
  exact⟨typeIs_str s z t,λ_ e=>nomatch e⟩
 |int i=>
  obtain⟨t,rfl⟩:=r;cases(show T="int" from ty)
  exact⟨typeIs_int s i t,λ_ e=>nomatch e⟩
 |ref p=>
  cases r;rcases ty with⟨rfl,xs,hq⟩|⟨rfl,o,hk,hc,hd⟩|⟨rfl,hk⟩|⟨rfl,S,n,hk⟩
  ·obtain⟨its,_,pl,_⟩:=I.list hq;refine⟨pl.isList.typeIs,λa e=>?_⟩;cases e;obtain⟨o,n,e,c,hd,_⟩:=pl;exact⟨o,e,hd⟩
  ·refine⟨⟨o,I.kIn p o hk,hc⟩,λa e=>?_⟩;cases e;exact⟨o,I.kIn _ o hk,hd⟩
  ·have z:∃o,s.heap.get? p=P6 o/\o.ExactDict:=by
    rcases hk with⟨kvs,hk⟩|⟨_,_,kvs,hk⟩
    ·obtain⟨_,_,_,_,o,_,_,e,ex,_⟩:=I.hok p _ hk;exact⟨o,e,ex⟩
    ·obtain⟨_,_,_,_,o,_,e,ex,_⟩:=I.hok p _ hk;exact⟨o,e,ex⟩
   obtain⟨o,e,ex⟩:=z;refine⟨⟨o,e,ex.1⟩,λa e2=>?_⟩;cases e2;exact⟨o,e,ex.2.1⟩
  ·obtain⟨o,_,_,_,e,ex,_⟩:=I.hok p _ hk;refine⟨⟨o,e,ex.1⟩,λa e2=>?_⟩;cases e2;exact⟨o,e,ex.2.1⟩
 |_=>exact False.elim ty
noncomputable def Gq(K:Mz)(T:String)(r:V->List V->Hp->VK->Prop)(to:TE):TE:=λY H Q=>to Y H λx H1=>IV K T x H1/\r x [] H1 Q
noncomputable def L4(K:Mz)(T:String)(r:V->List V->Hp->VK->Prop)(to:TE)(t:TA):TE:=λY H Q=>to Y H λx H1=>IV K T x H1/\t Y H1 λxs H2=>r x xs H2 Q
variable {o e:P9} {es:List P9} {to:TE} {t:TA} {name:Str} {apos cpos:Pos} {T id:String} {r:V->List V->Hp->VK->Prop}
theorem CW(pa:PlainAttrs T)(slot:Slot T name id)(hty:typeOf (.builtin id)=pure (.type "method_descriptor"))(hm:Gk X id r)(ho:PE X o to)
  (hbase:attributeBase o name X.env (eval o X.env)=eval o X.env:=by rfl) (hline:(apos.endLine==cpos.line)=P8:=by rfl):PE X (.Call (.Attribute o name apos) [] [] cpos) (Gq X.K T r to):=by
 intro pins s Y H Q I h;refine wpAny_Call_method0_late hbase hline (aV (ho pins s Y H _ I h) λv s1 ⟨x,H1,I1,r1,ty,q1⟩=>?_);obtain⟨h1,h2⟩:=vT I1 r1 ty;exact⟨T,id,pa,slot,hty,h1,h2,Calls.callWith_builtin rfl (PySem.evalArgs_none (hm pins s1 Y H1 x [] v [] Q I1 r1 .nil q1))⟩
theorem Gr(pa:PlainAttrs T)(slot:Slot T name id)(hty:typeOf (.builtin id)=pure (.type "method_descriptor"))(hm:Gk X id r)(ho:PE X o to)(ha:PA X (e::es) t)
  (hbase:attributeBase o name X.env (eval o X.env)=eval o X.env:=by rfl)
  (hfew:((backTo cpos (Qm (e::es) X.env)).all (λx=>!x.1)&&(backToKw cpos (keywordEach [] X.env)).all (λx=>x.1.isSome)
   && decide ((e::es).length+([]:List Keyword).length+(if([]:List Keyword).isEmpty then 0 else 1)<30))=P8:=by rfl)
  (hline:(apos.endLine==cpos.line)=P8:=by rfl) (hs:Qm (e::es) X.env=(Qb,eval e X.env)::Qm es X.env:=by rfl) (hplain:(backTo cpos (Qm es X.env)).any (·.1)=Qb:=by rfl) :
  PE X (.Call (.Attribute o name apos) (e::es) [] cpos) (L4 X.K T r to t):=by
 intro pins s Y H Q I h;refine wpAny_Call_method_late hbase hfew hline rfl (aV (ho pins s Y H _ I h) λv s1 ⟨x,H1,I1,r1,ty,q1⟩=>?_);obtain⟨h1,h2⟩:=vT I1 r1 ty;refine⟨T,id,pa,slot,hty,h1,h2,?_⟩;have hA:=ha cpos pins s1 Y H1 _ I1 q1;rw[hs] at hA⊢
 refine Calls.callWith_builtin (by show(Qb||(backTo cpos (Qm es X.env)).any (·.1))=Qb;rw[hplain]<;>rfl) (Calls.evalArgs_plain ?_)
 exact aV hA λus s2 ⟨vs,H2,I2,r2,q2⟩=>hm pins s2 Y H2 x vs v us Q I2 r1 r2 q2
/- xs.append(e),list.index on a module's tuple .. are Gk facts of 06m -/
end
end L2
namespace L2
open PySem PySem.Spec PyProof.Rows
noncomputable def LC(X:Cx)(id:String)(r:V->List V->Hp->VK->Prop):Prop:=
 ∀(pins:List (Qc×Obj)) (s:Qd) (Y:St) (H:Hp) (x:V) (xs:List V) (v:Qa) (us:List Qa) (Q:VK),Inv X pins Y H s->RelV x v->Vals xs us->r x xs H Q->
  Qf (Qg X.prog X.w) X.A (call (.builtin id) (v::us)) (EP X pins Y Q) X.xe s
theorem Vals.one:∀{x:V} {us:List Qa},Vals [x] us->∃u,us=[u]/\RelV x u
 |_,_,.cons r .nil=>⟨_,rfl,r⟩
section
variable {X:Cx} {pins:List (Qc×Obj)} {Y:St} {H:Hp} {s:Qd} {l b:Qc} {xs ys zs:List V}
theorem Inv.lset{its its':List Qa}{n:Nat}{f:Array Qa->Array Qa}{t':Nat}(I:Inv X pins Y H s)(hH:H l=P6 (.lst xs))
  (e:s.heap.get? l=P6 { cls:=.type "list",data:=.seq its.toArray n }) (hf:f its.toArray=its'.toArray) (hv:Vals ys its') (hz:ys.length<=sizeLine) :
  Inv X pins Y (upd H l (.lst ys)) { s with heap:=s.heap.update l (Obj.mapSeq f),toks:=t' }:=by
 have q:=PySem.IsL.update e f;rw[hf] at q;refine I.write (x:=l) (e:=l) (by rw[hH];exact trivial) (.inl rfl) (λb' u hb hu=>(Ol s.heap (Obj.mapSeq f) (Ne.symm hb)).trans hu) ⟨_,q⟩ ?_;exact⟨hz,its',_,hv,q⟩
theorem Inv.lnew{its:List Qa}{t':Nat}(I:Inv X pins Y H s)(hv:Vals ys its)(hz:ys.length<=sizeLine) :
  Inv X pins Y (upd H s.heap.objs.size (.lst ys)) { s with heap:=s.heap.push { cls:=.type "list",data:=.seq its.toArray },toks:=t' }:=
 I.laid (λ_ _ q=>MC _ q) (MH _) ⟨hz,its,0,hv,MP _ rfl⟩
theorem Inv.fresh(I:Inv X pins Y H s):H s.heap.objs.size=P7:=I.hok.fresh (MH _)
theorem Inv.lstM(I:Inv X pins Y H s)(hH:H l=P6 (.lst xs)):xs.length<=sizeLine/\∃(its:List Qa) (n:Nat),Vals xs its/\xs.length=its.length/\s.heap.get? l=P6 { cls:=.type "list",data:=.seq its.toArray n }:=by
 obtain⟨z,its,n,r,e⟩:=I.hok l _ hH;exact⟨z,its,n,r,r.length,e⟩
theorem vU{n:Nat}(h:n<=sizeLine):Builtin.List.listTooLong n=Qb:=by
 unfold Builtin.List.listTooLong;exact decide_eq_false (by lia)
end
section
variable {X:Cx}
noncomputable def rW:V->List V->Hp->VK->Prop:=λx vs H Q=>∃l xs y,x=.ref l/\vs=[y]/\H l=P6 (.lst xs)/\xs.length<sizeLine/\Q .non (upd H l (.lst (xs++[y])))
theorem lu:LC X "list.append" rW:=by
 intro pins s Y H x vs v us Q I rx rv h;obtain⟨l,xs,y,rfl,rfl,hH,hz,q⟩:=h;cases rx;obtain⟨u,rfl,ru⟩:=rv.one;obtain⟨z,its,n,r,hl,e⟩:=I.lstM hH;refine call_meets F.slot_list_append ⟨_,e,rfl⟩ F.entry_list_append (F.args_list_append_2 _ _) (PySem.list_append l its.toArray n u (by rw[MQ];lia)) ⟨e,?_⟩;refine⟨.non,_,I.lset (its':=its++[u]) hH e (by simp) (r.append (.cons ru .nil)) ?_,rfl,q⟩;rw[MX,Pk]
 lia
noncomputable def rX:V->List V->Hp->VK->Prop:=λx vs H Q=>∃l b xs zs,x=.ref l/\vs=[.ref b]/\H l=P6 (.lst xs)/\H b=P6 (.lst zs)/\xs.length+zs.length<=sizeLine/\Q .non (upd H l (.lst (xs++zs)))
theorem uC:LC X "list.extend" rX:=by
 intro pins s Y H x vs v us Q I rx rv h;obtain⟨l,b,xs,zs,rfl,rfl,hH,hBq,hz,q⟩:=h;cases rx;obtain⟨u,rfl,ru⟩:=rv.one;cases ru;obtain⟨z,its,n,r,hl,e⟩:=I.lstM hH;obtain⟨z2,its2,n2,r2,hl2,e2⟩:=I.lstM hBq;have hsz:its.toArray.size+its2.toArray.size<=sizeLine:=by rw[MQ,MQ];lia
 have hlong:¬(!its.toArray.isEmpty&&Builtin.List.listTooLong (its.toArray.size+its2.toArray.size))=P8:=by
  rw[vU hsz,Bool.and_false];exact NA
 refine call_meets F.slot_list_extend ⟨_,e,rfl⟩ F.entry_list_extend (F.args_list_extend_2 _ _)
  (AutoSeq1.list_extend_list_list_0 l its.toArray n b its2.toArray n2 hlong (by rw[MQ];lia) (by lia)) ⟨e,e2,?_⟩
 refine⟨.non,_,I.lset (its':=its++its2) hH e (by simp) (r.append r2) ?_,rfl,q⟩;rw[MX]
 lia
noncomputable def JP:R2:=λx y H Q=>∃l b xs zs,x=.ref l/\y=.ref b/\H l=P6 (.lst xs)/\H b=P6 (.lst zs)/\xs.length+zs.length<=sizeLine/\∀p,H p=P7->Q (.ref p) (upd H p (.lst (xs++zs)))
theorem CY:jh X (binaryOp .Add) JP:=by
 intro pins s Y H x y v u Q I rx ry h;obtain⟨l,b,xs,zs,rfl,rfl,hH,hBq,hz,q⟩:=h;cases rx;cases ry;obtain⟨z,its,n,r,hl,e⟩:=I.lstM hH;obtain⟨z2,its2,n2,r2,hl2,e2⟩:=I.lstM hBq;refine PySem.P.add_list e e2 ?_ (by rw[MQ,MQ];lia);have ea:its.toArray++its2.toArray=(its++its2).toArray:=by simp
 rw[ea];exact⟨.ref _,_,I.lnew (t':=s.toks) (r.append r2) (by rw[MX];lia),rfl,q _ I.fresh⟩
end
section
variable {prog:Qi} {w:Qj} {A:Qk} {E:Qa->Qd->Prop} {s:Qd}
end
section
variable {X:Cx}
end
end L2
namespace Att
open PySem PySem.W PySem.Calls PyProof.Rows
theorem jk:∀(ns:List Int) (vs:List Qa),WellAll P h vs (ns.map WData.int)->IntsAre vs ns:=by
 intro ns
 induction ns with
 |nil=>
  intro vs w;rw[OZ] at w;cases w;exact .nil
 |cons n ns ih=>
  intro vs w;rw[MU] at w
  cases w with
  |cons a b=>
   cases a;exact .cons _ _ (ih _ b)
theorem uD{l:OpenLaw}{n:Nat}(hn:l.most=P6 n){P:Params}{h:Qn}{args:List WData}{vals:List Qa}
  (hpre:l.row.toRowW.claim.pre args=P8) (hwl:WellAll P h vals args) :
  ∃a vs ns,vals=[Value.ref a]/\args=[WData.list (ns.map WData.int)]/\h.get? a=P6 { cls:=.type "list",data:=.seq vs.toArray }/\IntsAre vs ns/\ns.length<=n:=by
 have hsh:WShape.hasAll [] args [.list .int]=P8:=(pre_splitW hpre).1;have hc:l.pre.holds [] { args:=args }=P8:=(pre_splitW hpre).2;obtain⟨d,r,rfl,h1,h2⟩:=hasAllW_cons hsh;obtain rfl:=hasAllW_nil h2;obtain⟨xs,rfl,h3⟩:=hasW_list h1;obtain⟨ns,rfl⟩:=items_int h3
 have hlen:ns.length<=n:=by
  unfold OpenLaw.pre at hc
  have h4:(WTm.not (.lt (.lit (.int (n:Int))) (.len (.arg 0)))).holds [] { args:=[.list (ns.map .int)] }=P8:=by
   have h4:=(holds_andW hc).1;rw[hn] at h4;exact h4
  have h5:=condW_of h4 (w_not (w_lt w_lit (w_len_list (w_arg rfl))));rw[MB] at h5;refine Nat.le_of_not_lt λq=>?_;have q':(n:Int)<((ns.length:Nat):Int):=by lia
  first
   |(rw[decide_eq_true q'] at h5;exact absurd h5 (by decide))
   |(simp at h5;lia)
 cases hwl with
 |cons w1 w2=>
  cases w2
  cases w1 with
  |list ho hall=>exact⟨_,_,ns,rfl,rfl,ho,jk ns _ hall,hlen⟩
theorem uE(l:OpenLaw)(args:List WData):l.row.toRowW.claim.post args (.bool P8) args=P8:=
 postW_of (r:=l.row.toRowW) (X:=(P8==P8))
  (show WShape.has [] (.bool P8) .bool=P8 by first|rfl|decide|simp[WShape.has,WShape.arms,WShape.armsAll])
  (show(WTm.eq .res (.lit (.bool P8))).value [] { args:=args,res:=P6 (.bool P8),after:=args }=P6 (.bool (P8==P8)) from w_eq_bool (w_res rfl) w_lit) rfl
theorem nY{l:OpenLaw}{n:Nat}{YP:Qj->Qn->Prop}{d:DefRec}(hn:l.most=P6 n)(hdf:d.params.defaults=[])(call:∀(w:Qj) (s₀ s₁:Qd) (mg mb:Str->Option Qa) (fa:Qc) (o:Obj) (pm cd doc:Qa) (a:Qc) (vs:List Qa) (ns:List Int),
   Ground q loose [] XP w s₀ mg mb s₁.heap->YP w s₁.heap->
   s₁.heap.get? fa=P6 o->o.data=.func (docDef d.name d.params d.body d.scope pm cd doc)->s₁.heap.CodeRec cd d.name->mg d.name=P6 (.ref fa)->
   s₁.heap.get? a=P6 { cls:=.type "list",data:=.seq vs.toArray }->IntsAre vs ns->ns.length<=n->s₁.gens=#[]->
   codeAny (Qg l.prog w) callerA (.call (.ref fa) ⟨[.ref a],[]⟩) (λr s'=>r=.ok (.ret (.bool P8))/\OldK s₁.heap s'.heap/\s'.os=s₁.os/\AllBare s'.gens) s₁) :
  WalkO q loose XP YP l.row.toRowW d [] (λf vs=>PySem.call f vs):=by
 intro w s₀ s₁ mg mb G Yq fa o pm cd doc dV kV ho hd hcd hD hmg hg args vals as hpre hlay hrd hwl hlo;obtain rfl:dV=.none:=Dflts.none hD hdf;obtain rfl:kV=.none:=Dflts.noKw hD;obtain⟨a,vs,ns,rfl,rfl,hobj,hints,hlen⟩:=uD hn hpre hwl;refine enter_call (codeAny_mono (call w s₀ s₁ mg mb fa o pm cd doc a vs ns G Yq ho (fd_plain hd) hcd hmg hobj hints hlen hg) λr s' hq=>?_);obtain⟨rfl,h2,h3,h4⟩:=hq
 exact⟨.inl ⟨.bool P8,.bool P8,[],rfl,λ_=>rfl,.bool P8,uE l _,λ_=>⟨List.Pairwise.nil,λ_ hm=>(nomatch hm)⟩⟩,h2,h3,h4⟩
section
variable {prog:Qi} {w:Qj} {A:Qk} {E:Qa->Qd->Prop} {s:Qd} {K:Frag}
end
end Att
namespace L2
open PySem PySem.Spec PyProof.Rows
theorem lw:∀{vs:List Qa} {ns:List Int},IntsAre vs ns->Vals (ns.map V.int) vs
 |_,_,.nil=>.nil
 |_,_,.cons n t h=>.cons ⟨t,rfl⟩ (lw h)
noncomputable def CZ(H:Hp):Prop:=∀b,H b=P7\/∃o xs,H b=P6 (.frz o (.lst xs))
theorem vV{K:Mz}{mg mb:Str->Option Qa}{k:Nat}{x:Str}{s₁:Qd}{vs:List Qa}{ns:List Int}(KX:K.In s₁.heap)(hns:s₁.heap.Ns Qp mg)(hb:s₁.heap.Ns builtinsNs mb)(hbb:∀x:Str,x≠"__name__"->mb x=bootBuiltins x)(hlim:s₁.heap.NoLimit)(hg:s₁.gens=#[])(ha:s₁.heap.get? a=P6 { cls:=.type "list",data:=.seq vs.toArray })(hi:IntsAre vs ns)(hl:ns.length<=sizeLine)(hr:Room k callerA)(F:∀base:Qn,K.In base->base.Ns Qp mg->FnOk P w K mg base CX k fa fd [x] sp)(hbind:∀(s:Qd) (u:Qa),BindsTo s fd ⟨[u],[]⟩ [(x,u)])(hsp:∀H:Hp,CZ H->SqL K H a (ns.map V.int)->sp [.ref a] H (λv _=>v=.bl P8) λ_ _ _=>False)(hCX:∀H e s',CX [] H s₁ (λ_ _ _=>False) e s'->False) :
  codeAny (Qg P w) callerA (.call (.ref fa) ⟨[.ref a],[]⟩) (λr s'=>r=.ok (.ret (.bool P8))/\OldK s₁.heap s'.heap/\s'.os=s₁.os/\AllBare s'.gens) s₁:=by
 have rv:=lw hi;have lenV:=hi.length
 -- from an abstract heap in which nothing but the script may be tracked
 have core:∀H:Hp,CZ H->SqL K H a (ns.map V.int)->HOk P w H s₁.heap->(∀b,H b≠P7->b=a)->(H a≠P7->K.lookup a=P7)->
   codeAny (Qg P w) callerA (.call (.ref fa) ⟨[.ref a],[]⟩) (λr s'=>r=.ok (.ret (.bool P8))/\OldK s₁.heap s'.heap/\s'.os=s₁.os/\AllBare s'.gens) s₁:=by
  intro H hO hS hok hA hK;have base_of:∀{b:Qc} {o:Obj},s₁.heap.get? b=P6 o->H b=P7->(l4 s₁.heap H).get? b=P6 o:=λe n=>vA e n
  have noA:∀{b:Qc} {o:Obj} {es:Array DictEntry} {ep:Nat},s₁.heap.get? b=P6 o->o.data=.dict es ep->H b=P7:=λ{b o es ep} e d=>by
   cases q:H b with
   |none=>rfl
   |some u=>
    have e':b=a:=hA b (by rw[q];simp);subst e';rw[ha] at e;cases e;have d':Data.seq vs.toArray _=Data.dict es ep:=d;cases d'
  have gz:∀{b:Qc} {m:Str->Option Qa},s₁.heap.Ns b m->(l4 s₁.heap H).Ns b m:=λ{b m} ⟨o,es,ep,e,d,r⟩=>⟨o,es,ep,base_of e (noA e d),d,r⟩
  have hKb:K.In (l4 s₁.heap H):=λb o e=>base_of (KX b o e) (by
   cases q:H b with
   |none=>rfl
   |some u=>
    have e':b=a:=hA b (by rw[q];simp);subst e';rw[hK (by rw[q];simp)] at e;cases e)
  have hM:Mod K mg (l4 s₁.heap H):=⟨hKb,gz hns,⟨mb,gz hb,hbb⟩,let ⟨mc,h1,h2⟩:=hlim;⟨mc,gz h1,h2⟩⟩;have e0:Env0 P w K mg (l4 s₁.heap H) callerA [] s₁ H:=⟨rfl,hM,λb o e=>yO e,Nat.le_of_eq (um _ _),trivial,λb hb=>absurd (show b∈([]:List Qc) from hb) (by simp),hok,.of_eq hg⟩;refine codeAny_mono ((F _ hKb (gz hns)).run callerA [] s₁ H ⟨[.ref a],[]⟩ [.ref a] [.ref a] _ _ hr e0 (hbind s₁ (.ref a)) (.cons rfl .nil) (hsp H hO hS)) λr s' h=>?_
  cases r with
  |error e=>exact(hCX H e s' h).elim
  |ok fl=>
   cases fl with
   |next=>exact False.elim h
   |brk=>exact False.elim h
   |cont=>exact False.elim h
   |ret u=>
    obtain⟨v,H',os,bare,un,hok',r',q⟩:=h;have q':v=.bl P8:=q;subst q';obtain rfl:u=Value.bool P8:=r';refine⟨rfl,OldK.of_keep λb o e=>?_,os,bare⟩
    cases q:H b with
    |none=>exact un.keep b o e q (by intro z;exact absurd (show b∈([]:List Qc) from z) (by simp)) (by simp)
    |some u=>
     rcases hO b with z|⟨ob,xs,z⟩
     ·rw[q] at z;cases z
     ·have z2:=un.frzs b ob _ z;obtain⟨e1,_⟩:=hok b _ z;obtain⟨e2,_⟩:=hok' b _ z2;rw[e] at e1;cases e1;exact e2
 cases hk:K.lookup a with
 |some o=>
  -- the script is one of the module's own objects
  have e:=KX a o hk;rw[ha] at e;cases e;refine core (λ_=>P7) (λ_=>.inl rfl) (.inr ⟨_,vs.toArray,_,hk,rfl,rfl,rfl,by rw[MQ,lenV];exact hl,by simpa using rv⟩) (λb u z=>by have z':(P7:Option HO)=P6 u:=z;cases z') (λb z=>absurd rfl z) λz=>absurd rfl z
 |none=>
  refine core (λb=>if b=a then P6 (.frz { cls:=.type "list",data:=.seq vs.toArray } (.lst (ns.map V.int))) else P7) (λb=>?_) (.inl (.inr ⟨{ cls:=.type "list",data:=.seq vs.toArray },if_pos rfl⟩)) (λb u z=>?_) (λb z=>?_) λ_=>hk
  ·by_cases hb:b=a
   ·exact .inr ⟨_,_,if_pos hb⟩
   ·exact .inl (if_neg hb)
  ·by_cases hb:b=a
   ·have z':=(if_pos hb).symm.trans z;cases z';subst hb;exact⟨ha,by rw[MB];exact hl,vs,_,rv,ha⟩
   ·have z':=(if_neg hb).symm.trans z;cases z'
  ·by_cases hb:b=a
   ·exact hb
   ·exact absurd (if_neg hb) z
end L2
namespace L2
open PySem PySem.Spec PyProof.Rows
theorem zc{l:PySem.W.OpenLaw}{n k:Nat}{YP:Qj->Qn->Prop}{d:DefRec}{K:Params->Mz}{CX:Qj->uz}{sp:Qj->Sp}{x:Str}(hn:l.most=P6 n)(hn2:n<=sizeLine)(hdf:d.params.defaults=[])(hr:Room k callerA)(hYq:∀(w:Qj) (h:Qn),YP w h->(K w.params).In h)(F:∀(w:Qj) (mg:Str->Option Qa) (fa:Qc) (h:Qn),(K w.params).In h->h.Ns Qp mg->mg d.name=P6 (.ref fa)->
   ∃fd:Qw,(∀(s:Qd) (u:Qa),BindsTo s fd ⟨[u],[]⟩ [(x,u)])/\
    ∀base:Qn,(K w.params).In base->base.Ns Qp mg->FnOk l.prog w (K w.params) mg base (CX w) k fa fd [x] (sp w))(hsp:∀(w:Qj) (H:Hp) (a:Qc) (ns:List Int),ns.length<=n->CZ H->SqL (K w.params) H a (ns.map V.int)->sp w [.ref a] H (λv _=>v=.bl P8) λ_ _ _=>False)(hCX:∀(w:Qj) (H:Hp) (s:Qd) (e:Qa) (s':Qd),CX w [] H s (λ_ _ _=>False) e s'->False) :
  PySem.W.WalkO q loose XP YP l.row.toRowW d [] (λf vs=>PySem.call f vs):=by
 refine Att.nY hn hdf λw s₀ s₁ mg mb fa o pm cd doc a vs ns G Yq ho hd hcd hmg hobj hints hlen hg=>?_;have KX:=hYq w _ Yq;obtain⟨fd,hb,hF⟩:=F w mg fa _ KX G.T.g hmg;exact vV KX G.T.g G.T.b G.T.builtins G.T.nolimit hg hobj hints (M0 hlen hn2) hr hF hb (λH hO hS=>hsp w H a ns hlen hO hS) λH e s'=>hCX w H s₁ e s'
end L2
namespace L2
open PySem PySem.Spec PyProof.Rows
noncomputable def cJ(s:Ql):Arguments:=match s with
 |.FunctionDef _ a _ _ _ _ _ _ _ _=>a
 |_=>{ posonlyargs:=[],args:=[],vararg:=P7,kwonlyargs:=[],kw_defaults:=[],kwarg:=P7,defaults:=[] }
noncomputable def aQ(s:Ql):List Ql:=match s with
 |.FunctionDef _ _ b _ _ _ _ _ _ _=>b
 |_=>[]
noncomputable def ab(s:Ql):Qo:=match s with
 |.FunctionDef _ _ _ _ _ _ sc _ _ _=>sc
 |_=>{ kind:=.function,names:=[],isGenerator:=Qb,isCoroutine:=Qb }
noncomputable abbrev nB:uz:=λ_ _ _ _ _ _=>False
noncomputable abbrev E0:XK:=λ_ _ _=>False
theorem nZ:fX nB X E0:=λ_ _ _ _ _ _ _ h=>h.elim
structure Fun(K:Mz)(x qual:Str)(st:Stmt)(f:Addr)(fd:FuncData):Prop where
 ex:∃(oc:Qa) (od:Option Qc) (kV doc pm:Qa) (an:Option Qc) (cdv ct:Qa) (osl:Array (Option Qa)),
  fd=NG x qual (cJ st) (aQ st) (ab st) .none kV doc pm an cdv ct/\K.lookup f=P6 ⟨oc,od,.func fd,osl⟩/\Oz K cdv qual=P8
 kp:Nw K (.ref f)=P8
section
variable {P:Qi} {w:Qj} {K:Mz} {mg:Str->Option Qa} {base:Qn}
theorem Fun.ok{x qual:Str}{st:Ql}{f:Qc}{fd:Qw}{N ps:List Str}{k:Nat}{sp:Sp}(F:Fun K x qual st f fd)(S:ar N ps (ab st))(len:∀vs H Q E,sp vs H Q E->vs.length=ps.length)
  (hbody:∀(cdv:Qa) (A:Qk) (outer:List Env) (s:Qd) (H:Hp) (vs:List V) (Q:VK) (E:XK),Room k (A.deeper (envOfC qual (ab st) s.heap.objs.size f cdv))->sp vs H Q E->
   ∃t,PSs (l8 nB P w K mg base N qual (ab st) f cdv A outer s H E).nox (aQ st) t/\t { nx:=λ_ H'=>Q .non H',rt:=Q } (bU N vs) H):FnOk P w K mg base nB (k+1) f fd ps sp:=by
 obtain⟨oc,od,kV,doc,pm,an,cdv,ct,osl,rfl,lk,hcd⟩:=F.ex;refine Gi lk hcd S len λA outer s H vs Q E hr hsp=>?_;obtain⟨t,h,q⟩:=hbody cdv A outer s H vs Q E hr hsp;exact⟨t,h.nox,q⟩
theorem Fun.binds{x qual:Str}{st:Ql}{f:Qc}{fd:Qw}{ps:List Str}(F:Fun K x qual st f fd)
  (h:∀(kV doc pm:Qa) (an:Option Qc) (cdv ct:Qa) (us:List Qa),us.length=ps.length->bindArgs (NG x qual (cJ st) (aQ st) (ab st) .none kV doc pm an cdv ct) ⟨us,[]⟩=pure (ps.zip us)):Binds K fd ps []:=by
 obtain⟨oc,od,kV,doc,pm,an,cdv,ct,osl,rfl,lk,hcd⟩:=F.ex;exact .all (h kV doc pm an cdv ct)
theorem vW{x qual:Str}{st:Ql}{f:Qc}{oc:Qa}{od an:Option Qc}{osl:Array (Option Qa)}{kV doc pm cdv ct:Qa}(l:K.lookup f=P6 ⟨oc,od,.func (NG x qual (cJ st) (aQ st) (ab st) .none kV doc pm an cdv ct),osl⟩)
  (c:Oz K cdv qual=P8) (k:Nw K (.ref f)=P8):Fun K x qual st f (NG x qual (cJ st) (aQ st) (ab st) .none kV doc pm an cdv ct):=⟨⟨oc,od,kV,doc,pm,an,cdv,ct,osl,rfl,l,c⟩,k⟩
end
section
variable {X:Cx}
end
theorem vX{A Bqq:Prop}(h:Bqq):if Qb=P8 then A else Bqq:=by
 rw[if_neg NA];exact h
theorem vY{A Bqq:Prop}(h:A):if P8=P8 then A else Bqq:=by
 rw[if_pos rfl];exact h
noncomputable def Same(H H':Hp):Prop:=∀b o,H b=P6 o->H' b=P6 o
theorem Same.refl(H:Hp):Same H H:=λ_ _ h=>h
theorem Same.trans(a:Same H H1)(b:Same H1 H2):Same H H2:=λc o h=>b c o (a c o h)
theorem Same.free{H H':Hp}(e:Same H H'){l:Qc}(h:H' l=Option.none):H l=Option.none:=by
 cases q:H l with
 |none=>rfl
 |some o=>
  rw[e l o q] at h;cases h
end L2
namespace HT
open PySem PySem.Spec PyProof.Rows
section
variable {prog:Qi} {w:Qj} {A:Qk} {E:Qa->Qd->Prop} {s:Qd}
end
end HT
namespace L2
open PySem PySem.Spec PyProof.Rows
section
variable {X:Cx}
end
end L2
namespace L2
open PySem PySem.Spec PyProof.Rows
section
variable {κ:Type} [DecidableEq κ]
noncomputable def gA(kvs:List (κ×V))(k:κ):Option V:=(kvs.find? λkv=>decide (kv.1=k)).map (·.2)
noncomputable def bv(kvs:List (κ×V))(k:κ)(v:V):List (κ×V):=
 if(kvs.any λkv=>decide (kv.1=k))=P8 then kvs.map (λkv=>if kv.1=k then(kv.1,v) else kv) else kvs++[(k,v)]
theorem jP{p:κ×V}(e:p.1=k):gA (p::r) k=P6 p.2:=by simp[gA,NH,e]
theorem jQ{p:κ×V}(e:¬p.1=k):gA (p::r) k=gA r k:=by simp[gA,NH,e]
theorem n4(k:κ):∀kvs:List (κ×V),(kvs.any λkv=>decide (kv.1=k))=(gA kvs k).isSome
 |[]=>rfl
 |p::r=>by
  rw[OJ];by_cases e:p.1=k
  ·simp only[jP e,decide_eq_true e,Bool.true_or,PC]
  ·rw[jQ e,decide_eq_false e,Bool.false_or];exact n4 k r
theorem bQ(kvs:List (κ×V))(k:κ)(v:V):(bv kvs k v).length<=kvs.length+1:=by
 unfold bv;split
 ·rw[MB];lia
 ·rw[MX,MY,O9];lia
theorem RelO.isSome_eq{o:Option V}{u:Option Qa}(r:RelO o u):o.isSome=u.isSome:=by
 cases o with
 |none=>cases u with
  |none=>rfl
  |some _=>exact(show False from r).elim
 |some _=>cases u with
  |none=>exact(show False from r).elim
  |some _=>rfl
theorem KV.val(r:KV kvs vs)(k:κ):RelO (gA kvs k) (valueAt vs k):=by
 unfold KV at r
 induction r with
 |nil=>exact True.intro
 |@cons p q ps qs h t ih=>
  obtain⟨h1,h2⟩:=h;by_cases e:p.1=k
  ·have e':q.1=k:=h1.symm.trans e;have b:valueAt (q::qs) k=P6 q.2:=by simp[valueAt,NH,e']
   rw[jP e,b];exact h2
  ·have e':¬q.1=k:=λz=>e (h1.trans z);have b:valueAt (q::qs) k=valueAt qs k:=by simp[valueAt,NH,e']
   rw[jQ e,b];exact ih
theorem KV.any{kvs:List (κ×V)}{vs:List (κ×Qa)}(r:KV kvs vs)(k:κ):(kvs.any λkv=>decide (kv.1=k))=vs.any λkv=>decide (kv.1=k):=by
 unfold KV at r
 induction r with
 |nil=>rfl
 |cons h t ih=>rw[OJ,OJ,ih,h.1]
theorem KV.repl{kvs:List (κ×V)}{vs:List (κ×Qa)}(r:KV kvs vs)(k:κ){y:V}{u:Qa}(ry:RelV y u) :
  KV (kvs.map λkv=>if kv.1=k then(kv.1,y) else kv) (vs.map λkv=>if kv.1=k then(kv.1,u) else kv):=by
 unfold KV at r⊢
 induction r with
 |nil=>exact .nil
 |@cons p q ps qs h t ih=>
  rw[MU,MU];refine .cons ?_ ih;obtain⟨h1,h2⟩:=h;by_cases e:p.1=k
  ·rw[if_pos e,if_pos (h1.symm.trans e)];exact⟨h1,ry⟩
  ·rw[if_neg e,if_neg (λz=>e (h1.trans z))];exact⟨h1,h2⟩
theorem KV.put(r:KV kvs vs)(k:κ){y:V}{u:Qa}(ry:RelV y u):KV (bv kvs k y) (stored vs k u):=by
 unfold bv stored;rw[r.any k];by_cases e:(vs.any λkv=>decide (kv.1=k))=P8
 ·rw[if_pos e,if_pos e];exact r.repl k ry
 ·rw[if_neg e,if_neg e];exact Paired.snoc r ⟨rfl,ry⟩
theorem KV.length{kvs:List (κ×V)}{vs:List (κ×Qa)}(r:KV kvs vs):kvs.length=vs.length:=Paired.length r
end
theorem jR(r:RelV (kV k) u):(aA P w).is k u=P8:=by
 cases k with
 |inl i=>obtain⟨t,e⟩:=(show ∃t,u=Value.int i t from r);subst e;exact nI P w i t
 |inr x=>obtain⟨t,e⟩:=(show ∃t,u=Value.str x t from r);subst e;exact nJ P w x t
theorem lx:∀{ks:List aw} {us:List Qa},Vals (ks.map kV) us->ItemsAre (aA P w) ks us
 |[],_,r=>by rw[OZ] at r;cases r;exact .nil
 |k::ks,_,r=>by
  rw[MU] at r
  cases r with
  |cons h t=>exact .cons (jR h) (lx t)
noncomputable abbrev KT(m:Nat)(H:Hp):List (List (aw ⊕ List aw)×V)->List (List (aw ⊕ List aw)×Qc×Qa)->Prop:=Paired λp q=>p.1=q.1/\TkAt H m p.1 q.2.1/\RelV p.2 q.2.2
theorem KT.val{m:Nat}(r:KT m H kvs xs)(k:List (aw ⊕ List aw)):RelO (gA kvs k) ((atKey xs k).map (·.2)):=by
 induction r with
 |nil=>exact True.intro
 |@cons p q ps qs h t ih=>
  obtain⟨h1,_,h2⟩:=h;by_cases e:p.1=k
  ·have e':q.1=k:=h1.symm.trans e;have b:atKey (q::qs) k=P6 q.2:=by simp[atKey,NH,e']
   rw[jP e,b];exact h2
  ·have e':¬q.1=k:=λz=>e (h1.trans z);have b:atKey (q::qs) k=atKey qs k:=by simp[atKey,NH,e']
   rw[jQ e,b];exact ih
theorem KT.repl{m:Nat}{kvs:List (List (aw ⊕ List aw)×V)}{xs:List (List (aw ⊕ List aw)×Qc×Qa)}(r:KT m H kvs xs)(k:List (aw ⊕ List aw)){y:V}{u:Qa}(ry:RelV y u) :
  KT m H (kvs.map λkv=>if kv.1=k then(kv.1,y) else kv) (xs.map (putAt k u)):=by
 induction r with
 |nil=>exact .nil
 |@cons p q ps qs h t ih=>
  rw[MU,MU];refine .cons ?_ ih;obtain⟨h1,h2,h3⟩:=h;unfold putAt;by_cases e:p.1=k
  ·rw[if_pos e,if_pos (h1.symm.trans e)];exact⟨h1,h2,ry⟩
  ·rw[if_neg e,if_neg (λz=>e (h1.trans z))];exact⟨h1,h2,h3⟩
theorem KT.put{m:Nat}{H:Hp}{kvs:List (List (aw ⊕ List aw)×V)}{xs:List (List (aw ⊕ List aw)×Qc×Qa)}(r:KT m H kvs xs)(k:List (aw ⊕ List aw)){b:Qc}{y:V}{u:Qa}(hb:TkAt H m k b)(ry:RelV y u) :
  KT m H (bv kvs k y) (storedH xs k b u):=by
 have e:(kvs.any λkv=>decide (kv.1=k))=(atKey xs k).isSome:=by
  rw[n4,(r.val k).isSome_eq,Option.isSome_map]
 unfold bv storedH;rw[e];by_cases q:(atKey xs k).isSome=P8
 ·rw[if_pos q,if_pos q];exact r.repl k ry
 ·rw[if_neg q,if_neg q];exact Paired.snoc r ⟨rfl,hb,ry⟩
theorem KT.keeps{m:Nat}{H H':Hp}(r:KT m H kvs xs)(ht:∀b ys,H b=P6 (.tup ys)->H' b=P6 (.tup ys)):KT m H' kvs xs:=
 Paired.mapP r λ_ _ z=>⟨z.1,z.2.1.keep ht,z.2.2⟩
section
variable {P:Qi} {w:Qj} {H:Hp} {h:Qn} {a:Qc}
theorem Bo(ok:HOk P w H h)(e:Rd H a u):ObjOk P w H h a u:=e.ok ok
theorem vZ{kvs:List (aw×V)}(ok:HOk P w H h)(e:Rd H a (.dK kvs)):kvs.length<=sizeLine/\(a==sysModules)=Qb/\∃vs,KV kvs vs/\h.DictOf (aA P w) a vs:=
 show ObjOk P w H h a (.dK kvs) from Bo ok e
theorem n5{kvs:List (aw×V)}(ok:HOk P w H h)(e:H a=P6 (.dK kvs)):kvs.length<=sizeLine/\(a==sysModules)=Qb/\∃vs,KV kvs vs/\h.DictOf (aA P w) a vs:=vZ ok (.inl e)
theorem C0{ks:List aw}(ok:HOk P w H h)(e:H a=P6 (.tup (ks.map kV))):(tupleKind (aA P w)).is h ks a:=by
 obtain⟨_,its,r,o,h1,h2,n,h3⟩:=(show ObjOk P w H h a (.tup (ks.map kV)) from ok a _ e);exact⟨o,its.toArray,n,h1,h2,h3,by simpa using lx r⟩
theorem lz{A:Qk}{m:Nat}(hu:A.units+9<cLine):(cZ m (aA P w)).room A.in1:=by
 show A.units+1+8<cLine
 lia
theorem jS:∀{m:Nat} {ks:List (aw ⊕ List aw)} {vs:List V} {us:List Qa},HOk P w H h->TkIts H m ks vs->Vals vs us->Its2 (aA P w) h m ks us
 |_,[],_,_,ok,r,v=>by cases(show _=[] from r);cases v;exact .nil
 |m,.inl k::xs,_,_,ok,r,v=>by
  obtain⟨r',rfl,z,t⟩:=r
  cases v with
  |cons h1 h2=>exact .key z (jR h1) (jS ok t h2)
 |m,.inr ks::xs,_,_,ok,r,v=>by
  obtain⟨b,r',rfl,z,g,t⟩:=r
  cases v with
  |@cons _ u _ _ h1 h2=>
   cases(show u=Value.ref b from h1);exact .tup z (C0 ok g) (jS ok t h2)
theorem jw{m:Nat}(ok:HOk P w H h)(e:TkAt H m ks a):(cZ m (aA P w)).is h ks a:=by
 obtain⟨vs,g,r⟩:=e;obtain⟨_,its,q,o,h1,h2,n,h3⟩:=(show ObjOk P w H h a (.tup vs) from ok a _ g);exact⟨o,its.toArray,n,h1,h2,h3,by simpa using jS ok r q⟩
theorem v3{m ep:Nat}{kvs:List (List (aw ⊕ List aw)×V)}(ok:HOk P w H h)(e:Rd H a (.dT m ep kvs)):kvs.length<=sizeLine/\(a==sysModules)=Qb/\
  ∃xs,KT m H kvs xs/\h.DictOfH (cZ m (aA P w)) a xs:=by
 obtain⟨z,y,xs,r,o,es,h1,h2,h3,h4,h5⟩:=(show ObjOk P w H h a (.dT m ep kvs) from Bo ok e);refine⟨z,y,xs,r,o,es,ep,h1,h2,h3,h4,λx hx=>?_,h5⟩
 have all:∀{l:List (List (aw ⊕ List aw)×V)} {n:List (List (aw ⊕ List aw)×Qc×Qa)},KT m H l n->∀x∈n,(cZ m (aA P w)).is h x.1 x.2.1:=by
  intro l n q
  induction q with
  |nil=>intro x hx;exact nomatch hx
  |@cons p q ps qs hq t ih=>
   intro x hx;rcases ML.mp hx with e|hx
   ·subst e;exact jw ok (by rw[<- hq.1];exact hq.2.1)
   ·exact ih x hx
 exact all r x hx
theorem Bp{m ep:Nat}{kvs:List (List (aw ⊕ List aw)×V)}(ok:HOk P w H h)(e:H a=P6 (.dT m ep kvs)):kvs.length<=sizeLine/\(a==sysModules)=Qb/\
  ∃xs,KT m H kvs xs/\h.DictOfH (cZ m (aA P w)) a xs:=v3 ok (.inl e)
end
noncomputable def DGet(H:Hp)(a:Qc)(y:V)(r:Option V):Prop:=
 (∃kvs k,Rd H a (.dK kvs)/\y=kV k/\r=gA kvs k)\/∃m ep kvs k b,Rd H a (.dT m ep kvs)/\y=.ref b/\TkAt H m k b/\r=gA kvs k
noncomputable def DPut(H:Hp)(a:Qc)(y v:V)(F:Nat->Hp):Prop:=
 (∃kvs k,H a=P6 (.dK kvs)/\y=kV k/\kvs.length<sizeLine/\F=λ_=>upd H a (.dK (bv kvs k v)))\/
 ∃m ep kvs k b,H a=P6 (.dT m ep kvs)/\y=.ref b/\TkAt H m k b/\kvs.length<sizeLine/\F=λe=>upd H a (.dT m e (bv kvs k v))
theorem DGet.k{H:Hp}{a:Qc}{kvs:List (aw×V)}{k:aw}(e:H a=P6 (.dK kvs)):DGet H a (kV k) (gA kvs k):=.inl ⟨kvs,k,.inl e,rfl,rfl⟩
theorem DGet.t{H:Hp}{a b:Qc}{m ep:Nat}{kvs:List (List (aw ⊕ List aw)×V)}{k:List (aw ⊕ List aw)}(e:H a=P6 (.dT m ep kvs))(eb:TkAt H m k b):DGet H a (.ref b) (gA kvs k):=.inr ⟨m,ep,kvs,k,b,.inl e,rfl,eb,rfl⟩
theorem DPut.k{H:Hp}{a:Qc}{kvs:List (aw×V)}{k:aw}{v:V}(e:H a=P6 (.dK kvs))(hl:kvs.length<sizeLine):DPut H a (kV k) v λ_=>upd H a (.dK (bv kvs k v)):=.inl ⟨kvs,k,e,rfl,hl,rfl⟩
theorem DPut.t{H:Hp}{a b:Qc}{m ep:Nat}{kvs:List (List (aw ⊕ List aw)×V)}{k:List (aw ⊕ List aw)}{v:V}(e:H a=P6 (.dT m ep kvs))(eb:TkAt H m k b)(hl:kvs.length<sizeLine) :
  DPut H a (.ref b) v λe=>upd H a (.dT m e (bv kvs k v)):=.inr ⟨m,ep,kvs,k,b,e,rfl,eb,hl,rfl⟩
section
variable {X:Cx} {pins:List (Qc×Obj)} {Y:St} {H:Hp} {s:Qd} {a:Qc} {y v:V} {u r:Qa} {o:Option V} {A:Qk} {E:Qa->Qd->Prop}
theorem Inv.big(I:Inv X pins Y H s):sysModules<s.heap.objs.size:=by
 have h:Qp<s.heap.objs.size:=(I.mod.glob.keeps I.bk).lt;exact Oq (by decide) h
theorem uF{Q:Qa->Qd->Prop}(hu:A.units+9<cLine)(I:Inv X pins Y H s)(g:DGet H a y (P6 v))(ry:RelV y u)(h:∀w' s',Inv X pins Y H s'->RelV v w'->Q w' s') :
  Qf (Qg X.prog X.w) A (getItem (.ref a) u) Q E s:=by
 rcases g with⟨kvs,k,e,ey,l⟩|⟨m,ep,kvs,k,b,e,ey,eb,l⟩
 ·subst ey;obtain⟨z,hd,vs,rel,dd⟩:=vZ I.hok e;obtain⟨w',hw,rw'⟩:=RelO.some_of (v:=v) (o:=valueAt vs k) (by rw[l];exact rel.val k);exact wpAny_getItem_of (jR ry) dd.mapOf hw (h w' _ (I.tok _) rw')
 ·subst ey;cases(show u=Value.ref b from ry);obtain⟨z,hd,xs,rel,dd⟩:=v3 I.hok e;obtain⟨w',hw,rw'⟩:=RelO.some_of (v:=v) (o:=(atKey xs k).map (·.2)) (by rw[l];exact rel.val k);obtain⟨p,hp,hp2⟩:=Pf.mp hw;refine wpAny_getItem_heap (lz hu) (jw I.hok eb) dd hp ?_;rw[hp2];exact h w' _ (I.tok _) rw'
theorem gB{h':Qn}{t':Nat}(I:Inv X pins Y H s)(mu:FS (H a))(hs:Heap.SameBut a s.heap h')(he:∃q,h'.get? a=P6 q)(new:ObjOk X.prog X.w (upd H a ob) h' a ob) :
  Inv X pins Y (upd H a ob) { s with heap:=h',toks:=t' }:=
 I.write (x:=a) (e:=a) mu (.inl rfl) (λb q hb z=>(hs.2 b hb).trans z) he new
theorem qe{h':Qn}{kvs:List (aw×V)}(z:kvs.length<=sizeLine)(hd:(a==sysModules)=Qb)(rel:KV kvs vs)(dd:h'.DictOf (aA P w) a vs) :
  ObjOk P w H' h' a (.dK kvs):=⟨z,hd,vs,rel,dd⟩
theorem uG{F:Nat->Hp}{Q:Unit->Qd->Prop}(hu:A.units+9<cLine)(I:Inv X pins Y H s)(g:DPut H a y v F)(ry:RelV y u)(rv:RelV v r)(h:∀e s',Inv X pins Y (F e) s'->Q () s') :
  Qf (Qg X.prog X.w) A (setItem (.ref a) u r) Q E s:=by
 rcases g with⟨kvs,k,e,ey,l,eH⟩|⟨m,ep,kvs,k,b,e,ey,eb,l,eH⟩
 ·subst ey eH;obtain⟨z,hd,vs,rel,dd⟩:=n5 I.hok e;have hz:vs.length<=sizeLine:=by rw[<- rel.length];exact z
  have hl:(bv kvs k v).length<=sizeLine:=by have:=bQ kvs k v;lia
  refine wpAny_setItem_pairs (hsz:=hz) (jR ry) dd λh' dd' hs=>h 0 _ ?_;have he:∃q,h'.get? a=P6 q:=let ⟨q,_,_,hq,_⟩:=dd';⟨q,hq⟩;exact gB I (by rw[e];exact True.intro) hs he (qe hl hd (rel.put k rv) dd')
 ·subst ey eH;cases(show u=Value.ref b from ry);obtain⟨z,hd,xs,rel,dd⟩:=Bp I.hok e;have hz:xs.length<=sizeLine:=by rw[<- Paired.length rel];exact z
  have hl:(bv kvs k v).length<=sizeLine:=by have:=bQ kvs k v;lia
  refine wpAny_setItem_heap (hsz:=hz) (lz hu) (jw I.hok eb) dd λh' dd' hs=>?_;obtain⟨q,es,ep,hq,h2,h3,h4,_,h5⟩:=dd';refine h ep _ ?_;refine gB I (by rw[e];exact True.intro) hs ⟨q,hq⟩ ⟨hl,hd,_,(rel.put k eb rv).keeps λc ys ec=>?_,q,es,hq,h2,h3,h4,h5⟩
  rw[ad (Bh ec e (λz=>nomatch z))]
  exact ec
end
section
variable {X:Cx} {pins:List (Qc×Obj)} {Y:St} {H:Hp} {s:Qd} {a:Qc} {kvs:List (aw×V)} {k:aw} {u:Qa} {A:Qk} {E:Qa->Qd->Prop}
end
noncomputable def Gs(i:P9):Prop:=∀ov iv,subscripted i Qb ov iv=operate [ov,iv] (getItem ov iv)
theorem zd{T id:String}(hl:typeLookup (.type T) "__getitem__" = pure (P6 (.builtin id)))(hs:Gs slice)(h:Qf (Qg prog w) A (eval value env) (λo s₁=>Qf (Qg prog w) A (eval slice env) (λi s₂=>s₂.TypeIs o T/\Qf (Qg prog w) A (getItem o i) Q E s₂) E s₁) E s) :
  Qf (Qg prog w) A (eval (.Subscript value slice pos) env) Q E s:=by
 refine Subscript_ (wpAny_mono h (λo s₁ h₁=>wpAny_mono h₁ (λi s₂ h₂=>?_) λ_ _ x=>x) λ_ _ x=>x);obtain⟨hT,h₂⟩:=h₂;unfold subscriptTail;refine Qe ?_;rw[getitemInPython_of_ne hT.not_modules];refine Qe (wpAny_specialOf hT hl ?_)
 have fin:Qf (Qg prog w) A (subscripted slice Qb o i) (λr s₃=>Qf (Qg prog w) A (letTemporaryGo value o r >>= λ_=>pure r) Q E s₃) E s₂:=by
  rw[hs o i];exact wpAny_operating (wpAny_mono h₂ (λr s₃ h₃=>Qe (wpAny_letTemporaryGo (Qh h₃))) λ_ _ x=>x)
 first
  |exact Qh (Qe fin)
  |exact Qe (Qh (Qe fin))
  |exact Qe fin
theorem n6{s:Qd}(I:Inv X pins Y H s)(g:DGet H a y o):s.TypeIs (.ref a) "dict":=by
 rcases g with⟨kvs,k,e,_,_⟩|⟨m,ep,kvs,k,b,e,_,_,_⟩
 ·obtain⟨_,_,vs,_,dd⟩:=vZ I.hok e;exact dd.typeIs
 ·obtain⟨_,_,xs,_,dd⟩:=v3 I.hok e;exact dd.typeIs
noncomputable def Gu(td ty:TE):TE:=λY H Q=>td Y H λx H1=>ty Y H1 λy H2=>∃a v,x=.ref a/\DGet H2 a y (P6 v)/\Q v H2
noncomputable def Gv(td ty tv:TE):TS:=λD Y H=>tv Y H λv H1=>td Y H1 λx H2=>ty Y H2 λy H3=>∃a F,x=.ref a/\DPut H3 a y v F/\∀e,D.nx Y (F e)
section
variable {X:Cx} {o i e value:P9} {pos pos' tpos:Pos} {td ty tv:TE}
theorem mj(hu:X.A.units+9<cLine)(ho:PE X o td)(hi:PE X i ty)(hs:Gs i):PE X (.Subscript o i pos) (Gu td ty):=by
 intro pins s Y H Q I h;refine zd PySem.F.slot_dict_getitem.lookup hs (aV (ho pins s Y H _ I h) λu s1 ⟨x,H1,I1,rx,q1⟩=>aV (hi pins s1 Y H1 _ I1 q1) λiv s2 ⟨y,H2,I2,ry,a,v,ex,g,q2⟩=>?_);subst ex;obtain rfl:u=Value.ref a:=rx;exact⟨n6 I2 g,uF hu I2 g ry λw' s3 I3 rw'=>⟨v,H2,I3,rw',q2⟩⟩
theorem ze(hu:X.A.units+9<cLine)(ho:PE X o td)(hi:PE X i ty)(hv:PE X value tv)(hs:swapsWith value (P6 (.Subscript o i pos')) pos.line X.env=pure Qb) :
  PS X (.Assign [.Subscript o i pos'] value pos) (Gv td ty tv):=by
 intro pins s Y H D I h;refine wpAny_Assign_Subscript (aV (hv pins s Y H _ I h) λr s1 ⟨v,H1,I1,rv,q1⟩=>aV (ho pins s1 Y H1 _ I1 q1) λu s2 ⟨x,H2,I2,rx,q2⟩=>aV (hi pins s2 Y H2 _ I2 q2) λiv s3 ⟨y,H3,I3,ry,a,F,ex,g,q3⟩=>?_) hs;subst ex;obtain rfl:u=Value.ref a:=rx;exact uG hu I3 g ry rv λe s4 I4=>⟨Y,F e,I4,q3 e⟩
end
theorem n8(h:Qn)(hb:sysModules<h.objs.size):ObjOk P w H (h.push { cls:=.type "dict",data:=.dict #[] }) h.objs.size (.dK []):=
 ⟨M4 _,beq_eq_false_iff_ne.mpr (Ne.symm (MM hb)),[],.nil,Heap.DictOf.new h⟩
theorem v5{m:Nat}(h:Qn)(hb:sysModules<h.objs.size):ObjOk P w H (h.push { cls:=.type "dict",data:=.dict #[] }) h.objs.size (.dT m 0 []):=
 ⟨M4 _,beq_eq_false_iff_ne.mpr (Ne.symm (MM hb)),[],.nil,_,#[],MP _ rfl,⟨rfl,rfl,rfl⟩,rfl,rfl,Pl⟩
noncomputable def C4:TE:=λ_ H Q=>∀p,H p=P7->Q (.ref p) (upd H p (.dK []))
noncomputable def C5(m:Nat):TE:=λ_ H Q=>∀p,H p=P7->Q (.ref p) (upd H p (.dT m 0 []))
section
variable {X:Cx} {pos:Pos}
theorem v6:PE X (.Dict [] [] pos) C4:=λpins s Y H Q I h=>
 wpAny_Dict_empty ⟨.ref s.heap.objs.size,_,I.laid (a:=s.heap.objs.size) (o:=.dK []) (t':=s.toks) (λ_ _ q=>MC _ q) (MH _) (n8 s.heap I.big),rfl,h _ (I.hok.fresh (MH _))⟩
theorem wa{m:Nat}:PE X (.Dict [] [] pos) (C5 m):=λpins s Y H Q I h=>
 wpAny_Dict_empty ⟨.ref s.heap.objs.size,_,I.laid (a:=s.heap.objs.size) (o:=.dT m 0 []) (t':=s.toks) (λ_ _ q=>MC _ q) (MH _) (v5 s.heap I.big),rfl,h _ (I.hok.fresh (MH _))⟩
end
noncomputable def ml:List (TE×TE)->St->Hp->(List (V×V)->Hp->Prop)->Prop
 |[],_,H,Q=>Q [] H
 |(tk,tv)::r,Y,H,Q=>tk Y H λx H1=>tv Y H1 λy H2=>ml r Y H2 λps H3=>Q ((x,y)::ps) H3
noncomputable abbrev VV:List (V×V)->List (Qa×Qa)->Prop:=Paired λp q=>RelV p.1 q.1/\RelV p.2 q.2
noncomputable def Gx(X:Cx)(pos:Pos)(keys:List (Option P9))(values:List P9)(trs:List (TE×TE)):Prop:=
 ∀(pins:List (Qc×Obj)) (s:Qd) (Y:St) (H:Hp) (Q:List (V×V)->Hp->Prop),Inv X pins Y H s->ml trs Y H Q->
  Qf (Qg X.prog X.w) X.A (evalPairs (pairTrees keys values X.env pos)) (λvs s'=>∃ps H',Inv X pins Y H' s'/\VV ps vs/\Q ps H') X.xe s
theorem zf:Gx X pos [] [] []:=λpins s Y H Q I h=>pairTrees_nil_walk ⟨[],H,I,.nil,h⟩
theorem wb(hk:PE X k tk)(hv:PE X v tv)(hr:Gx X pos ks vs trs) :
  Gx X pos (P6 k::ks) (v::vs) ((tk,tv)::trs):=λpins s Y H Q I h=>
 pairTrees_cons_walk (aV (hk pins s Y H _ I h) λu s1 ⟨x,H1,I1,rx,q1⟩=>aV (hv pins s1 Y H1 _ I1 q1) λw2 s2 ⟨y,H2,I2,ry,q2⟩=>
  aV (hr pins s2 Y H2 _ I2 q2) λws s3 ⟨ps,H3,I3,rel,q3⟩=>⟨(x,y)::ps,H3,I3,.cons ⟨rx,ry⟩ rel,q3⟩)
noncomputable def d5(kvs more:List (aw×V)):List (aw×V):=more.foldl (λacc kv=>bv acc kv.1 kv.2) kvs
theorem KV.merge:∀{more:List (aw×V)} {rs:List (aw×Qa)} {kvs:List (aw×V)} {vs:List (aw×Qa)},KV more rs->KV kvs vs->KV (d5 kvs more) (merged vs rs):=by
 intro more rs kvs vs r;unfold KV at r
 induction r generalizing kvs vs with
 |nil=>intro q;exact q
 |@cons p q ps qs h t ih=>
  intro r0
  have e:KV (bv kvs p.1 p.2) (stored vs q.1 q.2):=by
   have:=r0.put p.1 h.2;rw[<- h.1];exact this
  exact ih e
theorem fD:∀(more kvs:List (aw×V)),(d5 kvs more).length<=kvs.length+more.length
 |[],kvs=>by show kvs.length<=kvs.length+0;lia
 |p::r,kvs=>by
  have h1:=fD r (bv kvs p.1 p.2);have h2:=bQ kvs p.1 p.2;show(d5 (bv kvs p.1 p.2) r).length<=_;rw[MY];lia
theorem jT:∀{kvs:List (aw×V)} {ws:List (Qa×Qa)},VV (kvs.map λkv=>(kV kv.1,kv.2)) ws->∃rs,Carries (aA P w) ws rs/\KV kvs rs
 |[],_,r=>by rw[OZ] at r;cases r;exact⟨[],True.intro,.nil⟩
 |p::kvs,_,r=>by
  rw[MU] at r
  cases r with
  |@cons a b as bs h t=>
   obtain⟨rs,c,q⟩:=jT (P:=P) (w:=w) t;obtain⟨b1,b2⟩:=b;exact⟨(p.1,b2)::rs,⟨jR h.1,rfl,c⟩,.cons ⟨rfl,h.2⟩ q⟩
noncomputable def Gy(trs:List (TE×TE)):TE:=λY H Q=>∀p,H p=P7->ml trs Y (upd H p (.dK [])) λps H2=>H2 p=P6 (.dK [])/\∃kvs:List (aw×V),ps=kvs.map (λkv=>(kV kv.1,kv.2))/\kvs.length<=15/\Q (.ref p) (upd H2 p (.dK (d5 [] kvs)))
theorem zg{keys:List (Option P9)}{values:List P9}(h:Gx X pos keys values trs)(hall:keys.all (·.isSome)=P8)(hl:keys.length=values.length)(h0:keys≠[])(h15:keys.length<=15):PE X (.Dict keys values pos) (Gy trs):=by
 intro pins s Y H Q I q;have hn:=I.hok.fresh (MH s.heap.objs.size);have I1:=I.laid (a:=s.heap.objs.size) (o:=.dK []) (h':=s.heap.push { cls:=.type "dict",data:=.dict #[] }) (t':=s.toks) (λ_ _ q=>MC _ q) (MH _) (n8 s.heap I.big);refine wpAny_Dict_walk (knd:=aA X.prog X.w) hall hl h0 h15 (aV (h pins _ Y _ _ I1 (q _ hn)) λws s2 ⟨ps,H2,I2,rel,e,kvs,ep,lk,q2⟩=>?_);subst ep;obtain⟨rs,c,rk⟩:=jT (P:=X.prog) (w:=X.w) rel;obtain⟨z,hd,vs0,r0,dd⟩:=n5 I2.hok e;cases r0;refine⟨rs,c,dd,λh' dd' hs=>⟨.ref s.heap.objs.size,_,?_,rfl,q2⟩⟩
 have hz:(d5 [] kvs).length<=sizeLine:=by
  have h1:=fD kvs [];rw[O9] at h1;rw[sizeLine_eq];lia
 have he:∃q,h'.get? s.heap.objs.size=P6 q:=let ⟨q,_,_,hq,_⟩:=dd';⟨q,hq⟩;exact gB I2 (by rw[e];exact True.intro) hs he (qe hz hd (rk.merge .nil) dd')
section
variable {X:Cx} {pins:List (Qc×Obj)} {Y:St} {H:Hp} {s:Qd} {a:Qc} {y d:V} {u r:Qa} {o:Option V} {A:Qk} {E:Qa->Qd->Prop}
end
section
variable {X:Cx} {o e f:P9} {apos cpos:Pos} {td ty tx:TE}
end
section
variable {X:Cx} {pins:List (Qc×Obj)} {Y:St} {H:Hp} {s:Qd} {a:Qc} {kvs:List (aw×V)} {A:Qk} {E:Qa->Qd->Prop}
end
section
variable {X:Cx} {pins:List (Qc×Obj)} {Y:St} {H:Hp} {s:Qd} {a:Qc} {y:V} {u:Qa} {A:Qk} {E:Qa->Qd->Prop}
end
end L2
namespace L2
open PySem PySem.Spec PyProof.Rows
section
variable {prog:Qi} {w:Qj} {A:Qk} {E:Qa->Qd->Prop} {s:Qd}
end
end L2
namespace L2
open PySem PySem.Spec PyProof.Rows
section
variable {prog:Qi} {w:Qj} {K:Type} [DecidableEq K] {knd:HeapKind prog w K} {A:Qk} {E:Qa->Qd->Prop} {s:Qd} {d a:Qc} {k:K} {xs:List (K×Qc×Qa)}
end
section
variable {X:Cx} {pins:List (Qc×Obj)} {Y:St} {H:Hp} {s:Qd} {a b:Qc} {m ep:Nat} {kvs:List (List (aw ⊕ List aw)×V)} {k:List (aw ⊕ List aw)} {v:V} {r:Qa} {A:Qk} {E:Qa->Qd->Prop}
end
end L2
namespace L2
open PySem PySem.Spec PyProof.Rows
section
variable {prog:Qi} {w:Qj} {A:Qk} {E:Qa->Qd->Prop} {s:Qd} {d:Qc}
end
end L2
namespace L2
open PySem PySem.Spec PyProof.Rows
section
variable {prog:Qi} {w:Qj} {A:Qk} {E:Qa->Qd->Prop} {s:Qd} {d it:Qc} {o:Obj} {es:Array DictEntry} {ep i:Nat}
end
theorem Paired.get{α β:Type}{F:α->β->Prop}:∀{l:List α} {r:List β} {i:Nat} {y:β},Paired F l r->r[i]?=P6 y->∃x,l[i]?=P6 x/\F x y
 |_,_,i,_,.nil,h=>by simp at h
 |_,_,0,_,.cons q t,h=>by simp at h;subst h;exact⟨_,rfl,q⟩
 |_,_,i+1,_,.cons q t,h=>by simpa using Paired.get t (by simpa using h)
end L2
namespace L2
open PySem PySem.Spec PyProof.Rows
noncomputable def fx(cells:List (Str×Qc)):List (Str×Qt)->List (Str×Qc)->List (Str×Qc)
 |[],acc=>acc
 |(n,k)::r,acc=>fx cells r (if k=.free then(match cells.lookup n with|some c=>(n,c)::acc|none=>acc) else acc)
theorem dO{cells:List (Str×Qc)}:∀{names:List (Str×Qt)} {acc:List (Str×Qc)},(∀x c,acc.lookup x=P6 c->cells.lookup x=P6 c)->
  ∀x c,(fx cells names acc).lookup x=P6 c->cells.lookup x=P6 c
 |[],_,h=>h
 |(n,k)::r,acc,h=>by
  unfold fx;refine dO (names:=r) λx c=>?_;split
  ·cases e:cells.lookup n with
   |none=>exact h x c
   |some d=>
    dsimp only;intro q;rw[MZ] at q
    cases hx:x==n with
    |true=>
     rw[hx] at q;have:x=n:=by simpa using hx
     subst this;cases q;exact e
    |false=>
     rw[hx] at q;exact h x c q
  ·exact h x c
theorem lA:∀{names:List (Str×Qt)} {acc:List (Str×Qc)} {x:Str},(∃c,acc.lookup x=P6 c)->∃c,(fx cells names acc).lookup x=P6 c
 |[],_,_,h=>h
 |(n,k)::r,acc,x,h=>by
  unfold fx;refine lA (names:=r) ?_;split
  ·cases e:cells.lookup n with
   |none=>exact h
   |some d=>
    dsimp only;rw[MZ]
    cases x==n with
    |true=>exact⟨d,rfl⟩
    |false=>exact h
  ·exact h
theorem jU{cells:List (Str×Qc)}:∀{names:List (Str×Qt)} {acc:List (Str×Qc)} {x:Str},(x,NameKind.free)∈names->(∃c,cells.lookup x=P6 c)->∃c,(fx cells names acc).lookup x=P6 c
 |(n,k)::r,acc,x,h,hc=>by
  unfold fx;rcases ML.mp h with e|h
  ·cases e;obtain⟨c,hc⟩:=hc;refine lA ⟨c,?_⟩;rw[if_pos rfl,hc];simp
  ·exact jU h hc
theorem fF{scope:Qo}{env:Env}(h:∀y∈scope.names,y.2=.free->∃c,env.cells.lookup y.1=P6 c):closureFor scope env=pure (fx env.cells scope.names []):=by
 have key:∀(names:List (Str×Qt)) (acc:List (Str×Qc)),(∀y∈names,y.2=.free->∃c,env.cells.lookup y.1=P6 c)->
   (forIn names acc λ(x:Str×Qt) (r:List (Str×Qc))=>(match x with|(name,kind)=>if(kind==.free)=P8 then do let a <- cellOf env name;pure (ForInStep.yield ((name,a)::r)) else pure (ForInStep.yield r):Sem (ForInStep (List (Str×Qc)))))=pure (fx env.cells names acc):=by
  intro names
  induction names with
  |nil=>intro acc _;rfl
  |cons y r ih=>
   intro acc hh;obtain⟨n,k⟩:=y;rw[List.forIn_cons];dsimp only;by_cases hk:k=.free
   ·obtain⟨c,hc⟩:=hh (n,k) M1 hk;subst hk;have e:cellOf env n=pure c:=by unfold cellOf;rw[hc]
    rw[e];simp only[beq_self_eq_true,if_true,pure_bind];rw[ih _ λy hy=>hh y (MS _ hy)]
    conv=>rhs;unfold fx
    rw[if_pos rfl];have hc':env.cells.lookup n=P6 c:=hc;rw[hc']
   ·have e:(k==NameKind.free)=Qb:=by simpa using hk
    rw[e];simp only[Nr,if_false,pure_bind];rw[ih _ λy hy=>hh y (MS _ hy)]
    conv=>rhs;unfold fx
    rw[if_neg hk]
 unfold closureFor;exact(congrArg (λm=>m >>= λr=>pure r) (key scope.names [] h)).trans (by simp)
theorem cq:∀(names:List (Str×Qt)) (n:Nat) (acc:List (Str×Qc)),Qq n names acc=Qq n names []++acc
 |[],n,acc=>rfl
 |(x,k)::r,n,acc=>by
  unfold Qq;split
  ·rw[cq r (n+1) ((x,n)::acc),cq r (n+1) [(x,n)],OP];rfl
  ·exact cq r n acc
theorem wc{x:Str}{c:Qc}:∀{names:List (Str×Qt)} {n:Nat} {acc:List (Str×Qc)},(Qq n names acc).lookup x=P6 c->((x,NameKind.cell)∈names/\n<=c)\/acc.lookup x=P6 c
 |[],_,_,h=>.inr h
 |(y,k)::r,n,acc,h=>by
  unfold Qq at h;split at h
  ·rename_i hk;have hk:k=.cell:=by simpa using hk
   subst hk;rcases wc h with⟨h1,h2⟩|h1
   ·exact .inl ⟨MS _ h1,OQ h2⟩
   ·rw[MZ] at h1
    cases hx:x==y with
    |true=>
     rw[hx] at h1;have:x=y:=by simpa using hx
     subst this;cases h1;exact .inl ⟨M1,MH _⟩
    |false=>rw[hx] at h1;exact .inr h1
  ·rcases wc h with⟨h1,h2⟩|h1
   ·exact .inl ⟨MS _ h1,h2⟩
   ·exact .inr h1
theorem qf{x:Str}:∀{names:List (Str×Qt)} {n:Nat} {acc:List (Str×Qc)},(x,NameKind.cell)∉names->(Qq n names acc).lookup x=acc.lookup x
 |[],_,_,_=>rfl
 |(y,k)::r,n,acc,h=>by
  unfold Qq;have hr:(x,NameKind.cell)∉r:=λz=>h (MS _ z);split
  ·rename_i hk;have hk:k=.cell:=by simpa using hk
   subst hk;rw[qf hr,MZ]
   have:(x==y)=Qb:=by
    have:x≠y:=λz=>h (by rw[z];exact M1);simpa using this
   rw[this]
  ·exact qf hr
theorem mn{x:Str}:∀{names:List (Str×Qt)} {n:Nat} {acc:List (Str×Qc)},((x,NameKind.cell)∈names\/∃c,acc.lookup x=P6 c)->∃c,(Qq n names acc).lookup x=P6 c
 |[],_,_,h=>by
  rcases h with h|h
  ·simp at h
  ·exact h
 |(y,k)::r,n,acc,h=>by
  unfold Qq;split
  ·rename_i hk;have hk:k=.cell:=by simpa using hk
   subst hk;refine mn ?_;by_cases hx:x=y
   ·subst hx;exact .inr ⟨n,by rw[MZ];simp⟩
   ·have e:(x==y)=Qb:=by simpa using hx
    rcases h with h|h
    ·rcases ML.mp h with z|z
     ·exact absurd (by cases z;rfl) hx
     ·exact .inl z
    ·exact .inr (by rw[MZ,e];exact h)
  ·rename_i hk;refine mn ?_;rcases h with h|h
   ·rcases ML.mp h with z|z
    ·exact absurd (by cases z;rfl) hk
    ·exact .inl z
   ·exact .inr h
theorem qg{x:Str}{m:Nat}:∀{names:List (Str×Qt)} {n:Nat} {acc:List (Str×Qc)},((x,NameKind.cell)∈names\/∀c,acc.lookup x=P6 c->m<=c)->m<=n->∀c,(Qq n names acc).lookup x=P6 c->m<=c
 |[],_,_,h,_,c,e=>by
  rcases h with h|h
  ·simp at h
  ·exact h c e
 |(y,k)::r,n,acc,h,hm,c,e=>by
  unfold Qq at e;split at e
  ·rename_i hk;have hk:k=.cell:=by simpa using hk
   subst hk;refine qg ?_ (PP hm) c e;by_cases hx:x=y
   ·subst hx;refine .inr λc e=>?_;rw[MZ] at e;simp at e;exact e▸hm
   ·have e2:(x==y)=Qb:=by simpa using hx
    rcases h with h|h
    ·rcases ML.mp h with z|z
     ·exact absurd (by cases z;rfl) hx
     ·exact .inl z
    ·exact .inr (by intro c e;rw[MZ,e2] at e;exact h c e)
  ·rename_i hk;refine qg ?_ hm c e;rcases h with h|h
   ·rcases ML.mp h with z|z
    ·exact absurd (by cases z;rfl) hk
    ·exact .inl z
   ·exact .inr h
theorem qi:∀{names:List (Str×Qt)} {n:Nat} {acc:List (Str×Qc)},(∀x c,acc.lookup x=P6 c->c<n)->(∀x y c,acc.lookup x=P6 c->acc.lookup y=P6 c->x=y)->∀x y c,(Qq n names acc).lookup x=P6 c->(Qq n names acc).lookup y=P6 c->x=y
 |[],_,_,_,h=>h
 |(z,k)::r,n,acc,hb,h=>by
  unfold Qq;split
  ·refine qi (λx c e=>?_) λx y c e1 e2=>?_
   ·rw[MZ] at e
    cases hx:x==z with
    |true=>rw[hx] at e;cases e;exact Nz _
    |false=>rw[hx] at e;exact Oi (hb x c e)
   ·rw[MZ] at e1 e2
    cases hx:x==z with
    |true=>
     rw[hx] at e1;cases e1
     cases hy:y==z with
     |true=>rw[(by simpa using hx:x=z),(by simpa using hy:y=z)]
     |false=>rw[hy] at e2;exact absurd (hb y _ e2) (Ng _)
    |false=>
     rw[hx] at e1
     cases hy:y==z with
     |true=>rw[hy] at e2;cases e2;exact absurd (hb x _ e1) (Ng _)
     |false=>rw[hy] at e2;exact h x y c e1 e2
  ·exact qi hb h
noncomputable def C6(cells:List (Str×Qc))(names:List (Str×Qt))(C:Qc):List (Str×Qc):=Qq (C+1) names (fx cells names [])
theorem we{cells:List (Str×Qc)}{C:Qc}{x:Str}(h:(C6 cells names C).lookup x=P6 c):C+1<=c\/cells.lookup x=P6 c:=by
 rcases wc h with h|h
 ·exact .inl h.2
 ·exact .inr (dO (λ_ _ z=>by cases z) x c h)
theorem fG{s:Qd}{scope:Qo}{qual:Str}{Q:Env->Qd->Prop}(hQ:Q (newEnv scope s.heap.objs.size globals (Qq (s.heap.objs.size+1) scope.names cl) qual P7 .none (P6 outer) builtinsNs) { s with heap:=pushCells (s.heap.push { cls:=.type "dict",data:=.dict #[] }) scope.names }) :
  Qf M A (newFunctionEnv scope globals cl [] qual P7 .none (P6 outer)) Q E s:=by
 simp only[newFunctionEnv,PC,if_true];refine Qe (wpAny_alloc ?_)
 refine Qe (wpAny_layCells _ (λname kind cells=>by cases hkc:kind==NameKind.cell<;>simp[hkc]) _ _ _ _ ?_)
 rw[show({ s with heap:=s.heap.push { cls:=.type "dict",data:=.dict #[] } }:Qd).heap.objs.size=s.heap.objs.size+1 from NC ..];rw[List.forIn_nil];exact Qe (Qh (Qh hQ))
noncomputable def aj(X:Cx)(N':List Str)(scope:Qo)(C:Qc)(s:Qd)(H:Hp)(ex:List Qc):Cx where
 prog:=X.prog
 w:=X.w
 K:=X.K
 mg:=X.mg
 base:=X.base
 A:=X.A
 N:=N'
 s₀:=s
 H₀:=H
 env:=compEnvC scope (C6 X.env.cells scope.names C) C X.env
 outer:=X.stack
 stack:=X.stack
 ex:=ex
 fn:=λx=>scope.names.lookup x==P6 .cell
 calm:=X.calm
 pn:=[]
 xe:=λ_ _=>False
theorem bN{α β:Type}[BEq α][LawfulBEq α]:∀{l:List (α×β)} {x:α} {y:β},l.lookup x=P6 y->(x,y)∈l
 |(a,b)::r,x,y,h=>by
  rw[MZ] at h
  cases e:x==a with
  |true=>
   rw[e] at h;have:x=a:=by simpa using e
   subst this;cases h;exact M1
  |false=>
   rw[e] at h;exact MS _ (bN h)
theorem jV{scope:Qo}{x:Str}(h:(relabel scope env).names.lookup x=P6 .cell\/(relabel scope env).names.lookup x=P6 .free):(x,NameKind.cell)∈scope.names\/(x,NameKind.free)∈scope.names:=by
 have key:∀k,(k=NameKind.cell\/k=NameKind.free)->(x,k)∈(relabel scope env).names->(x,NameKind.cell)∈scope.names\/(x,NameKind.free)∈scope.names:=λk hk hm=>by
  obtain⟨⟨n,k'⟩,hy,e⟩:=M2.mp hm;dsimp only at e;split at e
  ·rename_i q
   have:k'=NameKind.free:=by
    simp only[MA,beq_iff_eq] at q;exact q.1.1
   subst this;cases e;exact .inr hy
  ·cases e;rcases hk with rfl|rfl
   ·exact .inl hy
   ·exact .inr hy
 rcases h with h|h
 ·exact key _ (.inl rfl) (bN h)
 ·exact key _ (.inr rfl) (bN h)
section
variable {X:Cx} {pins:List (Qc×Obj)} {Y:St} {H:Hp} {s:Qd}
theorem wg(I:Inv X pins Y H s){fp:List Qc}{N':List Str}{scope:Qo}{C:Qc}(hf:∀b∈fp,gw X pins H b)(hfo:∀b∈fp,b<s.heap.objs.size)(hkind:scope.kind=.function)(hC:s.heap.objs.size<=C)
  (hfree:∀y∈scope.names,y.2=.free->X.env.kindOf y.1=P6 .cell\/X.env.kindOf y.1=P6 .free):(aj X N' scope C s H fp).Ok where
 mod:=I.ok.mod
 kind:=hkind
 glob:=I.ok.glob
 blt:=I.ok.blt
 above:=hC
 inj:=qi (λx c h=>by
   obtain⟨v,o,g,_⟩:=I.cell x c (dO (λ_ _ z=>by cases z) x c h);exact Oi (MG (MD g) hC)) λx y c h1 h2=>I.ok.inj x y c (dO (λ_ _ z=>by cases z) x c h1) (dO (λ_ _ z=>by cases z) y c h2)
 has:=λx hx=>by
  rcases jV hx with m|m
  ·exact mn (.inl m)
  ·exact mn (.inr (jU m (I.ok.has x (hfree _ m rfl))))
 cab:=λx c h e=>by
  have h:scope.names.lookup x=P6 .cell:=by simpa[aj] using h
  exact M0 hC (OQ (qg (.inl (bN h)) (MH _) c e))
 hd:=I.ok.hd
 frames:=I.ok.frames
 stk:=.inl rfl
 exf:=λb hb=>⟨MM (MG (hfo b hb) hC),λx c h=>by
  rcases we h with h|h
  ·exact NP (MG (Oi (MG (hfo b hb) hC)) h)
  ·exact(hf b hb).2.2.2.2.1 x c h⟩
 bs:=I.bs
 bsz:=M0 I.ok.bsz I.sz
 noex:=λb o e hb=>by
  obtain⟨_,_,_,h,_⟩:=hf b hb;rcases h with h|h
  ·exact I.ok.noex b o e h
  ·exact absurd (MG (MD e) (M0 I.ok.bsz h)) (Ng _)
 exfs:=λb hb hz=>by
  obtain⟨_,h1,h2,_⟩:=hf b hb;rcases ML.mp (I.stkSub b hz) with e|e
  ·exact h1 e
  ·exact h2 e
 funs:=I.stack
 frf:=I.stkFree
noncomputable def cu(Y:St)(cap:List (Option Nat)):St:=cap.map λo=>o.bind λi=>(Y[i]?).join
structure eO(X:Cx)(N':List Str)(scope:Scope)(cap:List (Option Nat)):Prop where
 kind:scope.kind=.function
 cell:∀y∈scope.names,y.2=.cell->scope.names.lookup y.1=P6 .cell
 names:∀y∈scope.names,y.2=.local->scope.names.lookup y.1=P6 .local
 free:∀y∈scope.names,y.2=.free->X.env.kindOf y.1=P6 .cell\/X.env.kindOf y.1=P6 .free
 len:cap.length=N'.length
 cap:∀(j i:Nat) (x:Str),N'[j]?=P6 x->cap[j]?=P6 (P6 i)->X.N[i]?=P6 x/\scope.names.lookup x=P6 .free/\(X.env.kindOf x=P6 .cell\/X.env.kindOf x=P6 .free)
theorem gC{scope:Qo}{env:Env}{x:Str}:∀{names:List (Str×Qt)},names.lookup x=P6 .free->
  (names.map λ(n,k)=>if(k==NameKind.free&&env.scope.kind==.function&&env.kindOf n==P6 .cell) then(n,NameKind.cell) else(n,k)).lookup x=P6 .cell\/
  (names.map λ(n,k)=>if(k==NameKind.free&&env.scope.kind==.function&&env.kindOf n==P6 .cell) then(n,NameKind.cell) else(n,k)).lookup x=P6 .free
 |(n,k)::r,h=>by
  have ih:=@gC scope env x r
  show Ny x ((if(k==NameKind.free&&env.scope.kind==.function&&env.kindOf n==P6 .cell)=P8 then(n,NameKind.cell) else(n,k))::_)=_\/Ny x ((if(k==NameKind.free&&env.scope.kind==.function&&env.kindOf n==P6 .cell)=P8 then(n,NameKind.cell) else(n,k))::_)=_
  cases hx:x==n with
  |true=>
   simp only[MZ,hx] at h;cases h;by_cases hc:(NameKind.free==NameKind.free&&env.scope.kind==.function&&env.kindOf n==P6 .cell)=P8
   ·rw[if_pos hc];left;simp only[MZ,hx]
   ·rw[if_neg hc];right;simp only[MZ,hx]
  |false=>
   simp only[MZ,hx] at h;by_cases hc:(k==NameKind.free&&env.scope.kind==.function&&env.kindOf n==P6 .cell)=P8
   ·rw[if_pos hc];simp only[MZ,hx];exact ih h
   ·rw[if_neg hc];simp only[MZ,hx];exact ih h
theorem n9(I:Inv X pins Y H s){fp:List Qc}{N':List Str}{scope:Qo}{cap:List (Option Nat)}{C D:Qc}{h₁:Qn}{tk:Nat}{m:Str->Option Qa}(O:eO X N' scope cap)(hf:∀b∈fp,gw X pins H b)(hfo:∀b∈fp,b<s.heap.objs.size)
  (hC:s.heap.objs.size<=C) (hD:s.heap.objs.size<=D) (hDC:D<C) (hcs:∀x c,(Qq (C+1) scope.names []).lookup x=P6 c->h₁.IsCell c P7) (hn:h₁.Ns C m) (old:∀b o,s.heap.get? b=P6 o->h₁.get? b=P6 o)
  {o:HO} (new:ObjOk X.prog X.w (upd H D o) h₁ D o) :
  Inv (aj X N' scope C s H fp) [] (cu Y cap) (upd H D o) { s with heap:=h₁,toks:=tk }:=by
 have sub:∀x c,(fx X.env.cells scope.names []).lookup x=P6 c->X.env.cells.lookup x=P6 c:=dO (λ_ _ z=>by cases z)
 have offc:∀x,scope.names.lookup x=P6 .free->(C6 X.env.cells scope.names C).lookup x=(fx X.env.cells scope.names []).lookup x:=λx h=>qf λz=>by
  have:=O.cell _ z rfl;rw[h] at this;cases this
 refine⟨wg I hf hfo O.kind hC O.free,rfl,I.bare,Un.laid old hD (I.hok.fresh hD),⟨m,hn,λj x v h1 h2 h3=>?_⟩,λx c e=>?_,?_,λx c e=>?_,λp hp=>absurd hp (by simp[aj]),I.hok.laid old hD new,?_⟩
 ·have h2':(cu Y cap)[j]?=P6 (P6 v):=h2;unfold cu at h2';rw[MF] at h2'
  cases hc:cap[j]? with
  |none=>rw[hc] at h2';cases h2'
  |some o=>
   rw[hc] at h2'
   cases o with
   |none=>cases h2'
   |some i=>
    have hv:(Y[i]?).join=P6 v:=by simpa using h2'
    have hv2:Y[i]?=P6 (P6 v):=by
     cases q:Y[i]? with
     |none=>rw[q] at hv;cases hv
     |some z=>rw[q] at hv;have:z=P6 v:=hv;rw[this]
    obtain⟨c1,c2,c3⟩:=O.cap j i x h1 hc;obtain⟨mo,hno,hl⟩:=I.loc;have vis:IQ X.env.scope x:=c3.elim (λz=>.inr (.inl z)) λz=>.inr (.inr z);obtain⟨u,ru,l⟩:=hl i x v c1 hv2 vis;refine⟨u,ru,?_⟩;rcases l with⟨k,_⟩|⟨_,c,ec,ic⟩
    ·rcases c3 with z|z
     ·rw[z] at k;cases k
     ·rw[z] at k;cases k
    ·obtain⟨c',ec'⟩:=jU (cells:=X.env.cells) (acc:=[]) (bN c2) ⟨c,ec⟩;have e2:=sub x c' ec';rw[ec] at e2;cases e2;obtain⟨oc,hoc,hdc⟩:=ic;exact .inr ⟨gC (scope:=scope) c2,c,(offc x c2).trans ec',oc,old _ _ hoc,hdc⟩
 ·have e:(C6 X.env.cells scope.names C).lookup x=P6 c:=e;unfold C6 at e;rw[cq,List.lookup_append] at e
  cases q:(Qq (C+1) scope.names []).lookup x with
  |some c'=>
   rw[q] at e;cases e;exact⟨P7,hcs x _ q⟩
  |none=>
   rw[q] at e;obtain⟨v,oc,hoc,hdc⟩:=I.cell x c (sub x c e);exact⟨v,oc,old _ _ hoc,hdc⟩
 ·rw[show(aj X N' scope C s H fp).env.locals=C from rfl,ad (Ne.symm (MM hDC))];exact I.hok.fresh hC
 ·rcases we e with e'|e'
  ·rw[ad (NP (Oq hDC e'))];exact I.hok.fresh (M0 hC (OQ e'))
  ·obtain⟨v,oc,hoc,hdc⟩:=I.cell x c e';rw[ad (MM (MG (MD hoc) hD))];exact I.freeC x c e'
 ·show(cu Y cap).length=N'.length;unfold cu;rw[MB,O.len]
theorem gE(I:Inv X pins Y H s){fp:List Qc}{N':List Str}{scope:Qo}{C:Qc}{Y':St}{H':Hp}{s':Qd}{h':Qn}(hf:∀b∈fp,gw X pins H b)(J:Inv (aj X N' scope C s H fp) [] Y' H' s')(hsb:Heap.SameBut C s'.heap h') :
  Inv X pins Y H' { s' with heap:=h' }:=by
 have hC:s.heap.objs.size<=C:=J.ok.above;have neC:∀b o,s.heap.get? b=P6 o->b≠C:=λb o e=>MM (MG (MD e) hC);have Uq:Un (vq X.stack) fp H H' s.heap s'.heap:=J.base;refine I.call' (s':={ s' with heap:=h' }) (ch:=fp) (J.os) ⟨λb o e n h1 h2=>?_,λb o e n h1 h2=>?_,Uq.free,λb o e h2=>?_,Uq.tups,Uq.frzs,Uq.tbls⟩ (λb o e=>?_) J.bare λb hb=>?_
 ·exact(hsb.2 b (neC b o e)).trans (Uq.keep b o e n h1 h2)
 ·obtain⟨sl,q⟩:=Uq.slot b o e n h1 h2;exact⟨sl,(hsb.2 b (neC b o e)).trans q⟩
 ·obtain⟨o',q⟩:=Uq.there b o e h2;exact⟨o',(hsb.2 b (neC b o e)).trans q⟩
 ·have fr:H' C=P7:=J.free;refine(J.hok b o e).stay (λc v hc q=>(hsb.2 c ?_).trans q) (λ_ q=>q) λ_ _ q=>q
  rintro rfl
  rcases hc with rfl|hc
  ·rw[fr] at e;cases e
  ·rw[fr] at hc;cases hc
 ·obtain⟨h0,h1,h2,h3,h4,h5⟩:=hf b hb;exact⟨h3,h1,h4,h5⟩
theorem mq{R:Result->Qd->Prop}{s:Qd}(I:Nat->Qd->Prop)(turn:∀n s,I n s->Qf (Qg prog w) A (pyNext it) (λr s₁=>match r with
   |none=>R (.ok .next) s₁
   |some v=>Qf (Qg prog w) A (letOwnedTupleGo target it v) (λ_ s₁'=>Qf (Qg prog w) A (assign target env v) (λ_ s₂=>
     Qf (Qg prog w) A (forIn ifs P8 λc r=>if r=P8 then do let ok <- isTrue c env (eval c env);pure (ForInStep.yield ok) else pure (ForInStep.yield r)) (λok s₃=>
      if ok=P8 then Qf (Qg prog w) A (eval elt env) (λx s₄=>
       Qf (Qg prog w) A (call (.builtin "list.append") [acc,x]) (λ_ s₅=>∃m,m<n/\I m s₅) (λ_ _=>False) s₄) (λ_ _=>False) s₃
      else ∃m,m<n/\I m s₃) (λ_ _=>False) s₂) (λ_ _=>False) s₁') (λ_ _=>False) s₁) (λ_ _=>False) s)(n:Nat)(h:I n s) :
  codeAny (Qg prog w) A (.compLoop (.ListComp elt [⟨target,iter,ifs,0⟩] scope pos) 0 it acc env) R s:=by
 refine codeAny_loop rfl I (λn s hI=>?_) n h;show Qf _ A ((compTurn (.ListComp elt [⟨target,iter,ifs,0⟩] scope pos) 0 it acc env).onRaise (λx=>do noteFrame x env;theTreesLotGoes x)) _ _ s;refine wpAny_noted ?_;rw[compTurn_list];refine Qe (wpAny_standAt (Qe (wpAny_mono (turn n s hI) (λr s₁ h₁=>?_) λ_ _ h'=>h'.elim)))
 cases r with
 |none=>exact Qh h₁
 |some v=>
  refine Qe (wpAny_mono h₁ (λ_ s₁' h₁'=>?_) λ_ _ h'=>h'.elim);refine Qe (wpAny_mono h₁' (λ_ s₂ h₂=>Qe (wpAny_mono h₂ (λok s₃ h₃=>?_) λ_ _ h'=>h'.elim)) λ_ _ h'=>h'.elim)
  cases ok with
  |false=>exact Qh ⟨rfl,h₃⟩
  |true=>
   exact Qe (Qe (wpAny_mono h₃ (λx s₄ h₄=>Qe (wpAny_mono h₄ (λ_ s₅ h₅=>Qh (Qh ⟨rfl,h₅⟩)) λ_ _ h'=>h'.elim)) λ_ _ h'=>h'.elim))
end
end L2
namespace L2
open PySem PySem.Spec PyProof.Rows
section
variable {X:Cx} {pins:List (Qc×Obj)} {Y:List (Option V)} {H:Hp} {s:Qd} {h':Qn}
theorem Inv.junk(I:Inv X pins Y H s)(hs:Heap.SameBut C s.heap h')(h0:X.s₀.heap.objs.size<=C)(hL:X.env.locals≠C)(hc:∀x c,X.env.cells.lookup x=P6 c->c≠C)(hp:∀p∈X.pn++pins,p.1≠C)(hH:H C=P7):Inv X pins Y H { s with heap:=h' }:=by
 have ne:∀b o,X.s₀.heap.get? b=P6 o->b≠C:=λb o e=>MM (MG (MD e) h0);obtain⟨m,hn,hl⟩:=id I.loc;refine⟨I.ok,I.os,I.bare,⟨λb o e n hb hx=>?_,λb o e n hb hx=>?_,I.base.free,λb o e hx=>?_,I.base.tups,I.base.frzs,I.base.tbls⟩,⟨m,hn.sameBut hs hL,λj y v' e1 e2 e3=>?_⟩,λy c e=>?_,I.free,I.freeC,λp hpp=>?_,λb ob e=>?_,I.len⟩
 ·exact(hs.2 b (ne b o e)).trans (I.base.keep b o e n hb hx)
 ·obtain⟨sl,e1⟩:=I.base.slot b o e n hb hx;exact⟨sl,(hs.2 b (ne b o e)).trans e1⟩
 ·obtain⟨o',e1⟩:=I.base.there b o e hx;exact⟨o',(hs.2 b (ne b o e)).trans e1⟩
 ·obtain⟨u',r',q⟩:=hl j y v' e1 e2 e3;refine⟨u',r',?_⟩;rcases q with⟨k,e⟩|⟨k,c,e,z⟩
  ·exact .inl ⟨k,e⟩
  ·refine .inr ⟨k,c,e,?_⟩;obtain⟨o,g,d⟩:=z;exact⟨o,(hs.2 c (hc y c e)).trans g,d⟩
 ·obtain⟨v,o,g,d⟩:=I.cell y c e;exact⟨v,o,(hs.2 c (hc y c e)).trans g,d⟩
 ·obtain⟨g,r⟩:=I.pin p hpp;exact⟨(hs.2 _ (hp p hpp)).trans g,r⟩
 ·refine(I.hok b ob e).stay (λc w' hcc q=>(hs.2 c ?_).trans q) (λ_ q=>q) λ_ _ q=>q
  rintro rfl
  rcases hcc with rfl|hcc
  ·rw[hH] at e;cases e
  ·rw[hH] at hcc;cases hcc
noncomputable def JQ(K:Mz)(n:Nat)(t:vG):TG:=λv Y H Q=>∃a xs,v=.ref a/\SqL K H a xs/\xs.length=n/\t xs Y H Q
theorem C7{k:Nat}{n:Nat}(hc:X.calm=P8)(h:CB X es t)(hn:(Qr es X.env).length=n)(hst:(Qr es X.env).findIdx? (·.1)=P7):PG X (.Tuple es k pos) (JQ X.K n t):=by
 intro pins s Y H v u Q I r hw;obtain⟨a,xs,e1,hq,hl,hw⟩:=hw;subst e1;cases r;obtain⟨its,rv,ht,hz⟩:=I.list hq;rw[assign_Tuple];refine Qe (wpAny_standAt ?_);unfold unpack;rw[hst,show(Qr es X.env).length=its.toArray.size by rw[hn,<- hl,rv.length,MQ]];refine Qe (Qx (PySem.W.kun_itemsOf (I.ok.hd hc) ht.isList λh' hx=>?_));have I1:Inv X pins Y H { s with heap:=h' }:=I.kept (t':=s.toks) λb o e=>hx b o (MM (MD e)) e;exact h pins _ Y H xs _ Q I1 (by simpa using rv) hw
theorem iY(ns:List Int):∀j,j<=ns.length->PySem.preSum (λi=>(ns[i]?).getD 0) j=(ns.take j).sum
 |0,_=>by simp[PySem.preSum]
 |j+1,h=>by
  have ih:=iY ns j (by lia);show PySem.preSum (λi=>(ns[i]?).getD 0) j+(ns[j]?).getD 0=_;have e:ns.take (j+1)=ns.take j++[ns[j]]:=by rw[NK,MK (by lia)];rfl
  rw[ih,e,List.sum_append,MK (by lia)];simp
theorem fH(hc:X.calm=P8):eN X (.builtin "sum") (λxs H Q=>∃(p:Qc) (ns:List Int),xs=[.ref p]/\SqL X.K H p (ns.map V.int)/\Q (.int ns.sum) H):=by
 intro pins s Y H xs us Q I r h;obtain⟨p,ns,rfl,hq,q⟩:=h;obtain⟨u,rfl,rx⟩:=jO r;cases rx;obtain⟨its,rv,pl,hz⟩:=I.list hq;have hlen:=rv.length;have hh:X.A.in1.handled=P7:=I.ok.hd hc
 have hnz:p≠s.heap.objs.size:=by
  obtain⟨o,n,e,_⟩:=pl;exact MM (MD e)
 refine PySem.call_sum_walkAnyS (QA pl.isList ?_)
 have hp:(s.heap.push { cls:=.type "list_iterator",data:=.fields #[.ref p,.int 0 0] }).IsList p its.toArray:=by
  obtain⟨o,e,r⟩:=pl.isList;exact⟨o,MC _ e,r⟩
 refine⟨s.heap.objs.size,_,_,_,_,_,_,λi=>(ns[i]?).getD 0,rfl,(Walks.list hh s.heap.objs.size p hnz its.toArray).toS,⟨⟨_,MP _ rfl,rfl,rfl⟩,hp⟩,λb hb=>?_,λi v hP=>?_,λs' t' mv=>?_⟩
 ·show b<(s.heap.push _).objs.size;rw[NC];rcases ML.mp hb with rfl|hb
  ·exact Nz _
  ·rw[Nt.mp hb];obtain⟨o,n,e,_⟩:=pl;exact Oi (MD e)
 ·have hP':its[i]?=P6 v:=by simpa using hP
  cases hb:ns[i]? with
  |none=>
   have h1:(ns.map V.int)[i]?=P7:=by rw[MF,hb];rfl
   rw[rv.none_of h1] at hP';cases hP'
  |some b=>
   have h1:(ns.map V.int)[i]?=P6 (.int b):=by rw[MF,hb];rfl
   obtain⟨u,e1,e2⟩:=rv.get h1;rw[hP'] at e1;cases e1;obtain⟨t,rfl⟩:=e2;refine⟨t,?_⟩;simp only[hb,PX]
 ·obtain⟨h',g',d',t2,o'⟩:=s';obtain⟨m1,m2,m3,m4,m5⟩:=mv;have m2':g'=s.gens:=m2;have m3':d'=s.drawn:=m3;have m4':o'=s.os:=m4;subst m2' m3' m4';have hl:its.toArray.size=ns.length:=by rw[MQ,<- hlen,MB]
  have e:PySem.preSum (λi=>(ns[i]?).getD 0) its.toArray.size=ns.sum:=by
   rw[hl,iY ns _ (MH _),Nk]
  rw[e];refine⟨.int ns.sum,H,I.kept (h':=h') (t':=t2) λb o eb=>m1 b o (λz=>?_) (MC _ eb),⟨t',rfl⟩,q⟩;have:=MD eb;rw[Nt.mp z] at this;exact Ng _ this
end
end L2
namespace G
open PySem PySem.Spec PyProof.Rows L2
inductive D where
 |non|bl (b:Bool)|int (i:Int)|str (x:Str)|lst (xs:List D)|tup (xs:List D)|scr (ns:List Int)|dic (ks:List aw) (vs:List D)
section
variable {K:Mz} {H H':Hp} {S S':List Qc}
end
inductive Kd where
 |sh|fr|bo
 deriving DecidableEq
section
variable {K:Mz} {H0 H H':Hp} {S:List Qc}
end
end G
namespace G
open PySem PySem.Spec PyProof.Rows L2
section
variable {X:Cx}
section
variable {pins:List (Qc×Obj)} {s:Qd} {Y:L2.St} {H:Hp}
end
end
noncomputable def IW(K:Mz)(a:Qc):It:=
 ⟨λi H=>∃xs x,SqL K H a xs/\xs[i]?=P6 x,λi H x H'=>∃p v,H p=P7/\H'=upd H p (.tup [.int i,v])/\x=.ref p/\∀xs,SqL K H a xs->xs[i]?=P6 v,λi H=>∃xs,SqL K H a xs/\xs.length<=i⟩
theorem uH{P:Qi}{w:Qj}{K:Mz}{es:List P9}{kk:Nat}{tp:Pos}(a e it:Qc)(hne:e≠it):nP P w K (.Tuple es kk tp) (IW K a) [e,it] e (λi h=>(∃old,IsEnum h e it ((i:Nat):Int) old)/\h.IsListIter it a i) where
 mem:=by simp
 obj:=λi h st b hb=>by
  obtain⟨⟨old,h1⟩,o,h2,h3,h4⟩:=st;rcases ML.mp hb with rfl|hb
  ·exact⟨_,h1,λv z=>by
    have z':Data.fields _=Data.cell v:=z;cases z'⟩
  ·have:b=it:=by simpa using hb
   subst this;exact⟨o,h2,λv z=>by rw[h4] at z;cases z⟩
 keep:=λi h h' st k=>by
  obtain⟨⟨old,h1⟩,h2⟩:=st;exact⟨⟨old,k e (by simp) _ h1⟩,h2.at λo q=>k it (by simp) o q⟩
 item:=by
  intro X hP hw hK hc i pins s Y H E I hf st hg;subst hP hw hK;obtain⟨⟨old,he⟩,hit⟩:=st;obtain⟨xs,x,hq,hx⟩:=hg;obtain⟨its,rv,p,hz⟩:=I.list hq;obtain⟨u,hu,ru⟩:=rv.get hx;obtain⟨f0,f1,f2,f3,f4,f5⟩:=hf e (by simp);obtain⟨g0,g1,g2,g3,g4,g5⟩:=hf it (by simp);have hes:=MD he;refine wpAny_pyNext_enum_item he hit p.isList (x:=u) (by simpa using hu) hne λh1 ho hit1 ht hs1 kk1=>?_;refine⟨_,rfl,wpAny_letOwnedTupleGo_enum ho λh2 he2 sb2=>?_⟩;have sb2':Heap.SameBut e h1 h2:=sb2;have step1:∀b o,b≠e->b≠it->s.heap.get? b=P6 o->h2.get? b=P6 o:=λb o n1 n2 q=>(sb2'.2 b n1).trans (kk1 b o n1 n2 q);have fr:=I.hok.fresh (MH s.heap.objs.size);have htup:h2.get? s.heap.objs.size=P6 { cls:=.type "tuple",data:=.seq #[.int i s.toks,u] }:=(sb2'.2 _ (NP hes)).trans ht
  have I1:Inv X pins Y (upd H s.heap.objs.size (.tup [.int i,x])) { s with heap:=h2,toks:=s.toks+1 }:=by
   have nit:∀b o,H b=P6 o->b≠e/\b≠it:=λb o q=>⟨(λz=>by rw[z,f0] at q;cases q),(λz=>by rw[z,g0] at q;cases q)⟩
   have hok':HOk X.prog X.w (upd H s.heap.objs.size (.tup [.int i,x])) h2:=λb o q=>by
    by_cases hb:b=s.heap.objs.size
    ·subst hb;rw[ai] at q;cases q;exact⟨(by show 2<=sizeLine;decide),[.int i s.toks,u],.cons ⟨_,rfl⟩ (.cons ru .nil),_,htup,rfl,_,rfl⟩
    ·rw[ad hb] at q;refine(I.hok b o q).stay (λc v hc' q'=>step1 c v ?_ ?_ q') (λc q'=>by rw[ad (aB q' fr)];exact q') λc ys q'=>by rw[ad (aB q' fr)];exact q'
     ·rcases hc' with rfl|hc'
      ·exact(nit _ _ q).1
      ·exact(nit _ _ hc').1
     ·rcases hc' with rfl|hc'
      ·exact(nit _ _ q).2
      ·exact(nit _ _ hc').2
   refine I.step (g':=s.gens) (d':=s.drawn) (t':=s.toks+1) (ch:=[e,it]) (λb hb=>?_) (λb o _ _ hcx q _=>step1 b o (λz=>hcx (by simp[z])) (λz=>hcx (by simp[z])) q)
    (λb o _ _ hcx q _=>⟨o.slots,step1 b o (λz=>hcx (by simp[z])) (λz=>hcx (by simp[z])) q⟩) (λb o hcx q n=>by rw[ad (MM (MD q))];exact n)
    (λb o hcx q=>⟨o,step1 b o (λz=>hcx (by simp[z])) (λz=>hcx (by simp[z])) q⟩) (λb ys q=>by rw[ad (aB q fr)];exact q) (λb o z q=>by rw[ad (aB q fr)];exact q)
    (λb ps q=>⟨#[],by rw[ad (aB q fr),q];simp⟩) (λm hm=>?_) hok' I.bare
   ·rcases ML.mp hb with rfl|hb
    ·exact⟨f3,f1,f4,f5⟩
    ·have:b=it:=by simpa using hb
     subst this;exact⟨g3,g1,g4,g5⟩
   ·obtain⟨o,es',ep,ho',r'⟩:=hm;exact⟨o,es',ep,step1 _ o (Ne.symm f1) (Ne.symm g1) ho',r'⟩
  refine⟨.ref s.heap.objs.size,_,I1,rfl,⟨s.heap.objs.size,x,fr,rfl,rfl,λys hy=>by rw[I.list_inj hy hq];exact hx⟩,⟨⟨u,by
    have:(((i+1:Nat):Int))=(i:Int)+1:=by lia
    rw[this];exact he2⟩,hit1.extBut sb2'.extBut (Ne.symm hne)⟩,λb hb=>?_⟩
  have hb0:=(hf b hb).1
  have hlt:b<s.heap.objs.size:=by
   rcases ML.mp hb with rfl|hb
   ·exact hes
   ·have:b=it:=by simpa using hb
    subst this;obtain⟨o,q,_⟩:=hit;exact MD q
  rw[ad (MM hlt)];exact hb0
 done:=by
  intro X hP hw hK hc i pins s Y H E I hf st hg;subst hP hw hK;obtain⟨⟨old,he⟩,hit⟩:=st;obtain⟨xs,hq,hx⟩:=hg;obtain⟨its,rv,p,hz⟩:=I.list hq;obtain⟨f0,f1,f2,f3,f4,f5⟩:=hf it (by simp);have hl:=rv.length;exact wpAny_pyNext_enum_end (I.ok.hd hc) he hit p.isList (by simp;lia) λh' eb=>⟨rfl,I.turned (t':=s.toks) (λb o hb q=>eb b o hb q) f0 f1 f3 f4 f5⟩
 self:=λ_ _ _ _ _ st h=>let ⟨_,q⟩:=st.1;wpAny_pyIter_enum q h
section
variable {X:Cx}
noncomputable def Gz(K:Mz)(ta:TA):TI:=λY H R=>ta Y H λvs H1=>∃a,vs=[.ref a]/\(∃xs,SqL K H1 a xs)/\R (IW K a) H1
theorem zh{a:P9}{kk:Nat}(hg:Gl X "enumerate")(hm:X.mg "enumerate" = P7)(ha:PA X [a] ta)(hs:Qm [a] X.env=[(Qb,eval a X.env)]) :
  PI X (.Tuple es kk tp) (.Call (.Name "enumerate" p) [a] [] pos) (Gz X.K ta):=by
 intro pins s Y H R I h;refine Call_ (c0 I hg hm boot_enumerate (PyProof.Rows.callWith_type1 (aV (ha pos pins s Y H _ I h) λus s1 ⟨vs,H1,I1,r1,q1⟩=>?_) hs rfl));obtain⟨l,e,⟨xs,hq⟩,q⟩:=q1;subst e;obtain⟨u,rfl,rx⟩:=jO r1;cases rx;obtain⟨its,rv,pl,hz⟩:=I1.list hq;refine call_enumerate_list pl.isList λh' he hit hsz hk=>?_;refine wpAny_pyIter_enum (s:={ s1 with heap:=h' }) he ?_;have I2:Inv X pins Y H1 { s1 with heap:=h' }:=I1.kept (t':=s1.toks) hk;refine⟨s1.heap.objs.size+1,[s1.heap.objs.size+1,s1.heap.objs.size],_,_,H1,rfl,I2,uH l _ _ (NP (Nz _)),⟨⟨_,he⟩,hit⟩,λb hb=>?_,q⟩
 have hb':s1.heap.objs.size<=b:=by
  rcases ML.mp hb with rfl|hb
  ·exact Oa _
  ·have:b=s1.heap.objs.size:=by simpa using hb
   rw[this];exact MH _
 exact I1.fpOk hb' (I1.hok.fresh hb')
end
end G
namespace G
open PySem PySem.Spec PyProof.Rows L2
open AutoSeq1 (wpAny_loadPart')
section
variable {prog:Qi} {w:Qj} {A:Qk} {E:Qa->Qd->Prop} {s:Qd}
end
section
variable {X:Cx}
end
end G
namespace G
open PySem PySem.Spec PyProof.Rows L2
noncomputable def JR(K:Mz)(a b:Qc):It:=
 ⟨λi H=>∃xs ys x y,SqL K H a xs/\SqL K H b ys/\xs[i]?=P6 x/\ys[i]?=P6 y,λi H x H'=>∃p v u,H p=P7/\H'=upd H p (.tup [v,u])/\x=.ref p/\(∀xs,SqL K H a xs->xs[i]?=P6 v)/\∀ys,SqL K H b ys->ys[i]?=P6 u,
  λi H=>∃xs ys,SqL K H a xs/\SqL K H b ys/\(xs.length<=i\/ys.length<=i)⟩
theorem lB{h:Qn}{z TI TO i1 i2 l a b:Qc}{us:Array Qa}{x y:Qa}{i j:Nat}(hl:h.IsList l us)(hz:IsZip h z TI TO .none)(hTI:IsPair h TI (.ref i1) (.ref i2))(hTO:IsPair h TO x y)(h1:h.IsListIter i1 a i)(h2:h.IsListIter i2 b j):∀c∈[z,TI,TO,i1,i2],l≠c:=λc hc e=>by
 subst e;obtain⟨o,q,q1,_⟩:=hl;simp only[ML,Nb,or_false] at hc;rcases hc with rfl|rfl|rfl|rfl|rfl
 ·rw[hz] at q;cases q;exact absurd (show Value.type "zip" = .type "list" from q1) (by decide)
 ·rw[hTI] at q;cases q;exact absurd (show Value.type "tuple" = .type "list" from q1) (by decide)
 ·rw[hTO] at q;cases q;exact absurd (show Value.type "tuple" = .type "list" from q1) (by decide)
 ·obtain⟨o2,r,r1,_⟩:=h1;rw[r] at q;cases q;rw[r1] at q1;exact absurd q1 (by decide)
 ·obtain⟨o2,r,r1,_⟩:=h2;rw[r] at q;cases q;rw[r1] at q1;exact absurd q1 (by decide)
theorem wj{h:Qn}{z TI TO i1 i2 a b:Qc}{us vs:Array Qa}{x y:Qa}{i j:Nat}(nd:[z,TI,TO,i1,i2].Nodup)(hl:h.IsList a us)(hl2:h.IsList b vs)(hz:IsZip h z TI TO .none)(hTI:IsPair h TI (.ref i1) (.ref i2))(hTO:IsPair h TO x y)(h1:h.IsListIter i1 a i)(h2:h.IsListIter i2 b j):ZipApart z TI TO i1 i2 a b:=by
 have n1:=lB hl hz hTI hTO h1 h2;have n2:=lB hl2 hz hTI hTO h1 h2;simp only[M3,ML,Nb,or_false,not_or,Pl,and_true,not_false_iff] at nd;obtain⟨⟨a1,a2,a3,a4⟩,⟨b1,b2,b3⟩,⟨c1,c2⟩,d1⟩:=nd;exact⟨Ne.symm a1,Ne.symm a2,Ne.symm a3,Ne.symm a4,b1,b2,b3,c1,c2,d1,n1 _ (by simp),n1 _ (by simp),n1 _ (by simp),n1 _ (by simp),n2 _ (by simp),n2 _ (by simp),n2 _ (by simp),n2 _ (by simp)⟩
theorem wk{P:Qi}{w:Qj}{K:Mz}{es:List P9}{kk:Nat}{tp:Pos}(a b z TI TO i1 i2:Qc)(nd:[z,TI,TO,i1,i2].Nodup):nP P w K (.Tuple es kk tp) (JR K a b) [z,TI,TO,i1,i2] z (λi h=>IsZip h z TI TO .none/\IsPair h TI (.ref i1) (.ref i2)/\(∃x y,IsPair h TO x y)/\h.IsListIter i1 a i/\h.IsListIter i2 b i) where
 mem:=by simp
 obj:=λi h st c hc=>by
  obtain⟨h1,h2,⟨x,y,h3⟩,⟨o4,h4,h5,h6⟩,o7,h7,h8,h9⟩:=st;simp only[ML,Nb,or_false] at hc;rcases hc with rfl|rfl|rfl|rfl|rfl
  ·exact⟨_,h1,λv z=>by
    have z':Data.fields _=Data.cell v:=z;cases z'⟩
  ·exact⟨_,h2,λv z=>by
    have z':Data.seq _ _=Data.cell v:=z;cases z'⟩
  ·exact⟨_,h3,λv z=>by
    have z':Data.seq _ _=Data.cell v:=z;cases z'⟩
  ·exact⟨o4,h4,λv z=>by rw[h6] at z;cases z⟩
  ·exact⟨o7,h7,λv z=>by rw[h9] at z;cases z⟩
 keep:=λi h h' st k=>by
  obtain⟨h1,h2,⟨x,y,h3⟩,h4,h5⟩:=st;exact⟨k z (by simp) _ h1,k TI (by simp) _ h2,⟨x,y,k TO (by simp) _ h3⟩,h4.at λo q=>k i1 (by simp) o q,h5.at λo q=>k i2 (by simp) o q⟩
 item:=by
  intro X hP hw hK hc i pins s Y H E I hf st hg;subst hP hw hK;obtain⟨hz,hTI,⟨x0,y0,hTO⟩,hi1,hi2⟩:=st;obtain⟨xs,ys,x,y,hq,hq2,hx,hy⟩:=hg;obtain⟨its,rv,p,hsz⟩:=I.list hq;obtain⟨its2,rv2,p2,hsz2⟩:=I.list hq2;obtain⟨u,hu,ru⟩:=rv.get hx;obtain⟨u2,hu2,ru2⟩:=rv2.get hy;have un:∀c∈[z,TI,TO,i1,i2],H c=P7:=λc hc=>(hf c hc).1;have D:=wj nd p.isList p2.isList hz hTI hTO hi1 hi2
  have hlt:∀c∈[z,TI,TO,i1,i2],c<s.heap.objs.size:=λc hc=>by
   simp only[ML,Nb,or_false] at hc;rcases hc with rfl|rfl|rfl|rfl|rfl
   ·exact MD hz
   ·exact MD hTI
   ·exact MD hTO
   ·obtain⟨o,q,_⟩:=hi1;exact MD q
   ·obtain⟨o,q,_⟩:=hi2;exact MD q
  refine wpAny_pyNext_zip_item D hz hTI hTO hi1 hi2 p.isList p2.isList (x:=u) (y:=u2) (by simpa using hu) (by simpa using hu2) λh1 hz1 hTO1 hi11 hi21 ht hs1 kk1=>?_;refine⟨_,rfl,wpAny_letOwnedTupleGo_zip hz1 λh2 hz2 sb2=>?_⟩;have sb2':Heap.SameBut z h1 h2:=sb2
  have step1:∀c o,c∉[z,TI,TO,i1,i2]->s.heap.get? c=P6 o->h2.get? c=P6 o:=λc o n q=>
   (sb2'.2 c (λe=>n (by simp[e]))).trans (kk1 c o (λe=>n (by simp[e])) (λe=>n (by simp[e])) (λe=>n (by simp[e])) (λe=>n (by simp[e])) q)
  have fr:=I.hok.fresh (MH s.heap.objs.size);have htup:h2.get? s.heap.objs.size=P6 { cls:=.type "tuple",data:=.seq #[u,u2] }:=(sb2'.2 _ (NP (hlt z (by simp)))).trans ht
  have I1:Inv X pins Y (upd H s.heap.objs.size (.tup [x,y])) { s with heap:=h2 }:=by
   have nit:∀c o,H c=P6 o->c∉[z,TI,TO,i1,i2]:=λc o q hc=>by rw[un c hc] at q;cases q
   have hok':HOk X.prog X.w (upd H s.heap.objs.size (.tup [x,y])) h2:=λc o q=>by
    by_cases hb:c=s.heap.objs.size
    ·subst hb;rw[ai] at q;cases q;exact⟨(by show 2<=sizeLine;decide),[u,u2],.cons ru (.cons ru2 .nil),_,htup,rfl,_,rfl⟩
    ·rw[ad hb] at q;refine(I.hok c o q).stay (λd v hc' q'=>step1 d v ?_ q') (λd q'=>by rw[ad (aB q' fr)];exact q') λd ys q'=>by rw[ad (aB q' fr)];exact q'
     rcases hc' with rfl|hc'
     ·exact nit _ _ q
     ·exact nit _ _ hc'
   refine I.step (g':=s.gens) (d':=s.drawn) (t':=s.toks) (ch:=[z,TI,TO,i1,i2]) (λc hc=>?_) (λc o _ _ hcx q _=>step1 c o hcx q)
    (λc o _ _ hcx q _=>⟨o.slots,step1 c o hcx q⟩) (λc o hcx q n=>by rw[ad (MM (MD q))];exact n)
    (λc o hcx q=>⟨o,step1 c o hcx q⟩) (λc ys q=>by rw[ad (aB q fr)];exact q) (λc o z q=>by rw[ad (aB q fr)];exact q)
    (λc ps q=>⟨#[],by rw[ad (aB q fr),q];simp⟩) (λm hm=>?_) hok' I.bare
   ·obtain⟨f0,f1,f2,f3,f4,f5⟩:=hf c hc;exact⟨f3,f1,f4,f5⟩
   ·obtain⟨o,es',ep,ho',r'⟩:=hm;exact⟨o,es',ep,step1 _ o (λhc=>(hf _ hc).2.1 rfl) ho',r'⟩
  refine⟨.ref s.heap.objs.size,_,I1,rfl,⟨s.heap.objs.size,x,y,fr,rfl,rfl,λzs hy=>by rw[I.list_inj hy hq];exact hx,λzs hz=>by rw[I.list_inj hz hq2];exact hy⟩,⟨hz2,?_,⟨u,u2,(sb2'.2 TO D.TOz).trans hTO1⟩,hi11.extBut sb2'.extBut D.i1z,hi21.extBut sb2'.extBut D.i2z⟩,λc hc=>?_⟩
  ·exact(sb2'.2 TI D.TIz).trans (kk1 TI _ D.TIz D.TITO D.TIi1 D.TIi2 hTI)
  ·rw[ad (MM (hlt c hc))];exact un c hc
 done:=by
  intro X hP hw hK hc i pins s Y H E I hf st hg;subst hP hw hK;obtain⟨hz,hTI,⟨x0,y0,hTO⟩,hi1,hi2⟩:=st;obtain⟨xs,ys,hq,hq2,hx⟩:=hg;obtain⟨its,rv,p,hsz⟩:=I.list hq;obtain⟨its2,rv2,p2,hsz2⟩:=I.list hq2;have D:=wj nd p.isList p2.isList hz hTI hTO hi1 hi2;have l1:=rv.length;have l2:=rv2.length;refine wpAny_pyNext_zip_end (I.ok.hd hc) D hz hTI hTO hi1 hi2 p.isList p2.isList (hx.imp (λh=>by simp;lia) λh=>by simp;lia) λh' kk=>⟨rfl,?_⟩;have un:∀c∈[z,TI,TO,i1,i2],H c=P7:=λc hc=>(hf c hc).1
  have step1:∀c o,c∉[z,TI,TO,i1,i2]->s.heap.get? c=P6 o->h'.get? c=P6 o:=λc o n q=>
   kk c o (λe=>n (by simp[e])) (λe=>n (by simp[e])) (λe=>n (by simp[e])) (λe=>n (by simp[e])) q
  have nit:∀c o,H c=P6 o->c∉[z,TI,TO,i1,i2]:=λc o q hc=>by rw[un c hc] at q;cases q
  refine I.step (g':=s.gens) (d':=s.drawn) (t':=s.toks) (ch:=[z,TI,TO,i1,i2]) (λc hc=>?_) (λc o _ _ hcx q _=>step1 c o hcx q)
   (λc o _ _ hcx q _=>⟨o.slots,step1 c o hcx q⟩) (λ_ _ _ _ n=>n)
   (λc o hcx q=>⟨o,step1 c o hcx q⟩) (λ_ _ q=>q) (λ_ _ _ q=>q)
   (λc ps q=>⟨#[],by rw[q];simp⟩) (λm hm=>?_) (λc o q=>?_) I.bare
  ·obtain⟨f0,f1,f2,f3,f4,f5⟩:=hf c hc;exact⟨f3,f1,f4,f5⟩
  ·obtain⟨o,es',ep,ho',r'⟩:=hm;exact⟨o,es',ep,step1 _ o (λhc=>(hf _ hc).2.1 rfl) ho',r'⟩
  ·refine(I.hok c o q).stay (λd v hc' q'=>step1 d v ?_ q') (λd q'=>q') λd ys q'=>q';rcases hc' with rfl|hc'
   ·exact nit _ _ q
   ·exact nit _ _ hc'
 self:=λ_ _ _ _ _ st h=>wpAny_pyIter_zip st.1 h
section
variable {X:Cx}
noncomputable def JS(K:Mz)(ta:TA):TI:=λY H R=>ta Y H λvs H1=>∃a b,vs=[.ref a,.ref b]/\(∃xs,SqL K H1 a xs)/\(∃ys,SqL K H1 b ys)/\R (JR K a b) H1
theorem C8{a b:P9}{kk:Nat}(hg:Gl X "zip")(hm:X.mg "zip" = P7)(ha:PA X [a,b] ta)(hs:Qm [a,b] X.env=[(Qb,eval a X.env),(Qb,eval b X.env)])(hs2:Qm [b] X.env=[(Qb,eval b X.env)]) :
  PI X (.Tuple es kk tp) (.Call (.Name "zip" p) [a,b] [] pos) (JS X.K ta):=by
 intro pins s Y H R I h;refine Call_ (c0 I hg hm boot_zip (PyProof.Rows.callWith_type1 (aV (ha pos pins s Y H _ I h) λus s1 ⟨vs,H1,I1,r1,q1⟩=>?_) (by rw[hs,hs2]) (by rw[hs2];rfl)));obtain⟨l,l2,e,⟨xs,hq⟩,⟨ys,hq2⟩,q⟩:=q1;subst e
 cases r1 with
 |cons rx r1=>cases r1 with
  |cons ry r1=>
   cases r1;cases rx;cases ry;obtain⟨its,rv,pl,hz⟩:=I1.list hq;obtain⟨its2,rv2,pl2,hz2⟩:=I1.list hq2;refine call_zip_2 pl.isList pl2.isList λh' he hti hto hi1 hi2 hsz hk=>?_;refine wpAny_pyIter_zip (s:={ s1 with heap:=h' }) he ?_;have I2:Inv X pins Y H1 { s1 with heap:=h' }:=I1.kept (t':=s1.toks) hk
   refine⟨s1.heap.objs.size+4,[s1.heap.objs.size+4,s1.heap.objs.size+2,s1.heap.objs.size+3,s1.heap.objs.size,s1.heap.objs.size+1],_,_,H1,rfl,I2,wk l l2 _ _ _ _ _ (by simp<;>lia),⟨he,hti,⟨_,_,hto⟩,hi1,hi2⟩,λc hb=>?_,q⟩
   have hb':s1.heap.objs.size<=c:=by
    simp only[ML,Nb,or_false] at hb;rcases hb with rfl|rfl|rfl|rfl|rfl
    ·exact Nl _ _
    ·exact Nl _ _
    ·exact Nl _ _
    ·exact MH _
    ·exact Nl _ _
   exact I1.fpOk hb' (I1.hok.fresh hb')
end
end G
namespace G
open PySem PySem.Spec PyProof.Rows L2
section
variable {X:Cx}
end
end G
namespace G
open PySem PySem.Spec PyProof.Rows L2
theorem oa:typeLookup (.type "list") "keys" = pure P7:=am_miss_of_fast (by kernel_rfl)
theorem C9{A:Qk}{s:Qd}{o:Obj}{k:Nat}{Q:Option Qa->Qd->Prop}(g1:s.heap.get? a=P6 o)(g2:o.cls=.type "list")(g3:o.data=.seq xs k)(g4:o.dict=P7)(hA:A.handled=P7)(q:∀h' tk,(∀b u,s.heap.get? b=P6 u->h'.get? b=P6 u)->Q P7 { s with heap:=h',toks:=tk }):Qf (Qg prog w) A (getAttr? (.ref a) "keys") Q E s:=by
 obtain⟨c,dct,dat,sl⟩:=o;simp only at g2 g3 g4;subst g2 g3 g4;obtain⟨hp,g,d,tk,os⟩:=s;have tT:∀t,(⟨hp,g,d,t,os⟩:Qd).TypeIs (.ref a) "list":=λ_=>⟨_,g1,rfl⟩;have k1:=sub_AttributeError;have k2:=PySem.F.slot_list_getattribute.lookup;have k3:=PySem.F.slot_list_getattribute.bind (.ref a);have k4:=am_list_getattr_none;unfold getAttr? getAttrBy? getAttrBy;have sz:(("keys":Str).length+100<=sizeLine):=by decide
 repeat (any_goals (first|assumption|exact tT _|((with_reducible show Qf _ _ (call (Value.builtin "list.__getattribute__") _ _) _ _ _);refine call_meets PySem.F.slot_list_getattribute (tT _) am_entry_list_getattribute (PySem.F.args_list_getattribute_2 _ _) (meets_getattribute_miss_list a xs k sl "keys" _ oa (by decide) sz) ⟨g1,hA,λh1 tk1 e1 n1=>?_⟩)|wp_step))
 obtain⟨t1,u1,he⟩:=n1.there;show Qf _ _ (getattributeRaised _ _ _ _ _ _ _) _ _ _;unfold getattributeRaised;have tE:∀t,(⟨h1,g,d,t,os⟩:Qd).TypeIs (.ref e1) "AttributeError":=λ_=>⟨_,he,rfl⟩
 repeat (any_goals (first|assumption|exact tE _|wp_step))
 all_goals exact q _ _ n1.keeps
theorem iq:entryFor table "dict.update.loop" = P6 Builtin.«dict.update.loop»:=entryFor_of_fast (by kernel_rfl)
theorem cV:plainId "dict.update.loop" = P8:=by decide +kernel
noncomputable def bW(ps:List (aw×V)):List (aw×V):=ps.foldl (λm p=>bv m p.1 p.2) []
theorem iZ(ps:List (aw×V))(p:aw×V):bW (ps++[p])=bv (bW ps) p.1 p.2:=by unfold bW;rw[List.foldl_append];rfl
theorem d6:∀(n:Nat) (ps:List (aw×V)),(bW (ps.take n)).length<=n
 |0,ps=>MH _
 |n+1,ps=>by
  cases e:ps[n]? with
  |none=>
   have hl:=NV.mp e;have:=d6 n ps;rw[NO hl] at this;rw[NO (by lia)]
   lia
  |some p=>
   rw[NK,e];show(bW (ps.take n++[p])).length<=n+1;rw[iZ];have:=bQ (bW (ps.take n)) p.1 p.2;have:=d6 n ps
   lia
theorem wl{A:Qk}{R:Result->Qd->Prop}{I d:Qc}{fp wr:List Qc}{n:Nat}{P:Nat->Qa->Prop}{St:Nat->Qn->Prop}{h0:Qn}{ps:List (aw×V)}(W:Walks prog w A.in1 I fp wr n P St)(hd:d∉fp)(hn:n=ps.length)(hl:n<=sizeLine)(hP:∀i v,P i v->∃(r:Qc) (o:Obj) (z:aw) (t:Qa) (u:Qa) (m:Nat) (x:V),v=.ref r/\r∉wr/\r≠d/\h0.get? r=P6 o/\o.cls=.type "tuple"/\o.data=.seq #[t,u] m/\ps[i]?=P6 (z,x)/\RelV x u/\RelV (kV z) t):∀(k j:Nat) (s:Qd) (vs:List (aw×Qa)),n-j=k->j<=n->St j s.heap->
  s.heap.DictOf (aA prog w) d vs->KV (bW (ps.take j)) vs->(∀b o,b∉wr->b≠d->h0.get? b=P6 o->s.heap.get? b=P6 o)->
  (∀h' tk vs',h'.DictOf (aA prog w) d vs'->KV (bW ps) vs'->(∀b o,b∉wr->b≠d->s.heap.get? b=P6 o->h'.get? b=P6 o)->R (.ok (.ret .none)) { s with heap:=h',toks:=tk })->
  codeAny (Qg prog w) A (.builtin "dict.update.loop" ⟨[.ref d,.ref I,QD (j:Int),.none],[]⟩) R s:=by
 have dw:d∉wr:=λz=>hd (W.sub _ z);intro k
 induction k with
 |zero=>
  intro j s vs e1 e2 st dd kv kp fin;have ej:j=n:=by lia
  subst ej;refine codeAny_builtin iq ?_;rw[Around.under_plainId cV _];show Qf _ A.in1 (pyNext (.ref I) >>= _) _ _ s;refine Qe (W.done s _ _ st λh' tk keep=>?_);show Qf _ A.in1 (Builtin.Dict.addKeywords d [] >>= _) _ _ _;refine Qe (Qh (Qh ?_));obtain⟨o,es,ep,g1,g2⟩:=dd;rw[hn,Nk] at kv;exact fin h' tk vs ⟨o,es,ep,keep d o dw g1,g2⟩ kv λb o n1 n2 q=>keep b o n1 q
 |succ k ih=>
  intro j s vs e1 e2 st dd kv kp fin;have lt:j<n:=by lia
  refine codeAny_builtin iq ?_;rw[Around.under_plainId cV _];show Qf _ A.in1 (pyNext (.ref I) >>= _) _ _ s;refine Qe (W.item j s _ _ lt st λv h' tk hv st' keep=>?_);obtain⟨r,o,z,t,u,m,x,rfl,r1,r2,r3,r4,r5,r6,r7,r8⟩:=hP j v hv;have r3':=keep r o r1 (kp r o r1 r2 r3)
  have dd':h'.DictOf (aA prog w) d vs:=by
   obtain⟨o,es,ep,g1,g2⟩:=dd;exact⟨o,es,ep,keep d o dw g1,g2⟩
  have hz:vs.length<=sizeLine:=by
   have:=d6 j ps;rw[<- kv.length]
   lia
  refine Qe (Qx (Qe (wpAny_tryCatch ?_)));unfold Builtin.Dict.pairItems;refine Qe (wpAny_typeOf (T:="tuple") ⟨_,r3',r4⟩ ?_);rw[if_pos (by decide)];refine Qe (wpAny_seqItems r3' r5 (Qh ?_));show Qf _ A.in1 (holding [t,u] (dictSet d t u)) _ _ _;refine Qx (wpAny_dictSet_pairs (hsz:=hz) (jR r8) dd' λh2 dd2 sb=>?_);refine Qh ⟨plainId_quiet cV _,ih (j+1) _ _ (by lia) lt (W.frame _ _ _ st' λb hb o q=>(sb.2 b (λe=>hd (e▸hb))).trans q) dd2 ?_ (λb o n1 n2 q=>(sb.2 b n2).trans (keep b o n1 (kp b o n1 n2 q))) λh3 tk3 vs3 d3 kv3 keep3=>?_⟩
  ·rw[NK,r6];show KV (bW (ps.take j++[(z,x)])) _;rw[iZ];exact kv.put z r7
  ·exact fin h3 tk3 vs3 d3 kv3 λb o n1 n2 q=>keep3 b o n1 n2 ((sb.2 b n2).trans (keep b o n1 q))
end G
namespace G
open PySem PySem.Spec PyProof.Rows L2
section
variable {X:Cx}
noncomputable def zi(K:Mz)(H:Hp)(rs:List V)(ps:List (aw×V)):Prop:=rs.length=ps.length/\∀(i:Nat) (z:aw) (x:V),ps[i]?=P6 (z,x)->∃a,rs[i]?=P6 (V.ref a)/\SqT K H a [kV z,x]
theorem uI(hc:X.calm=P8):eN X (.type "dict") (λxs H Q=>∃(p:Qc) (rs:List V) (ps:List (aw×V)),xs=[.ref p]/\SqL X.K H p rs/\zi X.K H rs ps/\ps.length<=sizeLine/\∀l,H l=P7->Q (.ref l) (upd H l (.dK (bW ps)))):=by
 intro pins s Y H xs us Q I r h;obtain⟨p,rs,ps,rfl,hq,hps,hl,q⟩:=h;obtain⟨u,rfl,rx⟩:=jO r;cases rx;obtain⟨its,rv,pl,hz⟩:=I.list hq;have hlen:=rv.length
 have lp:p<s.heap.objs.size:=by
  obtain⟨o,n,e,_⟩:=pl;exact MD e
 refine callType_codes (Q₁:=λobj s₁=>obj=.ref s.heap.objs.size/\s₁={ s with heap:=s.heap.push { cls:=.type "dict",data:=.dict #[] } }) PySem.F.kt_called_dict (PySem.F.kt_typeCall_dict_1 _) PySem.F.entry_dict_init (kt_code_dict_new _ ⟨rfl,rfl⟩) ?_
 rintro obj s1 ⟨rfl,rfl⟩
 have dn:(s.heap.push { cls:=.type "dict",data:=.dict #[] }).DictOf (aA X.prog X.w) s.heap.objs.size []:=Heap.DictOf.new s.heap;refine⟨dn.typeIs,PySem.F.args_dict_init_2 _ _,?_⟩;have hh:X.A.in1.in1.handled=P7:=I.ok.hd hc;obtain⟨o,n,g1,g2,g3,g4⟩:=pl;have g1':(s.heap.push { cls:=.type "dict",data:=.dict #[] }).get? p=P6 o:=MC _ g1;unfold Builtin.«dict.__init__»;refine Qe ?_;unfold Builtin.Dict.selfAndRest;refine Qe (wpAny_notOrdered_dict dn.typeIs ?_);show Qf _ _ (pure (s.heap.objs.size,[Value.ref p])) _ _ _;refine Qh ?_;show Qf _ _ (Builtin.Dict.updateFrom "dict.__init__" s.heap.objs.size (.ref p) [] Value.none) _ _ _;unfold Builtin.Dict.updateFrom;refine Qe (wpAny_typeOf (T:="list") ⟨_,g1',g2⟩ ?_);rw[if_pos (by decide)];refine Qe (C9 g1' g2 g4 g3 hh λh1 t1 k1=>?_);have hp1:h1.IsList p its.toArray:=⟨o,k1 _ _ g1',g2,_,g4⟩;refine Qe (wpAny_rule (Qe (QA hp1 ?_)));have dh:h1.get? s.heap.objs.size=P6 { cls:=.type "dict",data:=.dict #[] }:=k1 _ _ (MP _ rfl);have ld:s.heap.objs.size<h1.objs.size:=MD dh;have old:∀b w,s.heap.get? b=P6 w->(h1.push { cls:=.type "list_iterator",data:=.fields #[.ref p,.int 0 0] }).get? b=P6 w:=λb w e=>MC _ (k1 b w (MC _ e));have W:=Walks.list (prog:=X.prog) (w:=X.w) hh h1.objs.size p (MM (Oq lp ld)) its.toArray;refine Qh ⟨plainId_quiet cV _,wl (A:=X.A.in1) (d:=s.heap.objs.size) (h0:=h1.push { cls:=.type "list_iterator",data:=.fields #[.ref p,.int 0 0] }) (ps:=ps) W (λhm=>?_) ?_ ?_ (λi v hv=>?_) _ 0 _ [] rfl (M4 _) ⟨⟨_,MP _ rfl,rfl,rfl⟩,?_⟩ ?_ .nil (λb w _ _ e=>e) λh2 t2 vs d2 kv keep=>?_⟩
 ·simp only[ML,Nb,or_false] at hm;rcases hm with z|z
  ·exact absurd z (MM ld)
  ·exact absurd z (NP lp)
 ·rw[MQ,<- hlen];exact hps.1
 ·rw[MQ,<- hlen];exact hz
 ·have hv:its[i]?=P6 v:=by simpa using hv
  have hi:i<ps.length:=by
   have:=(MJ.mp hv).1;rw[<- hps.1,hlen];exact this
  obtain⟨a,e1,e2⟩:=hps.2 i ps[i].1 ps[i].2 (by rw[MK hi]);obtain⟨y,e3,e4⟩:=rv.get e1;rw[hv] at e3;cases e3;cases e4;obtain⟨jts,rj,⟨oj,f1,f2,m,f3⟩,_⟩:=I.tuple e2;have la:=MD f1
  cases rj with
  |cons ra rj=>cases rj with
   |cons rb rj=>
    cases rj
    exact⟨a,oj,ps[i].1,_,_,m,ps[i].2,rfl,(λz=>by
     have z:a=h1.objs.size:=by simpa using z
     exact absurd (Oq la ld) (z▸Ng _)),MM la,old a oj f1,f2,f3,by rw[MK hi],rb,ra⟩
 ·exact hp1.push _
 ·obtain⟨o',es,ep,q1,q2⟩:=dn;exact⟨o',es,ep,MC _ (k1 _ _ q1),q2⟩
 ·have ln:(bW ps).length<=sizeLine:=by
   have:=d6 ps.length ps;rw[Nk] at this;exact M0 this hl
  have I2:Inv X pins Y (upd H s.heap.objs.size (.dK (bW ps))) { s with heap:=h2,toks:=t2 }:=I.laid (t':=t2) (λb w e=>keep b w (λz=>by
   have z:b=h1.objs.size:=by simpa using z
   exact absurd (Oq (MD e) ld) (z▸Ng _)) (MM (MD e)) (old b w e)) (MH _) ⟨ln,beq_eq_false_iff_ne.mpr (Ne.symm (MM I.big)),vs,kv,d2⟩
  exact⟨rfl,.ref s.heap.objs.size,_,I2,rfl,q _ (I.hok.fresh (MH _))⟩
end
end G
namespace G
open PySem PySem.Spec PyProof.Rows L2
section
variable {X:Cx}
end
end G
namespace L2
open PySem PySem.Spec PyProof.Rows
section
variable {X:Cx} {pins:List (Qc×Obj)} {Y:St} {H:Hp} {s:Qd}
noncomputable def ir(wi:TI)(g:TG)(tt:TT)(te:TE)(cap:List (Option Nat)):TE:=λY H Q=>wi Y H λJ H1=>∀D,H1 D=P7->∃W:Nat->Nat->St->Hp->Prop,(∃m,W 0 m (cu Y cap) (upd H1 D (.lst [])))/\∀i m Y' H',W i m Y' H'->
 (J.stop i H'/\Q (.ref D) H')\/(J.go i H'/\∀x H2,J.yld i H' x H2->g x Y' H2 λY2 H3=>tt Y2 H3 λok H3=>if ok=P8 then te Y2 H3 λy H4=>∃ys,H4 D=P6 (.lst ys)/\ys.length<sizeLine/\∃m',m'<m/\W (i+1) m' Y2 (upd H4 D (.lst (ys++[y]))) else ∃m',m'<m/\W (i+1) m' Y2 H3)
noncomputable def zj(X:Cx)(ifs:List P9)(tt:TT):Prop:=∀(pins:List (Qc×Obj)) (s:Qd) (Y:St) (H:Hp) (Q:Bool->Hp->Prop),Inv X pins Y H s->tt Y H Q->
 Qf (Qg X.prog X.w) X.A (forIn ifs P8 λc r=>if r=P8 then do let ok <- isTrue c X.env (eval c X.env);pure (ForInStep.yield ok) else pure (ForInStep.yield r)) (TP X pins Y Q) X.xe s
theorem rY:zj X [] (λ_ H Q=>Q P8 H):=λpins s Y H Q I h=>wpAny_tests_nil ⟨H,I,h⟩
theorem rZ{c:P9}(h:PT X c t):zj X [c] t:=λpins s Y H Q I q=>wpAny_tests_one (h pins s Y H Q I q)
theorem lC(hc:X.calm=P8)(O:eO X N' scope cap)(hi:PI X tg iter wi)(hg:∀C s H ex,PG (aj X N' scope C s H ex) tg g)(ht:∀C s H ex,zj (aj X N' scope C s H ex) ifs tt)(he:∀C s H ex,PE (aj X N' scope C s H ex) elt te){Q:VK}(I:Inv X pins Y H s)(h:ir wi g tt te cap Y H Q)(hs:∀x,foldedSetIterable iter X.env x=pure x)(hX:X.xe=E)(hQ:∀(C D:Qc) (s1:Qd) (H1:Hp) (fp:List Qc) (Y':St) (H':Hp) (s':Qd),Inv X pins Y H1 s1->(∀b∈fp,gw X pins H1 b)->Inv (aj X N' scope C s1 H1 fp) [] Y' H' s'->Q (.ref D) H'->
   compPost (Qg X.prog X.w) X.A E use Q' (.ref D) C (.ok .next) s') :
  Qf (Qg X.prog X.w) X.A (comprehension (.ListComp elt [⟨tg,iter,ifs,0⟩] scope pos) scope X.env cpos (newList []) Qb (eval iter X.env) use) Q' E s:=by
 have hcl:closureFor scope X.env=pure (fx X.env.cells scope.names []):=fF λy hy e=>I.ok.has _ (O.free y hy e);refine wpAny_comprehension_free (g:=⟨tg,iter,ifs,0⟩) (gs:=[]) rfl hs hcl O.kind O.names ?_;subst hX;refine aV (hi pins s Y H _ I h) λv s1 h1=>aV h1 λitv s2 h2=>?_;obtain⟨it,fp,tn,J,H2,e,I2,T,st2,f2,hW⟩:=h2;subst e;refine QB (fG ?_);dsimp only;generalize hH2:s2.heap.push { cls:=.type "list",dict:=P7,data:=.seq ([]:List Qa).toArray }=HH;have hCs:HH.objs.size=s2.heap.objs.size+1:=by rw[<- hH2,NC]
 have hDC:s2.heap.objs.size<HH.objs.size:=by rw[hCs];exact Nz _
 generalize hh1:pushCells (HH.push { cls:=.type "dict",data:=.dict #[] }) scope.names=h₁;have kp:∀b o,HH.get? b=P6 o->h₁.get? b=P6 o:=λb o e=>hh1▸pushCells_keeps _ _ b o (MC _ e);have hns₁:h₁.Ns HH.objs.size λ_=>P7:=hh1▸(Heap.Ns.new HH (.type "dict")).keeps (pushCells_keeps _ _)
 have hcs:∀x c,(Qq (HH.objs.size+1) scope.names []).lookup x=P6 c->h₁.IsCell c P7:=λx c e=>by
  have ok:=cellsFrom_ok scope.names (HH.push { cls:=.type "dict",data:=.dict #[] }) 0 [] ⟨λ_ _ hm=>(nomatch hm),List.Pairwise.nil⟩ (M4 _)
  rw[NC] at ok;exact hh1▸(ok.empty x c (bN e)).1
 have old:∀b o,s2.heap.get? b=P6 o->h₁.get? b=P6 o:=λb o e=>kp b o (hH2▸MC _ e);have new:h₁.get? s2.heap.objs.size=P6 { cls:=.type "list",data:=.seq ([]:List Qa).toArray }:=kp _ _ (hH2▸MP _ rfl);have hfo:∀b∈fp,b<s2.heap.objs.size:=λb hb=>let ⟨o,e,_⟩:=T.obj 0 _ st2 b hb;MD e;have hfree:=I2.hok.fresh (MH s2.heap.objs.size);obtain⟨W,⟨m0,w0⟩,turn⟩:=hW s2.heap.objs.size hfree;have J0:=n9 (tk:=s2.toks) (o:=.lst []) I2 O f2 hfo (C:=HH.objs.size) (D:=s2.heap.objs.size) (by rw[hCs];exact Oa _) (MH _) hDC hcs hns₁ old ⟨M4 _,[],_,.nil,new⟩;have st0:tn 0 h₁:=T.keep 0 _ _ st2 λb _ o e=>old b o e
 have fr0:∀b∈fp,(upd H2 s2.heap.objs.size (.lst [])) b=P7:=λb hb=>by
  rw[ad (MM (hfo b hb))];exact(f2 b hb).1
 have stat:∀{H':Hp},(∀b∈fp,H' b=P7)->∀b∈fp,gw (aj X N' scope HH.objs.size s2 H2 fp) [] H' b:=λhn b hb=>
  ⟨hn b hb,(J0.ok.exf b hb).1,J0.ok.exfs b hb,.inl hb,(J0.ok.exf b hb).2,λp hp=>absurd hp (by simp[aj])⟩
 have loop:codeAny (Qg X.prog X.w) X.A (.compLoop (.ListComp elt [⟨tg,iter,ifs,0⟩] scope pos) 0 (.ref it) (.ref s2.heap.objs.size) (compEnvC scope (C6 X.env.cells scope.names HH.objs.size) HH.objs.size X.env))
   (compPost (Qg X.prog X.w) X.A X.xe use Q' (.ref s2.heap.objs.size) HH.objs.size) { s2 with heap:=h₁,toks:=s2.toks }:=by
  refine mq (λn s'=>∃i Y' H',Inv (aj X N' scope HH.objs.size s2 H2 fp) [] Y' H' s'/\tn i s'.heap/\(∀b∈fp,H' b=P7)/\W i n Y' H') ?_ m0 ⟨0,_,_,J0,st0,fr0,w0⟩
  rintro n s3 ⟨i,Y3,H3,I3,st3,fr3,w3⟩
  rcases turn i n Y3 H3 w3 with⟨stop,qn⟩|⟨go,step⟩
  ·refine aV (T.done (aj X N' scope HH.objs.size s2 H2 fp) rfl rfl rfl hc i [] s3 Y3 H3 _ I3 (stat fr3) st3 stop) λr s4 ⟨hr,I4⟩=>?_;subst hr;exact hQ _ _ s2 H2 fp Y3 H3 s4 I2 f2 I4 qn
  ·refine aV (T.item (aj X N' scope HH.objs.size s2 H2 fp) rfl rfl rfl hc i [] s3 Y3 H3 _ I3 (stat fr3) st3 go) λr s4 ⟨u,hr,h4⟩=>?_;subst hr;refine aV h4 λ_ s5 ⟨x,H5,I5,r5,y5,st5,fr5⟩=>?_;have I5':=I5.pinned (stat fr5) (T.obj _ _ st5);refine aV (hg _ _ _ _ _ s5 Y3 H5 x u _ I5' r5 (step x H5 y5)) λ_ s6 ⟨Y6,H6,I6,q6⟩=>?_;refine aV (ht _ _ _ _ _ s6 Y6 H6 _ I6 q6) λok s6' ⟨H6',I6',q6'⟩=>?_
   cases ok with
   |false=>
    rw[if_neg NA] at q6'⊢;obtain⟨m',hm,w7⟩:=q6';refine⟨m',hm,i+1,Y6,_,I6'.unpinned,T.keep _ _ _ st5 λb hb o e=>(I6'.pin (b,o) (MN _ (MN _ (ba hb e)))).1,λb hb=>?_,w7⟩;obtain⟨o,e,d⟩:=T.obj _ _ st5 b hb;exact(I6'.pin (b,o) (MN _ (MN _ (ba hb e)))).2.1
   |true=>
   rw[if_pos rfl] at q6'⊢;refine aV (he _ _ _ _ _ s6' Y6 H6' _ I6' q6') λyv s7 ⟨y,H7,I7,r7,ys,hD,hz,m',hm,w7⟩=>?_;refine aV (lu _ s7 Y6 H7 (.ref s2.heap.objs.size) [y] (.ref s2.heap.objs.size) [yv] (λv H'=>v=.non/\H'=upd H7 s2.heap.objs.size (.lst (ys++[y]))) I7 rfl (.cons r7 .nil) ⟨_,ys,y,rfl,rfl,hD,hz,rfl,rfl⟩) λ_ s8 ⟨_,H8,I8,_,_,e8⟩=>?_;subst e8;refine⟨m',hm,i+1,Y6,_,I8.unpinned,T.keep _ _ _ st5 λb hb o e=>(I8.pin (b,o) (MN _ (MN _ (ba hb e)))).1,λb hb=>?_,w7⟩;obtain⟨o,e,d⟩:=T.obj _ _ st5 b hb;exact(I8.pin (b,o) (MN _ (MN _ (ba hb e)))).2.1
 exact codeAny_compStart_list loop (T.self _ 0 _ _ _ st0 loop)
theorem oe(hc:X.calm=P8)(O:eO X N' scope cap)(hi:PI X tg iter wi)(hg:∀C s H ex,PG (aj X N' scope C s H ex) tg g)(ht:∀C s H ex,zj (aj X N' scope C s H ex) ifs tt)(he:∀C s H ex,PE (aj X N' scope C s H ex) elt te)(hs:∀x,foldedSetIterable iter X.env x=pure x:=by intro _;rfl):PE X (.ListComp elt [⟨tg,iter,ifs,0⟩] scope pos) (ir wi g tt te cap):=by
 intro pins s Y H Q I h;rw[eval_ListComp];refine lC (use:=P7) (Q':=EP X pins Y Q) hc O hi hg ht he I h hs rfl λC D s1 H1 fp Y' H' s' I1 f1 J q=>?_;obtain⟨m,hn,_⟩:=J.loc;exact⟨m,hn,λh' hsb=>⟨.ref D,H',gE I1 f1 J hsb,rfl,q⟩⟩
theorem wm{cpos pos' pos:Pos}{i:Nat}{x:Str}(hc:X.calm=P8)(O:eO X N' scope cap)(hi:PI X tg iter wi)(hg:∀C s H ex,PG (aj X N' scope C s H ex) tg g)(ht:∀C s H ex,zj (aj X N' scope C s H ex) ifs tt)(he:∀C s H ex,PE (aj X N' scope C s H ex) elt te)(hs:∀x,foldedSetIterable iter X.env x=pure x)(hN:X.N.Nodup)(hix:X.N[i]?=P6 x)(hx:Cq X.env.scope x)(hf:X.fn x=P8\/X.env.scope.names.lookup x=P6 .local)(hsw:swapsWith (.ListComp elt [⟨tg,iter,ifs,0⟩] scope cpos) (P6 (.Name x pos')) pos.line X.env=pure P8) :
  PS X (.Assign [.Name x pos'] (.ListComp elt [⟨tg,iter,ifs,0⟩] scope cpos) pos) (yW (ir wi g tt te cap) (gu i)):=by
 intro pins s Y H D I h;rw[exec_Assign_Name_used _ _ _ _ hsw];refine Qe (wpAny_standAt (Qe ?_));show Qf _ _ (do let _ <- comprehension (.ListComp elt [⟨tg,iter,ifs,0⟩] scope cpos) scope X.env _ (newList []) Qb (eval iter X.env) (P6 (assign (.Name x pos') X.env))) _ _ s;refine Qe (wpAny_mono (lC (use:=P6 (assign (.Name x pos') X.env)) (Q':=λ_ s'=>∃Y' H',Inv X pins Y' H' s'/\D.nx Y' H') hc O hi hg ht he I h hs rfl λC D1 s1 H1 fp Y' H' s' I1 f1 J q=>?_) (λ_ s' hq=>Qh (Qh hq)) λ_ _ e=>e);show Qf _ _ (assign (.Name x pos') X.env (.ref D1)) _ _ s';have I2:Inv X pins Y H' s':=gE I1 f1 J (Heap.SameBut.refl C s'.heap);have hC:s1.heap.objs.size<=C:=J.ok.above;have old:∀b o,s1.heap.get? b=P6 o->b≠C:=λb o e=>MM (MG (MD e) hC);obtain⟨m1,⟨oL,_,_,gL,_⟩,_⟩:=id I1.loc;have hL:X.env.locals≠C:=old _ _ gL
 have hcl:∀x c,X.env.cells.lookup x=P6 c->c≠C:=λx c e=>by
  obtain⟨v,o,g,_⟩:=I1.cell x c e;exact old _ _ g
 have hpn:∀p∈X.pn++pins,p.1≠C:=λp hp=>old _ _ (I1.pin p hp).1
 have h0:X.s₀.heap.objs.size<=C:=by
  refine M0 ?_ hC;exact Of (M9 I1.ok.above (MD gL))
 obtain⟨m,hn,_⟩:=J.loc;refine wpAny_assign_Name (ij I2 hN hix hx (v:=.ref D1) rfl (λs3 I3 hsb=>?_) hf);obtain⟨a,hsb,ha⟩:=hsb
 have hCa:C≠a:=by
  rcases ha with rfl|ha
  ·exact Ne.symm hL
  ·exact Ne.symm (hcl _ _ ha)
 exact⟨m,hn.sameBut hsb hCa,λh' hs'=>⟨_,H',I3.junk hs' h0 hL hcl hpn J.free,q⟩⟩
end
end L2
namespace J
open PySem PySem.Spec PyProof.Rows L2
noncomputable abbrev DK:=aw ⊕ List (aw ⊕ List aw)
inductive Hd where
 |lst|tup|dic (t:Nat) (ks:List DK)|obj (c:Str) (ns:List Str)
 deriving DecidableEq
inductive D where
 |non|bl (b:Bool)|int (i:Int)|str (x:Str)|scr (ns:List Int)|nd (h:Hd) (ds:List D)
noncomputable abbrev D.lst(ds:List D):D:=.nd .lst ds
noncomputable abbrev D.tup(ds:List D):D:=.nd .tup ds
noncomputable abbrev D.dic(t:Nat)(ks:List DK)(ds:List D):D:=.nd (.dic t ks) ds
noncomputable def Hd.mu:Hd->Bool
 |.tup=>Qb
 |_=>P8
noncomputable def JT(K:Mz)(a:Qc)(xs:List V):Prop:=
 ∃(o:Obj) (its:Array Qa) (n:Nat),K.lookup a=P6 o/\o.cls=.type "list"/\o.dict=P7/\o.data=.seq its n/\its.size<=sizeLine/\Vals xs its.toList
noncomputable def du(K:Mz)(o:HO):Hd->List V->Prop
 |.lst,xs=>o=.lst xs
 |.tup,xs=>o=.tup xs
 |.dic t ks,xs=>(t=0/\∃kvs:List (aw×V),o=.dK kvs/\ks=kvs.map (λp=>Sum.inl p.1)/\xs=kvs.map (·.2))\/(∃m,t=m+1/\∃(kvs:List (List (aw ⊕ List aw)×V)) (ep:Nat),o=.dT m ep kvs/\ks=kvs.map (λp=>Sum.inr p.1)/\xs=kvs.map (·.2))
 |.obj c ns,xs=>∃C dx,NI K Qp c=P6 (P6 (.ref C))/\(Cls K C/\∀f∈ns,NoAttr K C f)/\o=.ins C dx (ns.zip xs)/\ns.length=xs.length
noncomputable abbrev Pr:=Qc->Prop
mutual
noncomputable def Rp(K:Mz)(H:Hp)(S:Pr):D->V->Prop
 |.non,v=>v=.non
 |.bl b,v=>v=.bl b
 |.int i,v=>v=.int i
 |.str x,v=>v=.str x
 |.scr ns,v=>∃a,v=.ref a/\((¬S a/\Rd H a (.lst (ns.map V.int)))\/JT K a (ns.map V.int))
 |.nd h ds,v=>∃a o xs,v=.ref a/\¬S a/\H a=P6 o/\du K o h xs/\RpL K H S ds xs
noncomputable def RpL(K:Mz)(H:Hp)(S:Pr):List D->List V->Prop
 |[],xs=>xs=[]
 |d::ds,xs=>∃y ys,xs=y::ys/\Rp K H S d y/\RpL K H S ds ys
end
section
variable {K:Mz} {H H':Hp} {S S':Pr}
mutual
theorem Rp.go(k:∀b o,¬S b->H b=P6 o->H' b=P6 o/\¬S' b):∀{d:D} {v:V},Rp K H S d v->Rp K H' S' d v
 |.non,_,h=>h
 |.bl _,_,h=>h
 |.int _,_,h=>h
 |.str _,_,h=>h
 |.scr ns,v,h=>by
  unfold Rp at h⊢;obtain⟨a,e,h⟩:=h;refine⟨a,e,?_⟩;rcases h with⟨n,g|⟨o,g⟩⟩|h
  ·exact .inl ⟨(k _ _ n g).2,.inl (k _ _ n g).1⟩
  ·exact .inl ⟨(k _ _ n g).2,.inr ⟨o,(k _ _ n g).1⟩⟩
  ·exact .inr h
 |.nd hd ds,v,h=>by
  unfold Rp at h⊢;obtain⟨a,o,xs,e,n,g,q,r⟩:=h;exact⟨a,o,xs,e,(k _ _ n g).2,(k _ _ n g).1,q,RpL.go k r⟩
theorem RpL.go(k:∀b o,¬S b->H b=P6 o->H' b=P6 o/\¬S' b):∀{ds:List D} {vs:List V},RpL K H S ds vs->RpL K H' S' ds vs
 |[],_,h=>by unfold RpL at h⊢;exact h
 |d::ds,_,h=>by
  unfold RpL at h⊢;obtain⟨y,ys,e,r,t⟩:=h;exact⟨y,ys,e,Rp.go k r,RpL.go k t⟩
end
theorem Rp.same(s:Same H H'){d:D}{v:V}(h:Rp K H S d v):Rp K H' S d v:=h.go λb o n e=>⟨s b o e,n⟩
theorem RpL.same(s:Same H H'){d:List D}{v:List V}(h:RpL K H S d v):RpL K H' S d v:=h.go λb o n e=>⟨s b o e,n⟩
theorem Rp.weak(k:∀b,S' b->S b){d:D}{v:V}(h:Rp K H S d v):Rp K H S' d v:=h.go λb o n e=>⟨e,λz=>n (k b z)⟩
theorem RpL.weak(k:∀b,S' b->S b){d:List D}{v:List V}(h:RpL K H S d v):RpL K H S' d v:=h.go λb o n e=>⟨e,λz=>n (k b z)⟩
theorem RpL.len:∀{ds:List D} {vs:List V},RpL K H S ds vs->vs.length=ds.length
 |[],_,h=>by unfold RpL at h;rw[h];rfl
 |d::ds,_,h=>by
  unfold RpL at h;obtain⟨y,ys,rfl,_,t⟩:=h;rw[MY,MY,RpL.len t]
theorem RpL.nil:RpL K H S [] []:=by unfold RpL;rfl
theorem RpL.cons{d:D}{v:V}{ds:List D}{vs:List V}(h1:Rp K H S d v)(h2:RpL K H S ds vs):RpL K H S (d::ds) (v::vs):=by unfold RpL;exact⟨v,vs,rfl,h1,h2⟩
theorem RpL.nil_inv(h:RpL K H S [] vs):vs=[]:=by unfold RpL at h;exact h
theorem RpL.cons_inv(h:RpL K H S (d::ds) vs):∃y ys,vs=y::ys/\Rp K H S d y/\RpL K H S ds ys:=by unfold RpL at h;exact h
theorem RpL.getD:∀{ds:List D} {vs:List V} {i:Nat} {d:D},RpL K H S ds vs->ds[i]?=P6 d->∃v,vs[i]?=P6 v/\Rp K H S d v
 |[],_,_,_,_,e=>by simp at e
 |d::ds,_,0,d',h,e=>by obtain⟨y,ys,rfl,r,t⟩:=h.cons_inv;simp at e;subst e;exact⟨y,rfl,r⟩
 |d::ds,_,i+1,d',h,e=>by obtain⟨y,ys,rfl,r,t⟩:=h.cons_inv;simpa using RpL.getD t (by simpa using e)
theorem RpL.append:∀{ds es:List D} {vs us:List V},RpL K H S ds vs->RpL K H S es us->RpL K H S (ds++es) (vs++us)
 |[],_,_,_,h,g=>by rw[h.nil_inv];exact g
 |d::ds,_,_,_,h,g=>by obtain⟨y,ys,rfl,r,t⟩:=h.cons_inv;exact .cons r (RpL.append t g)
theorem RpL.take:∀{ds:List D} {vs:List V} (n:Nat),RpL K H S ds vs->RpL K H S (ds.take n) (vs.take n)
 |_,_,0,_=>by simpa using RpL.nil
 |[],_,_+1,h=>by rw[h.nil_inv];simpa using RpL.nil
 |d::ds,_,n+1,h=>by obtain⟨y,ys,rfl,r,t⟩:=h.cons_inv;exact .cons r (RpL.take n t)
theorem RpL.drop:∀{ds:List D} {vs:List V} (n:Nat),RpL K H S ds vs->RpL K H S (ds.drop n) (vs.drop n)
 |_,_,0,h=>h
 |[],_,_+1,h=>by rw[h.nil_inv];simpa using RpL.nil
 |d::ds,_,n+1,h=>by obtain⟨y,ys,rfl,r,t⟩:=h.cons_inv;exact RpL.drop n t
theorem RpL.set:∀{ds:List D} {vs:List V} (n:Nat) {d:D} {v:V},RpL K H S ds vs->Rp K H S d v->RpL K H S (ds.set n d) (vs.set n v)
 |[],_,_,_,_,h,_=>by rw[h.nil_inv];simpa using RpL.nil
 |d::ds,_,0,_,_,h,g=>by obtain⟨y,ys,rfl,r,t⟩:=h.cons_inv;exact .cons g t
 |d::ds,_,n+1,_,_,h,g=>by obtain⟨y,ys,rfl,r,t⟩:=h.cons_inv;exact .cons r (RpL.set n t g)
theorem RpL.ints:∀ns:List Int,RpL K H S (ns.map D.int) (ns.map V.int)
 |[]=>.nil
 |n::ns=>.cons (by unfold Rp;rfl) (RpL.ints ns)
end
mutual
noncomputable def qj:D->Bool
 |.nd h ds=>!h.mu&&zk ds
 |.scr _=>Qb
 |_=>P8
noncomputable def zk:List D->Bool
 |[]=>P8
 |d::ds=>qj d&&zk ds
end
noncomputable def MuOk(H:Hp)(S:Pr):Prop:=∀a,S a->∃o,H a=P6 o/\∀xs,o≠.tup xs
section
variable {K:Mz} {H:Hp} {S S':Pr}
mutual
theorem Rp.im(m:MuOk H S'):∀{d:D} {v:V},qj d=P8->Rp K H S d v->Rp K H S' d v
 |.non,_,_,h=>h
 |.bl _,_,_,h=>h
 |.int _,_,_,h=>h
 |.str _,_,_,h=>h
 |.scr ns,v,i,h=>by simp[qj] at i
 |.nd hd ds,v,i,h=>by
  unfold Rp at h⊢;obtain⟨a,o,xs,e,n,g,q,r⟩:=h;rw[qj,MA] at i;refine⟨a,o,xs,e,λz=>?_,g,q,RpL.im m i.2 r⟩;obtain⟨o',e',ne⟩:=m a z;rw[g] at e';cases e'
  cases hd with
  |tup=>exact ne _ q
  |_=>exact absurd i.1 (by simp[Hd.mu])
theorem RpL.im(m:MuOk H S'):∀{ds:List D} {vs:List V},zk ds=P8->RpL K H S ds vs->RpL K H S' ds vs
 |[],_,_,h=>by unfold RpL at h⊢;exact h
 |d::ds,_,i,h=>by
  rw[zk,MA] at i;obtain⟨y,ys,rfl,r,t⟩:=h.cons_inv;exact .cons (Rp.im m i.1 r) (RpL.im m i.2 t)
end
end
inductive Ow where
 |fz|own (es:List Ow) (r:Ow)
mutual
noncomputable def Tr(K:Mz)(H:Hp)(S:Pr):D->Ow->V->Pr->Prop
 |.nd h ds,.own es r,v,F=>∃a o xs F',v=.ref a/\H a=P6 o/\du K o h xs/\(h.mu=P8->¬F' a)/\(h.mu=Qb->¬S a)/\(∀b,F b↔(h.mu=P8/\b=a)\/F' b)/\TrL K H S ds es r xs F'
 |d,_,v,F=>(∀b,¬F b)/\Rp K H S d v
noncomputable def TrL(K:Mz)(H:Hp)(S:Pr):List D->List Ow->Ow->List V->Pr->Prop
 |[],_,_,xs,F=>xs=[]/\∀b,¬F b
 |d::ds,es,r,xs,F=>∃y ys F1 F2,xs=y::ys/\(∀b,F b↔F1 b\/F2 b)/\(∀b,F1 b->¬F2 b)/\Tr K H S d (es.headD r) y F1/\TrL K H S ds es.tail r ys F2
end
section
variable {K:Mz} {H H':Hp} {S S':Pr}
mutual
theorem Tr.go:∀{d:D} {k:Ow} {v:V} {F:Pr},(∀b o,(¬S b\/F b)->H b=P6 o->H' b=P6 o)->(∀b o,H b=P6 o->¬S b->¬S' b)->Tr K H S d k v F->Tr K H' S' d k v F
 |.non,_,_,_,k1,k2,h=>by unfold Tr at h⊢;exact⟨h.1,h.2⟩
 |.bl _,_,_,_,k1,k2,h=>by unfold Tr at h⊢;exact⟨h.1,h.2⟩
 |.int _,_,_,_,k1,k2,h=>by unfold Tr at h⊢;exact⟨h.1,h.2⟩
 |.str _,_,_,_,k1,k2,h=>by unfold Tr at h⊢;exact⟨h.1,h.2⟩
 |.scr ns,_,_,_,k1,k2,h=>by unfold Tr at h⊢;exact⟨h.1,h.2.go λb o n e=>⟨k1 b o (.inl n) e,k2 b o e n⟩⟩
 |.nd hd ds,.fz,_,_,k1,k2,h=>by unfold Tr at h⊢;exact⟨h.1,h.2.go λb o n e=>⟨k1 b o (.inl n) e,k2 b o e n⟩⟩
 |.nd hd ds,.own es r,v,F,k1,k2,h=>by
  unfold Tr at h⊢;obtain⟨a,o,xs,F',e,g,q,n1,n2,hF,t⟩:=h
  have hg:H' a=P6 o:=by
   cases hm:hd.mu with
   |true=>exact k1 a o (.inr ((hF a).mpr (.inl ⟨hm,rfl⟩))) g
   |false=>exact k1 a o (.inl (n2 hm)) g
  refine⟨a,o,xs,F',e,hg,q,n1,λhm=>k2 a o g (n2 hm),hF,TrL.go (λb o h=>k1 b o (h.imp id λz=>(hF b).mpr (.inr z))) k2 t⟩
theorem TrL.go:∀{ds:List D} {es:List Ow} {r:Ow} {vs:List V} {F:Pr},(∀b o,(¬S b\/F b)->H b=P6 o->H' b=P6 o)->(∀b o,H b=P6 o->¬S b->¬S' b)->TrL K H S ds es r vs F->TrL K H' S' ds es r vs F
 |[],_,_,_,_,_,_,h=>by unfold TrL at h⊢;exact h
 |d::ds,es,r,vs,F,k1,k2,h=>by
  unfold TrL at h⊢;obtain⟨y,ys,F1,F2,e,hF,dj,h1,h2⟩:=h;exact⟨y,ys,F1,F2,e,hF,dj,Tr.go (λb o h=>k1 b o (h.imp id λz=>(hF b).mpr (.inl z))) k2 h1,TrL.go (λb o h=>k1 b o (h.imp id λz=>(hF b).mpr (.inr z))) k2 h2⟩
end
mutual
theorem Tr.rp:∀{d:D} {k:Ow} {v:V} {F:Pr},(∀b,S' b->S b/\¬F b)->Tr K H S d k v F->Rp K H S' d v
 |.non,_,_,_,k2,h=>by unfold Tr at h;exact h.2
 |.bl _,_,_,_,k2,h=>by unfold Tr at h;exact h.2
 |.int _,_,_,_,k2,h=>by unfold Tr at h;exact h.2
 |.str _,_,_,_,k2,h=>by unfold Tr at h;exact h.2
 |.scr ns,_,_,_,k2,h=>by unfold Tr at h;exact h.2.weak λb z=>(k2 b z).1
 |.nd hd ds,.fz,_,_,k2,h=>by unfold Tr at h;exact h.2.weak λb z=>(k2 b z).1
 |.nd hd ds,.own es r,v,F,k2,h=>by
  unfold Tr at h;unfold Rp;obtain⟨a,o,xs,F',e,g,q,n1,n2,hF,t⟩:=h;refine⟨a,o,xs,e,λz=>?_,g,q,TrL.rp (λb z=>⟨(k2 b z).1,λz2=>(k2 b z).2 ((hF b).mpr (.inr z2))⟩) t⟩
  cases hm:hd.mu with
  |true=>exact(k2 a z).2 ((hF a).mpr (.inl ⟨hm,rfl⟩))
  |false=>exact n2 hm (k2 a z).1
theorem TrL.rp:∀{ds:List D} {es:List Ow} {r:Ow} {vs:List V} {F:Pr},(∀b,S' b->S b/\¬F b)->TrL K H S ds es r vs F->RpL K H S' ds vs
 |[],_,_,_,_,_,h=>by unfold TrL at h;unfold RpL;exact h.1
 |d::ds,es,r,vs,F,k2,h=>by
  unfold TrL at h;obtain⟨y,ys,F1,F2,rfl,hF,dj,h1,h2⟩:=h;exact .cons (Tr.rp (λb z=>⟨(k2 b z).1,λz2=>(k2 b z).2 ((hF b).mpr (.inl z2))⟩) h1) (TrL.rp (λb z=>⟨(k2 b z).1,λz2=>(k2 b z).2 ((hF b).mpr (.inr z2))⟩) h2)
end
theorem Tr.rd(h:Tr K H S d k v F):Rp K H (λ_=>False) d v:=h.rp λb z=>z.elim
theorem Tr.fz(h:Rp K H S d v):Tr K H S d .fz v (λ_=>False):=by
 cases d<;>(unfold Tr;exact⟨λb z=>z,h⟩)
theorem Tr.fz_inv{F:Pr}(h:Tr K H S d .fz v F):(∀b,¬F b)/\Rp K H S d v:=by
 cases d<;>(unfold Tr at h;exact h)
mutual
theorem Tr.dom:∀{d:D} {k:Ow} {v:V} {F:Pr},Tr K H S d k v F->∀b,F b->∃o,H b=P6 o/\∀xs,o≠.tup xs
 |.non,_,_,_,h=>by unfold Tr at h;exact λb z=>absurd z (h.1 b)
 |.bl _,_,_,_,h=>by unfold Tr at h;exact λb z=>absurd z (h.1 b)
 |.int _,_,_,_,h=>by unfold Tr at h;exact λb z=>absurd z (h.1 b)
 |.str _,_,_,_,h=>by unfold Tr at h;exact λb z=>absurd z (h.1 b)
 |.scr ns,_,_,_,h=>by unfold Tr at h;exact λb z=>absurd z (h.1 b)
 |.nd hd ds,.fz,_,_,h=>by unfold Tr at h;exact λb z=>absurd z (h.1 b)
 |.nd hd ds,.own es r,v,F,h=>by
  unfold Tr at h;obtain⟨a,o,xs,F',e,g,q,n1,n2,hF,t⟩:=h;intro b z;rcases(hF b).mp z with⟨hm,rfl⟩|z
  ·refine⟨o,g,λys he=>?_⟩;subst he
   cases hd with
   |tup=>exact absurd hm (by simp[Hd.mu])
   |lst=>cases q
   |dic t ks=>rcases q with⟨_,_,e,_⟩|⟨_,_,_,_,e,_⟩<;>cases e
   |obj c ns=>obtain⟨_,_,_,_,e,_⟩:=q;cases e
  ·exact TrL.dom t b z
theorem TrL.dom:∀{ds:List D} {es:List Ow} {r:Ow} {vs:List V} {F:Pr},TrL K H S ds es r vs F->∀b,F b->∃o,H b=P6 o/\∀xs,o≠.tup xs
 |[],_,_,_,_,h=>by unfold TrL at h;exact λb z=>absurd z (h.2 b)
 |d::ds,es,r,vs,F,h=>by
  unfold TrL at h;obtain⟨y,ys,F1,F2,e,hF,dj,h1,h2⟩:=h;intro b z;rcases(hF b).mp z with z|z
  ·exact Tr.dom h1 b z
  ·exact TrL.dom h2 b z
end
end
end J
namespace J
open PySem PySem.Spec L2
noncomputable abbrev Gh:=Qc->Option (Option Nat)
noncomputable def Sx(g:Gh)(F:Pr):Pr:=λb=>g b≠P7\/F b
noncomputable abbrev Sg(g:Gh):Pr:=λb=>g b≠P7
inductive Kd where
 |sh|fr (k:Ow)|bo (i:Nat) (k:Ow)
noncomputable def VR1(K:Mz)(H:Hp)(g:Gh)(Ft:Pr):Kd->D->V->Pr->Prop
 |.sh,d,v,F=>(∀b,¬F b)/\Rp K H (Sx g Ft) d v
 |.fr k,d,v,F=>Tr K H (Sx g Ft) d k v F
 |.bo i k,d,v,F=>(∀b,¬F b)/\∃F0,(∀b,F0 b->g b=P6 (P6 i))/\Tr K H (Sx g Ft) d k v F0
noncomputable def VRL(K:Mz)(H:Hp)(g:Gh)(Ft:Pr):List (Kd×D)->List V->Pr->Prop
 |[],vs,F=>vs=[]/\∀b,¬F b
 |(kd,d)::r,vs,F=>∃y ys F1 F2,vs=y::ys/\(∀b,F b↔F1 b\/F2 b)/\(∀b,F1 b->¬F2 b)/\VR1 K H g Ft kd d y F1/\VRL K H g Ft r ys F2
noncomputable def VR(K:Mz)(g:Gh)(H0 H:Hp)(kd:Kd)(d:D)(v:V):Prop:=∃F:Pr,(∀b,F b->H0 b=P7)/\VR1 K H g F kd d v F
noncomputable def VRs(K:Mz)(g:Gh)(H0 H:Hp)(kds:List (Kd×D))(vs:List V):Prop:=∃F:Pr,(∀b,F b->H0 b=P7)/\VRL K H g F kds vs F
section
variable {K:Mz} {H H' H0 H1:Hp} {g:Gh} {Ft Ft' F:Pr}
theorem VR1.go(s:Same H H')(k2:∀b o,H b=P6 o->Ft' b->Ft b)(h:VR1 K H g Ft kd d v F):VR1 K H' g Ft' kd d v F:=by
 have k3:∀b o,H b=P6 o->¬Sx g Ft b->¬Sx g Ft' b:=λb o e n z=>n (z.imp id (k2 b o e))
 cases kd with
 |sh=>exact⟨h.1,h.2.go λb o n e=>⟨s b o e,k3 b o e n⟩⟩
 |fr k=>exact Tr.go (λb o _ e=>s b o e) k3 h
 |bo i k=>obtain⟨h1,F0,h2,h3⟩:=h;exact⟨h1,F0,h2,Tr.go (λb o _ e=>s b o e) k3 h3⟩
theorem VR1.dom(h:VR1 K H g Ft kd d v F):∀b,F b->∃o,H b=P6 o/\∀xs,o≠.tup xs:=by
 cases kd with
 |sh=>exact λb z=>absurd z (h.1 b)
 |fr k=>exact Tr.dom h
 |bo i k=>exact λb z=>absurd z (h.1 b)
theorem VRL.dom:∀{kds:List (Kd×D)} {vs:List V} {F:Pr},VRL K H g Ft kds vs F->∀b,F b->∃o,H b=P6 o/\∀xs,o≠.tup xs
 |[],_,_,h=>λb z=>absurd z (h.2 b)
 |(kd,d)::r,_,_,h=>by
  obtain⟨y,ys,F1,F2,e,hF,dj,h1,h2⟩:=h;intro b z;rcases(hF b).mp z with z|z
  ·exact h1.dom b z
  ·exact VRL.dom h2 b z
theorem VR.same(s:Same H H')(h:VR K g H0 H kd d v):VR K g H0 H' kd d v:=
 let ⟨F,h1,h2⟩:=h;⟨F,h1,h2.go s λ_ _ _ z=>z⟩
theorem VR.older(s:Same H0 H1)(h:VR K g H1 H kd d v):VR K g H0 H kd d v:=
 let ⟨F,h1,h2⟩:=h;⟨F,λb z=>s.free (h1 b z),h2⟩
theorem VR1.rd(h:VR1 K H g Ft kd d v F):Rp K H (λ_=>False) d v:=by
 cases kd with
 |sh=>exact h.2.weak λb z=>z.elim
 |fr k=>exact Tr.rd h
 |bo i k=>obtain⟨_,F0,_,h3⟩:=h;exact h3.rd
theorem VR.rd(h:VR K g H0 H kd d v):Rp K H (λ_=>False) d v:=let ⟨F,h1,h2⟩:=h;h2.rd
theorem VRL.rd:∀{kds:List (Kd×D)} {vs:List V} {F:Pr},VRL K H g Ft kds vs F->RpL K H (λ_=>False) (kds.map (·.2)) vs
 |[],_,_,h=>by rw[h.1];exact .nil
 |(kd,d)::r,_,_,h=>by
  obtain⟨y,ys,F1,F2,rfl,hF,dj,h1,h2⟩:=h;exact .cons h1.rd (VRL.rd h2)
noncomputable def i0:Kd->D->Bool
 |.bo _ _,d=>qj d
 |_,_=>P8
theorem MuOk.same(m:MuOk H S)(s:Same H H'):MuOk H' S:=λa z=>let ⟨o,e,n⟩:=m a z;⟨o,s a o e,n⟩
theorem VR1.sh{S:Pr}(ok:i0 kd d=P8)(m:MuOk H S)(hS:∀b,S b->(g b≠P7\/Ft b)/\¬F b)(h:VR1 K H g Ft kd d v F):Rp K H S d v:=by
 cases kd with
 |sh=>exact h.2.weak λb z=>(hS b z).1
 |fr k=>exact Tr.rp (λb z=>⟨(hS b z).1,(hS b z).2⟩) h
 |bo i k=>obtain⟨_,F0,h2,h3⟩:=h;exact h3.rd.im m ok
theorem VR.sh(ok:i0 kd d=P8)(m:MuOk H0 (Sg g))(s:Same H0 H)(h:VR K g H0 H kd d v):Rp K H (Sg g) d v:=by
 obtain⟨F,h1,h2⟩:=h;refine h2.sh ok (m.same s) λb z=>⟨.inl z,λz2=>?_⟩;obtain⟨o,e,_⟩:=m b z;rw[h1 b z2] at e;cases e
theorem VRL.sh{S:Pr}(m:MuOk H S):∀{kds:List (Kd×D)} {vs:List V} {F:Pr},(kds.all λp=>i0 p.1 p.2)=P8->(∀b,S b->(g b≠P7\/Ft b)/\¬F b)->VRL K H g Ft kds vs F->RpL K H S (kds.map (·.2)) vs
 |[],_,_,_,_,h=>by rw[h.1];exact .nil
 |(kd,d)::r,_,F,ok,hS,h=>by
  obtain⟨y,ys,F1,F2,rfl,hF,dj,h1,h2⟩:=h;rw[Nu,MA] at ok;exact .cons (h1.sh ok.1 m λb z=>⟨(hS b z).1,λz2=>(hS b z).2 ((hF b).mpr (.inl z2))⟩) (VRL.sh m ok.2 (λb z=>⟨(hS b z).1,λz2=>(hS b z).2 ((hF b).mpr (.inr z2))⟩) h2)
theorem VRs.sh{kds:List (Kd×D)}(ok:(kds.all λp=>i0 p.1 p.2)=P8)(m:MuOk H0 (Sg g))(s:Same H0 H)(h:VRs K g H0 H kds vs):RpL K H (Sg g) (kds.map (·.2)) vs:=by
 obtain⟨F,h1,h2⟩:=h;refine h2.sh (m.same s) ok λb z=>⟨.inl z,λz2=>?_⟩;obtain⟨o,e,_⟩:=m b z;rw[h1 b z2] at e;cases e
theorem VRs.rd{kds:List (Kd×D)}(h:VRs K g H0 H kds vs):RpL K H (λ_=>False) (kds.map (·.2)) vs:=let ⟨F,h1,h2⟩:=h;h2.rd
theorem VRs.nil:VRs K g H0 H [] []:=⟨λ_=>False,λb z=>z.elim,rfl,λb z=>z⟩
open Classical in
noncomputable def Gh.plus(g:Gh)(F:Pr):Gh:=λb=>if F b then P6 P7 else g b
theorem am(b:Qc):Sg (g.plus F) b↔Sg g b\/F b:=by
 unfold Gh.plus Sg;by_cases h:F b
 ·simp[h]
 ·simp[h]
theorem bA{i:Nat}(h:g.plus F b=P6 (P6 i)):g b=P6 (P6 i):=by
 unfold Gh.plus at h;split at h
 ·cases h
 ·exact h
theorem bX{i:Nat}(h:g b=P6 (P6 i))(n:¬F b):g.plus F b=P6 (P6 i):=by
 unfold Gh.plus;rw[if_neg n];exact h
theorem VR1.unplus{F1:Pr}(h:VR1 K H (g.plus F1) Ft kd d v F):VR1 K H g (λb=>F1 b\/Ft b) kd d v F:=by
 have k3:∀b o,H b=P6 o->¬Sx (g.plus F1) Ft b->¬Sx g (λb=>F1 b\/Ft b) b:=λb o e n z=>n (z.elim (λz=>.inl ((am b).mpr (.inl z))) λz=>z.elim (λz=>.inl ((am b).mpr (.inr z))) .inr)
 cases kd with
 |sh=>exact⟨h.1,h.2.go λb o n e=>⟨e,k3 b o e n⟩⟩
 |fr k=>exact Tr.go (λb o _ e=>e) k3 h
 |bo i k=>obtain⟨h1,F0,h2,h3⟩:=h;exact⟨h1,F0,λb z=>bA (h2 b z),Tr.go (λb o _ e=>e) k3 h3⟩
theorem VRL.unplus{F1:Pr}:∀{kds:List (Kd×D)} {vs:List V} {F:Pr},VRL K H (g.plus F1) Ft kds vs F->VRL K H g (λb=>F1 b\/Ft b) kds vs F
 |[],_,_,h=>h
 |(kd,d)::r,_,_,h=>by
  obtain⟨y,ys,F1,F2,e,hF,dj,h1,h2⟩:=h;exact⟨y,ys,F1,F2,e,hF,dj,h1.unplus,VRL.unplus h2⟩
theorem VRs.cons{kd:Kd}{d:D}{v:V}{kds:List (Kd×D)}{vs:List V}{F1:Pr}(s:Same H0 H)(s1:Same H H')(a1:∀b,F1 b->H0 b=P7)(a2:VR1 K H g F1 kd d v F1)(h2:VRs K (g.plus F1) H H' kds vs):VRs K g H0 H' ((kd,d)::kds) (v::vs):=by
 obtain⟨F2,b1,b2⟩:=h2;have dd:=a2.dom;refine⟨λb=>F1 b\/F2 b,λb z=>z.elim (a1 b) λz=>s.free (b1 b z),v,vs,F1,F2,rfl,λb=>Iff.rfl,λb z1 z2=>?_,a2.go s1 λb o e z=>z.elim id λz=>?_,b2.unplus⟩
 ·obtain⟨o,e,_⟩:=dd b z1;rw[b1 b z2] at e;cases e
 ·rw[b1 b z] at e;cases e
theorem VRs.one(h:VRs K g H0 H [(kd,d)] vs):∃v,vs=[v]/\VR K g H0 H kd d v:=by
 obtain⟨F,h1,y,ys,F1,F2,rfl,hF,dj,h3,h4,h5⟩:=h;subst h4;have e:∀b,F b->F1 b:=λb z=>((hF b).mp z).elim id λz=>absurd z (h5 b);exact⟨y,rfl,F1,λb z=>h1 b ((hF b).mpr (.inl z)),h3.go (λ_ _ h=>h) λb _ _ z=>(hF b).mpr (.inl z)⟩
end
structure Sl where
 lk:Bool
 k:Ow
 d:D
noncomputable abbrev Ro:=List (Option Sl)
noncomputable def qk:Ow->Bool
 |.fz=>P8
 |_=>Qb
noncomputable def og(i:Nat)(s:Sl):Kd×D:=(if qk s.k then .sh else .bo i s.k,s.d)
structure SE(K:Mz)(g:Gh)(Z:Ro)(Y:St)(H:Hp):Prop where
 slot:∀(i:Nat) (s:Sl),Z[i]?=P6 (P6 s)->∃v F,Y[i]?=P6 (P6 v)/\(∀b,F b->g b=P6 (P6 i))/\Tr K H (Sg g) s.d s.k v F
 mu:MuOk H (Sg g)
 len:Z.length=Y.length
section
variable {K:Mz} {H H' H0 H1:Hp} {g g':Gh} {Z:Ro} {Y:St}
theorem SE.same(h:SE K g Z Y H)(s:Same H H'):SE K g Z Y H':=
 ⟨λi sl e=>let ⟨v,F,e1,e2,e3⟩:=h.slot i sl e;⟨v,F,e1,e2,e3.go (λb o _ e=>s b o e) λb o _ n=>n⟩,h.mu.same s,h.len⟩
theorem jx(h:qk k=P8):k=.fz:=by cases k with|fz=>rfl|own es r=>cases h
theorem SE.get(h:SE K g Z Y H){i:Nat}{s:Sl}(e:Z[i]?=P6 (P6 s)):∃v,Y[i]?=P6 (P6 v)/\VR K g H H (og i s).1 (og i s).2 v:=by
 obtain⟨v,F,e1,e2,e3⟩:=h.slot i s e;refine⟨v,e1,λ_=>False,λb z=>z.elim,?_⟩;have t:Tr K H (Sx g λ_=>False) s.d s.k v F:=e3.go (λ_ _ _ h=>h) λb o _ n z=>n (z.elim id λz=>z.elim);unfold og
 cases hk:qk s.k with
 |true=>
  rw[jx hk] at t;exact⟨λb z=>z,t.fz_inv.2⟩
 |false=>exact⟨λb z=>z,F,e2,t⟩
theorem SE.plus{F:Pr}(h:SE K g Z Y H)(s:Same H H')(hF:∀b,F b->H b=P7)(dd:∀b,F b->∃o,H' b=P6 o/\∀xs,o≠.tup xs):SE K (g.plus F) Z Y H':=by
 refine⟨λi sl e=>?_,λb z=>?_,h.len⟩
 ·obtain⟨v,F0,e1,e2,e3⟩:=h.slot i sl e;refine⟨v,F0,e1,λb z=>bX (e2 b z) λz2=>?_,e3.go (λb o _ e=>s b o e) λb o e n z=>?_⟩
  ·obtain⟨o,q,_⟩:=e3.dom b z;rw[hF b z2] at q;cases q
  ·rcases(am b).mp z with z|z
   ·exact n z
   ·rw[hF b z] at e;cases e
 ·rcases(am b).mp z with z|z
  ·exact h.mu.same s b z
  ·exact dd b z
end
section
variable (X:Cx)
noncomputable def wE(e:P9):TE:=λY H Q=>∀pins s,Inv X pins Y H s->Qf (Qg X.prog X.w) X.A (eval e X.env) (EP X pins Y Q) X.xe s
noncomputable def wT(e:P9):TT:=λY H Q=>∀pins s,Inv X pins Y H s->Qf (Qg X.prog X.w) X.A (isTrue e X.env (eval e X.env)) (TP X pins Y Q) X.xe s
noncomputable def wW(e:P9):TT:=λY H Q=>∀whole pins s,Inv X pins Y H s->Qf (Qg X.prog X.w) X.A (isTrue e X.env whole) (TP X pins Y Q) X.xe s
noncomputable def wA(es:List P9):TA:=λY H Q=>∀pos pins s,Inv X pins Y H s->Qf (Qg X.prog X.w) X.A (spliced (backTo pos (Qm es X.env))) (AP X pins Y Q) X.xe s
noncomputable def wG(tg:P9):TG:=λv Y H Q=>∀pins s u,Inv X pins Y H s->RelV v u->Qf (Qg X.prog X.w) X.A (assign tg X.env u) (λ_ s'=>∃Y' H',Inv X pins Y' H' s'/\Q Y' H') X.xe s
noncomputable def wI(tg iter:P9):TI:=λY H R=>∀pins s,Inv X pins Y H s->Qf (Qg X.prog X.w) X.A (eval iter X.env) (λv s1=>Qf (Qg X.prog X.w) X.A (pyIter v) (JE X pins Y tg R) X.xe s1) X.xe s
end
section
variable {X:Cx}
theorem av:PE X e (wE X e):=λpins s Y H Q I h=>h pins s I
theorem gG:PT X e (wT X e):=λpins s Y H Q I h=>h pins s I
theorem zl:PW X e (wW X e):=λwh pins s Y H Q I h=>h wh pins s I
theorem cH:PA X es (wA X es):=λpos pins s Y H Q I h=>h pos pins s I
theorem uJ:PI X tg iter (wI X tg iter):=λpins s Y H R I h=>h pins s I
theorem uK:PG X tg (wG X tg):=λpins s Y H v u Q I r h=>h pins s u I r
theorem au{t:TE}(p:PE X e t){Y:St}{H:Hp}{Q:VK}(h:t Y H Q):wE X e Y H Q:=λpins s I=>p pins s Y H Q I h
theorem r9{t:TT}(p:PT X e t){Y:St}{H:Hp}{Q:Bool->Hp->Prop}(h:t Y H Q):wT X e Y H Q:=λpins s I=>p pins s Y H Q I h
theorem lD{t:TT}(p:PW X e t){Y:St}{H:Hp}{Q:Bool->Hp->Prop}(h:t Y H Q):wW X e Y H Q:=λwh pins s I=>p wh pins s Y H Q I h
theorem jW{t:TA}(p:PA X es t){Y:St}{H:Hp}{Q:List V->Hp->Prop}(h:t Y H Q):wA X es Y H Q:=λpos pins s I=>p pos pins s Y H Q I h
theorem gH{t:TI}(p:PI X tg iter t){Y:St}{H:Hp}{R:It->Hp->Prop}(h:t Y H R):wI X tg iter Y H R:=λpins s I=>p pins s Y H R I h
theorem sd{t:TG}(p:PG X tg t){v:V}{Y:St}{H:Hp}{Q:St->Hp->Prop}(h:t v Y H Q):wG X tg v Y H Q:=λpins s u I r=>p pins s Y H v u Q I r h
end
noncomputable def SndE(X:Cx)(f:Ro->Option (Kd×D))(e:P9):Prop:=∀Z kd d,f Z=P6 (kd,d)->∀g Y H Q,SE X.K g Z Y H->(∀v H',Same H H'->VR X.K g H H' kd d v->Q v H')->wE X e Y H Q
noncomputable def SndT(X:Cx)(f:Ro->Option Bool)(e:P9):Prop:=∀Z b,f Z=P6 b->∀g Y H Q,SE X.K g Z Y H->(∀H',Same H H'->Q b H')->wT X e Y H Q
noncomputable def jX(X:Cx)(f:Ro->Option (List (Kd×D)))(es:List P9):Prop:=∀Z kds,f Z=P6 kds->∀g Y H Q,SE X.K g Z Y H->(∀vs H',Same H H'->VRs X.K g H H' kds vs->Q vs H')->wA X es Y H Q
end J
namespace G
open PySem PySem.Spec L2 PyProof.Rows
section
variable {X:Cx}
end
end G
namespace G
open PySem PySem.Spec PyProof.Rows L2
noncomputable def JU(x:Str):It:=⟨λi _=>i<x.cps.size,λi H v H'=>H'=H/\∃c,x.cps[i]?=P6 c/\v=.str ⟨#[c]⟩,λi _=>x.cps.size<=i⟩
theorem oh{P:Qi}{w:Qj}{K:Mz}{tg:P9}(it:Qc)(x:Str)(t:Tok)(ty:String)
  (hn:["enumerate","zip","dict_itemiterator","dict_reverseitemiterator","odict_iterator","itertools.zip_longest","itertools.pairwise"].contains ty=Qb)
  (W:∀Bqq:Qk,Bqq.handled=P7->Walks P w Bqq it [it] [it] x.cps.size (SignAt x) (λi h=>h.IsStrIter it ty x t i))
  (hend:∀(Bqq:Qk) (s:Qd) (Q:Option Qa->Qd->Prop) (E:Qa->Qd->Prop) (i:Nat),Bqq.handled=P7->s.heap.IsStrIter it ty x t i->x.cps[i]?=P7->(∀h',Heap.ExtBut it s.heap h'->Q P7 { s with heap:=h' })->Qf (Qg P w) Bqq (pyNext (.ref it)) Q E s)
  (hself:∀(Bqq:Qk) (i:Nat) (s:Qd) (Q:Qa->Qd->Prop) (E:Qa->Qd->Prop),s.heap.IsStrIter it ty x t i->Q (.ref it) s->Qf (Qg P w) Bqq (pyIter (.ref it)) Q E s) :
  nP P w K tg (JU x) [it] it (λi h=>h.IsStrIter it ty x t i) where
 mem:=by simp
 obj:=λi h st b hb=>by
  have e:b=it:=by simpa using hb
  subst e;obtain⟨o,e,c,d⟩:=st;exact⟨o,e,λv z=>by rw[d] at z;cases z⟩
 keep:=λi h h' st k=>let ⟨o,ho,r⟩:=st;⟨o,k it (by simp) o ho,r⟩
 item:=by
  intro X hP hw hK hc i pins s Y H E I hf st hg;subst hP hw hK;obtain⟨f0,f1,f2,f3,f4,f5⟩:=hf it (by simp);refine(W X.A (I.ok.hd hc)).item i s _ _ hg st λv h' tk hv st' kk=>?_;obtain⟨z,u,hz,rfl⟩:=hv;have I1:Inv X pins Y H { s with heap:=h',toks:=tk }:=I.turned (λb o hb e=>kk b o (by simpa using hb) e) f0 f1 f3 f4 f5;obtain⟨o,e,c,d⟩:=id st';exact⟨_,rfl,nQ (s:={ s with heap:=h',toks:=tk }) e c d hn ⟨.str ⟨#[z]⟩,H,I1,⟨u,rfl⟩,⟨rfl,z,hz,rfl⟩,st',λb hb=>(hf b hb).1⟩⟩
 done:=by
  intro X hP hw hK hc i pins s Y H E I hf st hg;subst hP hw hK;obtain⟨f0,f1,f2,f3,f4,f5⟩:=hf it (by simp);exact hend X.A s _ _ i (I.ok.hd hc) st (Array.getElem?_eq_none hg) λh' eb=>⟨rfl,I.turned (t':=s.toks) (λb o hb e=>eb b o hb e) f0 f1 f3 f4 f5⟩
 self:=hself
section
variable {X:Cx} {tg:P9}
noncomputable def JV(tl:TE):TI:=λY H R=>tl Y H λv H1=>∃x,v=.str x/\R (JU x) H1
theorem Da(hl:PE X l tl):PI X tg l (JV tl):=by
 intro pins s Y H R I h;refine aV (hl pins s Y H _ I h) λv s1 ⟨x',H1,I1,r1,q1⟩=>?_;obtain⟨x,rfl,q⟩:=q1;obtain⟨t,rfl⟩:=r1
 have fp:∀b∈[s1.heap.objs.size],gw X pins H1 b:=λb hb=>by
  have e:b=s1.heap.objs.size:=by simpa using hb
  subst e;exact I1.fpOk (MH _) (I1.hok.fresh (MH _))
 cases ha:x.cps.all (·<128) with
 |true=>
  refine wpAny_pyIter_ascii ha ⟨s1.heap.objs.size,[s1.heap.objs.size],_,_,H1,rfl,I1.kept (t':=s1.toks) λb o e=>MC _ e,oh _ x t "str_ascii_iterator" (by decide) (λBqq hBq=>Walks.strAscii hBq _ x t) (λBqq s Q E i hBq st hx hQ=>wpAny_pyNext_ascii_end hBq st hx hQ) (λBqq i s Q E st hQ=>wpAny_pyIter_striter_ascii st hQ),⟨_,MP _ rfl,rfl,rfl⟩,fp,q⟩
 |false=>
  refine wpAny_pyIter_wide ha ⟨s1.heap.objs.size,[s1.heap.objs.size],_,_,H1,rfl,I1.kept (t':=s1.toks) λb o e=>MC _ e,oh _ x t "str_iterator" (by decide) (λBqq hBq=>Walks.strWide hBq _ x t) (λBqq s Q E i hBq st hx hQ=>wpAny_pyNext_wide_end hBq st hx hQ) (λBqq i s Q E st hQ=>wpAny_pyIter_striter_wide st hQ),⟨_,MP _ rfl,rfl,rfl⟩,fp,q⟩
noncomputable def om(x:Str)(n:Nat):Str:=⟨(Nh n x.cps).foldl (·++·) #[]⟩
theorem jY:∀(n:Nat) (a:Array Nat),(Nh n #[]).foldl (·++·) a=a
 |0,a=>rfl
 |n+1,a=>by rw[Ob,Pa,Array.append_empty];exact jY n a
theorem zm:jh X (binaryOp .Mult) (λx y H Q=>∃i n,x=.str i/\y=.int n/\n<=100000/\0<=n/\i.length<=100/\Q (.str (om i n.toNat)) H):=by
 intro pins s Y H x y v u Q I rx ry h;obtain⟨i,n,rfl,rfl,h1,h0,h2,q⟩:=h;obtain⟨t,rfl⟩:=rx;obtain⟨t',rfl⟩:=ry;have hle:i.length*n.toNat<=100*100000:=Nat.mul_le_mul h2 (by lia);refine P.mul_str (by rw[decide_eq_false (by lia),decide_eq_false (by lia)];rfl) (λhn _=>?_) (λ_ _=>?_) ?_
 ·have:((2^63-1:Int)) / n ≥ 100:=by
   rw[ge_iff_le,Int.le_ediv_iff_mul_le (by lia)];lia
  intro hb;have hb':(i.length:Int) > (2^63-1:Int) / n:=hb;generalize (2^63-1:Int) / n=z at this hb'
  lia
 ·unfold Builtin.Str.tooLong;rw[decide_eq_false];rw[sizeLine_eq]
  lia
 ·split
  ·rename_i hn;have e:n.toNat=0:=by lia
   rw[e] at q;exact⟨by decide,.str _,H,I.tok _,⟨_,rfl⟩,q⟩
  ·split
   ·rename_i hn hx
    have e:om i n.toNat=i:=by
     simp only[NS,beq_iff_eq] at hx;rcases hx with rfl|hx
     ·show(⟨#[]++i.cps⟩:Str)=i;rw[Array.empty_append]
     ·have:i.cps=#[]:=Array.eq_empty_of_size_eq_zero hx;unfold om;rw[this,jY];obtain⟨c⟩:=i;simp only at this;rw[this]
    rw[e] at q;exact⟨.str i,H,I,⟨_,rfl⟩,q⟩
   ·refine⟨fits_reps ?_,.str _,H,I.tok _,⟨_,rfl⟩,q⟩;unfold Builtin.Str.tooLong;rw[decide_eq_false];rw[sizeLine_eq]
    lia
end
section
variable {prog:Qi} {w:Qj} {A:Qk} {R:Result->Qd->Prop} {J:Qc} {fp wr:List Qc} {GG:Array GenState->Array GenState->Prop} {n:Nat} {P:Nat->Qa->Prop} {St:Nat->Qd->Prop}
end
section
variable {prog:Qi} {w:Qj} {A:Qk} {E:Qa->Qd->Prop} {s:Qd}
end
section
variable {X:Cx}
end
end G
set_option exponentiation.threshold 5000
namespace J
open PySem PySem.Spec L2
mutual
noncomputable def py:D->PyData
 |.non=>.none
 |.bl b=>.bool b
 |.int i=>.int i
 |.str x=>.str x
 |.scr ns=>.list (ns.map .int)
 |.nd .lst ds=>.list (lE ds)
 |.nd .tup ds=>.tuple (lE ds)
 |.nd (.dic _ _) _=>.dict []
 |.nd (.obj _ _) _=>.none
noncomputable def lE:List D->List PyData
 |[]=>[]
 |d::ds=>py d::lE ds
end
mutual
noncomputable def gh:Nat->D->Bool
 |_,.non=>P8
 |_,.bl _=>P8
 |_,.int _=>P8
 |_,.str x=>PyData.strOk x
 |n,.scr _=>decide (1<=n)
 |n,.nd .lst ds=>decide (1<=n)&&kZ (n-1) ds
 |n,.nd .tup ds=>decide (1<=n)&&kZ (n-1) ds
 |_,.nd (.dic _ _) _=>Qb
 |_,.nd (.obj _ _) _=>Qb
noncomputable def kZ:Nat->List D->Bool
 |_,[]=>P8
 |n,d::ds=>gh n d&&kZ n ds
end
section
variable {X:Cx} {pins:List (Qc×Obj)} {Y:L2.St} {H:Hp} {s:Qd} {S:Pr}
theorem fI:∀{ns:List Int} {us:List Qa},Vals (ns.map V.int) us->∃as,ReadsAll h us (ns.map .int) as
 |[],_,.nil=>⟨_,.nil⟩
 |n::ns,_,.cons r t=>by
  obtain⟨t',e⟩:=(show ∃t,_=Value.int n t from r);subst e;obtain⟨as,q⟩:=fI t;exact⟨_,.cons (.int n t') q⟩
theorem jy:∀ns:List Int,PyData.canLayAll0 (ns.map .int)=P8/\PyData.depthAll (ns.map .int)=0
 |[]=>by simp[PyData.canLayAll0,PyData.depthAll]
 |n::ns=>by
  have:=jy ns;simp[PyData.canLayAll0,PyData.depthAll,PyData.canLay0,PyData.depth,this]
mutual
theorem c6(I:Inv X pins Y H s):∀{d:D} {n:Nat} {v:V} {u:Qa},gh n d=P8->Rp X.K H S d v->RelV v u->(∃as,Reads s.heap u (py d) as)/\(py d).canLay0=P8/\(py d).depth<=n
 |.non,n,v,u,_,r,e=>by unfold Rp at r;subst r;cases e;simp only[py];exact⟨⟨_,.none⟩,by simp[PyData.canLay0],by simp[PyData.depth]⟩
 |.bl b,n,v,u,_,r,e=>by unfold Rp at r;subst r;cases e;simp only[py];exact⟨⟨_,.bool b⟩,by simp[PyData.canLay0],by simp[PyData.depth]⟩
 |.int i,n,v,u,_,r,e=>by unfold Rp at r;subst r;obtain⟨t,rfl⟩:=e;simp only[py];exact⟨⟨_,.int i t⟩,by simp[PyData.canLay0],by simp[PyData.depth]⟩
 |.str x,n,v,u,h,r,e=>by unfold Rp at r;subst r;obtain⟨t,rfl⟩:=e;simp only[py];exact⟨⟨_,.str x t⟩,by simpa[PyData.canLay0,gh] using h,by simp[PyData.depth]⟩
 |.scr ns,n,v,u,h,r,e=>by
  unfold Rp at r;obtain⟨a,rfl,r⟩:=r;cases e;have q:SqL X.K H a (ns.map V.int):=r.elim (λr=>.inl r.2) .inr;obtain⟨its,vs,⟨o,m,g1,g2,g3,g4⟩,z⟩:=I.list q;obtain⟨as,ra⟩:=fI (h:=s.heap) vs;simp only[py];have hn:1<=n:=by simpa[gh] using h
  exact⟨⟨_,.list g1 g2 g4 (by simpa using ra)⟩,by simpa[PyData.canLay0] using(jy ns).1,by simp[PyData.depth,(jy ns).2,hn]⟩
 |.nd .lst ds,n,v,u,h,r,e=>by
  unfold Rp at r;obtain⟨a,o,xs,rfl,na,g,q,rl⟩:=r;cases e;have q:o=.lst xs:=q;subst q;obtain⟨its,vs,⟨o,m,g1,g2,g3,g4⟩,z⟩:=I.list (SqL.of g);simp only[gh,MA,decide_eq_true_eq] at h;obtain⟨⟨as,ra⟩,l1,l2⟩:=iu I h.2 rl vs;simp only[py];exact⟨⟨_,.list g1 g2 g4 (by simpa using ra)⟩,by simpa[PyData.canLay0] using l1,by simp only[PyData.depth];lia⟩
 |.nd .tup ds,n,v,u,h,r,e=>by
  unfold Rp at r;obtain⟨a,o,xs,rfl,na,g,q,rl⟩:=r;cases e;have q:o=.tup xs:=q;subst q;obtain⟨its,vs,⟨o,g1,g2,m,g4⟩,z⟩:=I.tuple (SqT.of g);simp only[gh,MA,decide_eq_true_eq] at h;obtain⟨⟨as,ra⟩,l1,l2⟩:=iu I h.2 rl vs;simp only[py];exact⟨⟨_,.tuple g1 g2 g4 (by simpa using ra)⟩,by simpa[PyData.canLay0] using l1,by simp only[PyData.depth];lia⟩
 |.nd (.dic _ _) _,n,v,u,h,r,e=>by simp[gh] at h
 |.nd (.obj _ _) _,n,v,u,h,r,e=>by simp[gh] at h
theorem iu(I:Inv X pins Y H s):∀{ds:List D} {n:Nat} {xs:List V} {us:List Qa},kZ n ds=P8->RpL X.K H S ds xs->Vals xs us->(∃as,ReadsAll s.heap us (lE ds) as)/\PyData.canLayAll0 (lE ds)=P8/\PyData.depthAll (lE ds)<=n
 |[],n,xs,us,_,r,e=>by rw[r.nil_inv] at e;cases e;simp only[lE];exact⟨⟨_,.nil⟩,by simp[PyData.canLayAll0],by simp[PyData.depthAll]⟩
 |d::ds,n,xs,us,h,r,e=>by
  obtain⟨y,ys,rfl,r1,r2⟩:=r.cons_inv;simp only[kZ,MA] at h
  cases e with
  |cons e1 e2=>
   obtain⟨⟨as,ra⟩,l1,l2⟩:=c6 I h.1 r1 e1;obtain⟨⟨bs,rb⟩,m1,m2⟩:=iu I h.2 r2 e2;simp only[lE];exact⟨⟨_,.cons ra rb⟩,by simp[PyData.canLayAll0,l1,m1],by simp only[PyData.depthAll];lia⟩
end
end
noncomputable def vt(x y:D):Bool:=PyData.eqv (py x) (py y)
noncomputable def lim:Nat:=2^4000
noncomputable abbrev bj:Ow:=.own [] .fz
noncomputable def lF:Ow->Bool
 |.fz=>P8
 |.own es r=>es.all qk&&qk r
noncomputable def i3:Kd->List D->Bool
 |.bo _ k,ds=>lF k||zk ds
 |_,_=>P8
noncomputable abbrev KD:=Kd×D
noncomputable def oo:Qv->Int->Int->Option Int
 |.Add,i,j=>P6 (i+j)
 |.Sub,i,j=>P6 (i-j)
 |.Mult,i,j=>if i.natAbs<lim/\j.natAbs<lim then P6 (i*j) else P7
 |.FloorDiv,i,j=>if 0<j/\j.natAbs<lim then P6 (i / j) else P7
 |.Mod,i,j=>if 0<j then P6 (i%j) else P7
 |.LShift,i,j=>if 0<=j/\j<=1000000/\i.natAbs<lim then P6 (i*2^j.toNat) else P7
 |.Pow,i,j=>if 0<=j/\j<=1000000/\i.natAbs<2^64 then P6 (i^j.toNat) else P7
 |.RShift,i,j=>if 0<=j then P6 (i / 2^j.toNat) else P7
 |.BitAnd,i,j=>P6 (Builtin.bitAnd i j)
 |.BitOr,i,j=>P6 (Builtin.bitOr i j)
 |.BitXor,i,j=>P6 (Builtin.bitXor i j)
 |_,_,_=>P7
noncomputable def GA(op:Qv)(k:Kd)(xs:List D)(y:KD):Option KD:=match op with
 |.Add=>(match y.2 with
  |.nd hd ys=>(match hd with
   |.lst=>if i3 k xs=P8/\i3 y.1 ys=P8/\xs.length+ys.length<=100000 then P6 (.fr bj,.lst (xs++ys)) else P7
   |_=>P7)
  |_=>P7)
 |_=>P7
noncomputable def GB(op:Qv)(i:Str)(y:D):Option KD:=match op with
 |.Add=>(match y with|.str j=>if i.length+j.length<=100000 then P6 (.sh,.str (i++j)) else P7|_=>P7)
 |.Mult=>(match y with|.int n=>if n<=100000/\0<=n/\i.length<=100 then P6 (.sh,.str (G.om i n.toNat)) else P7|_=>P7)
 |_=>P7
noncomputable def eJ(op:Qv)(x y:KD):Option KD:=match x.2 with
 |.int i=>(match y.2 with|.int j=>(match oo op i j with|some z=>P6 (.sh,.int z)|none=>P7)|_=>P7)
 |.nd hd xs=>(match hd with|.lst=>GA op x.1 xs y|_=>P7)
 |.str i=>GB op i y.2
 |_=>P7
theorem gI{i j z:Int}(h:oo op i j=P6 z):eJ op (k,.int i) (k',.int j)=P6 (.sh,.int z):=by
 show(match oo op i j with|some z=>P6 (Kd.sh,D.int z)|none=>P7)=_
 rw[h]
theorem wn{p:Prop}[Decidable p]{α:Type}{a b:α}(h:(if p then P6 a else P7)=P6 b):p/\b=a:=by
 by_cases hp:p
 ·rw[if_pos hp] at h;cases h;exact⟨hp,rfl⟩
 ·rw[if_neg hp] at h;cases h
theorem aF{n:Nat}(h:n<=100000):n<=sizeLine:=M0 h (by decide)
section
variable {K:Mz} {H H' H0:Hp} {S:Pr} {g:Gh}
theorem Rp.int{i:Int}(h:Rp K H S (.int i) v):v=.int i:=by unfold Rp at h;exact h
theorem Rp.bl{i:Bool}(h:Rp K H S (.bl i) v):v=.bl i:=by unfold Rp at h;exact h
theorem Rp.str{i:Str}(h:Rp K H S (.str i) v):v=.str i:=by unfold Rp at h;exact h
theorem Rp.non(h:Rp K H S .non v):v=.non:=by unfold Rp at h;exact h
theorem Rp.nd(h:Rp K H S (.nd hd ds) v):∃a o xs,v=.ref a/\¬S a/\H a=P6 o/\du K o hd xs/\RpL K H S ds xs:=by unfold Rp at h;exact h
theorem Rp.scr{ns:List Int}(h:Rp K H S (.scr ns) v):∃a,v=.ref a/\SqL K H a (ns.map V.int):=by
 unfold Rp at h;obtain⟨a,e,h⟩:=h;exact⟨a,e,h.elim (λh=>.inl h.2) .inr⟩
theorem jZ{i:Int}:VR K g H0 H .sh (.int i) (.int i):=⟨λ_=>False,λ_ z=>z.elim,λ_ z=>z,by unfold Rp;rfl⟩
theorem Bq{i:Bool}:VR K g H0 H .sh (.bl i) (.bl i):=⟨λ_=>False,λ_ z=>z.elim,λ_ z=>z,by unfold Rp;rfl⟩
theorem zn{i:Str}:VR K g H0 H .sh (.str i) (.str i):=⟨λ_=>False,λ_ z=>z.elim,λ_ z=>z,by unfold Rp;rfl⟩
theorem Db:VR K g H0 H .sh .non .non:=⟨λ_=>False,λ_ z=>z.elim,λ_ z=>z,by unfold Rp;rfl⟩
theorem GD(h:Rp K H (Sg g) d v):VR K g H0 H .sh d v:=⟨λ_=>False,λ_ z=>z.elim,λ_ z=>z,h.weak λb z=>z.elim id λz=>z.elim⟩
theorem ak(hp:H p=P7):Same H (upd H p o):=λb u q=>by rw[ad (aB q hp)];exact q
theorem TrL.ofFz:∀{ds:List D} {xs:List V},RpL K H S ds xs->TrL K H S ds [] .fz xs λ_=>False
 |[],_,h=>by unfold TrL;exact⟨h.nil_inv,λ_ z=>z⟩
 |d::ds,_,h=>by
  obtain⟨y,ys,rfl,r,t⟩:=h.cons_inv;unfold TrL;exact⟨y,ys,_,_,rfl,λb=>⟨.inl,λz=>z.elim id id⟩,λ_ z=>z.elim,Tr.fz r,TrL.ofFz t⟩
theorem ql(hp:H p=P7)(r:RpL K H (Sg g) ds xs):VR K g H (upd H p (.lst xs)) (.fr bj) (.lst ds) (.ref p):=by
 refine⟨λb=>b=p,λb z=>z▸hp,?_⟩;show Tr K _ _ _ _ _ _;unfold Tr
 refine⟨p,_,xs,λ_=>False,rfl,ai,rfl,λ_ z=>z,(λh=>nomatch h),λb=>⟨λz=>.inl ⟨rfl,z⟩,λz=>z.elim (λz=>z.2) λz=>z.elim⟩,.ofFz (r.go λb o n e=>⟨ak hp b o e,λz=>z.elim n λz=>?_⟩)⟩
 subst z;rw[hp] at e;cases e
theorem GE(m:MuOk H (Sg g))(hp:H p=P7)(r:RpL K H (Sg g) ds xs):VR K g H (upd H p (.tup xs)) .sh (.tup ds) (.ref p):=by
 refine GD ?_;unfold Rp;refine⟨p,_,xs,rfl,λz=>?_,ai,rfl,r.same (ak hp)⟩;obtain⟨o,e,_⟩:=m p z;rw[hp] at e;cases e
theorem sg{es:List Ow}(h:lF (.own es r)=P8):(∀e∈es,e=.fz)/\r=.fz:=by
 simp only[lF,MA,NW] at h;exact⟨λe he=>jx (h.1 e he),jx h.2⟩
theorem TrL.flat:∀{ds:List D} {es:List Ow} {xs:List V} {F:Pr},(∀e∈es,e=.fz)->TrL K H S ds es .fz xs F->(∀b,¬F b)/\RpL K H S ds xs
 |[],_,_,_,_,h=>by unfold TrL at h;exact⟨h.2,by rw[h.1];exact .nil⟩
 |d::ds,es,_,_,he,h=>by
  unfold TrL at h;obtain⟨y,ys,F1,F2,rfl,hF,dj,h1,h2⟩:=h
  have e:es.headD .fz=.fz:=by
   cases es with
   |nil=>rfl
   |cons a r=>exact he a (.head _)
  rw[e] at h1;obtain⟨n1,r1⟩:=h1.fz_inv
  obtain⟨n2,r2⟩:=TrL.flat (λe q=>he e (by cases es with|nil=>cases q|cons a r=>exact .tail _ q)) h2
  exact⟨λb z=>((hF b).mp z).elim (n1 b) (n2 b),.cons r1 r2⟩
theorem VR.items(ok:i3 kd ds=P8)(m:MuOk H0 (Sg g))(s:Same H0 H)(h:VR K g H0 H kd (.nd hd ds) v):∃a o xs,v=.ref a/\H a=P6 o/\du K o hd xs/\RpL K H (Sg g) ds xs:=by
 have ns:∀{kd':Kd},i0 kd' (.nd hd ds)=P8->VR K g H0 H kd' (.nd hd ds) v->∃a o xs,v=.ref a/\H a=P6 o/\du K o hd xs/\RpL K H (Sg g) ds xs:=λok h=>by
  obtain⟨a,o,xs,e,_,q1,q2,q3⟩:=(h.sh ok m s).nd;exact⟨a,o,xs,e,q1,q2,q3⟩
 cases kd with
 |sh=>exact ns rfl h
 |fr k=>exact ns rfl h
 |bo i k=>
  simp only[i3,NS] at ok;rcases ok with ok|ok
  ·obtain⟨F,h1,h2,F0,h3,h4⟩:=h
   cases k with
   |fz=>
    obtain⟨_,r⟩:=h4.fz_inv;obtain⟨a,o,xs,e,_,q1,q2,q3⟩:=r.nd;exact⟨a,o,xs,e,q1,q2,q3.weak λb z=>.inl z⟩
   |own es r=>
    obtain⟨he,rfl⟩:=sg ok;unfold Tr at h4;obtain⟨a,o,xs,F',e,q1,q2,n1,n2,hF,t⟩:=h4;exact⟨a,o,xs,e,q1,q2,(t.flat he).2.weak λb z=>.inl z⟩
  ·obtain⟨a,o,xs,e,_,q1,q2,q3⟩:=h.rd.nd;exact⟨a,o,xs,e,q1,q2,q3.im (m.same s) ok⟩
end
noncomputable def JW(K:Mz)(op:Qv):R2:=λx y H Q=>∃g H0 kx ky kd d,MuOk H0 (Sg g)/\Same H0 H/\VR K g H0 H kx.1 kx.2 x/\VR K g H0 H ky.1 ky.2 y/\eJ op kx ky=P6 (kd,d)/\∀v H',Same H H'->VR K g H H' kd d v->Q v H'
theorem GF{i j:Int}(h:i.natAbs<lim/\j.natAbs<lim):IntMulOk i j:=
 IntMulOk.of_bits (M0 (PyProof.Rows.intBits_le (k:=4000) h.1) (by decide)) (M0 (PyProof.Rows.intBits_le (k:=4000) h.2) (by decide))
theorem zo{j:Int}(h:j.natAbs<lim):j.natAbs.log2<9000:=by
 by_cases z:j.natAbs=0
 ·rw[z];decide
 ·exact MG ((Nat.log2_lt z).mpr h) (by decide)
theorem zq:jh X (binaryOp .Mult) (rI (λi j=>i.natAbs<lim/\j.natAbs<lim) λi j=>.int (i*j)):=FH λ_ _ _ _ _ _ _ hc q=>PyProof.Rows.mul_int q (GF hc)
theorem wo:jh X (binaryOp .FloorDiv) (rI (λi j=>0<j/\j.natAbs<lim) λi j=>.int (i / j)):=FH λi j _ _ _ _ _ hc q=>by
 have h1:(0:Int)<j:=hc.1;exact PyProof.Rows.floordiv_int (by lia) (by rw[OI i (by lia)];exact q) (.inl (PyProof.noPylong_of_log2 (zo hc.2)))
theorem zr:jh X (binaryOp .LShift) (rI (λi j=>0<=j/\j<=1000000/\i.natAbs<lim) λi j=>.int (i*2^j.toNat)):=FH λi j _ _ _ _ _ hc q=>by
 have hb:=PyProof.Rows.intBits_le (k:=4000) hc.2.2;exact PyProof.Rows.lshift_int hc.1 (by have:=hc.2.1;lia) q
theorem wq{X:Cx}(op:Qv):jh X (binaryOp op) (JW X.K op):=by
 intro pins s Y H x y v u Q I rx ry h;obtain⟨g,H0,⟨kx,dx⟩,⟨ky,dy⟩,kd,d,m,sm,tx,ty,hb,q⟩:=h;dsimp only at tx ty
 cases dx with
 |int i=>cases dy with
  |int j=>
   obtain⟨rfl,rfl⟩:x=.int i/\y=.int j:=⟨tx.rd.int,ty.rd.int⟩
   have hb:(match oo op i j with|some z=>P6 (Kd.sh,D.int z)|none=>P7)=P6 (kd,d):=hb
   cases hz:oo op i j with
   |none=>rw[hz] at hb;cases hb
   |some z=>
    rw[hz] at hb;cases hb;have q:Q (.int z) H:=q _ H (Same.refl H) jZ
    cases op with
    |Add=>cases hz;exact CK pins s Y H _ _ v u Q I rx ry ⟨_,_,rfl,rfl,q⟩
    |Sub=>cases hz;exact CL pins s Y H _ _ v u Q I rx ry ⟨_,_,rfl,rfl,q⟩
    |Mult=>obtain⟨hm,rfl⟩:=wn (show(if _ then P6 (i*j) else P7)=P6 z from hz);exact zq pins s Y H _ _ v u Q I rx ry ⟨_,_,rfl,rfl,hm,q⟩
    |FloorDiv=>obtain⟨hm,rfl⟩:=wn (show(if _ then P6 (i / j) else P7)=P6 z from hz);exact wo pins s Y H _ _ v u Q I rx ry ⟨_,_,rfl,rfl,hm,q⟩
    |Mod=>obtain⟨hm,rfl⟩:=wn (show(if _ then P6 (i%j) else P7)=P6 z from hz);exact CM pins s Y H _ _ v u Q I rx ry ⟨_,_,rfl,rfl,hm,q⟩
    |LShift=>obtain⟨hm,rfl⟩:=wn (show(if _ then P6 (i*2^j.toNat) else P7)=P6 z from hz);exact zr pins s Y H _ _ v u Q I rx ry ⟨_,_,rfl,rfl,hm,q⟩
    |Pow=>obtain⟨hm,rfl⟩:=wn (show(if _ then P6 (i^j.toNat) else P7)=P6 z from hz);exact CN pins s Y H _ _ v u Q I rx ry ⟨_,_,rfl,rfl,hm,q⟩
    |RShift=>obtain⟨hm,rfl⟩:=wn (show(if _ then P6 (i / 2^j.toNat) else P7)=P6 z from hz);exact CP pins s Y H _ _ v u Q I rx ry ⟨_,_,rfl,rfl,hm,q⟩
    |BitAnd=>cases hz;exact CQ pins s Y H _ _ v u Q I rx ry ⟨_,_,rfl,rfl,q⟩
    |BitOr=>cases hz;exact Gc pins s Y H _ _ v u Q I rx ry ⟨_,_,rfl,rfl,q⟩
    |BitXor=>cases hz;exact CS pins s Y H _ _ v u Q I rx ry ⟨_,_,rfl,rfl,q⟩
    |_=>cases hz
  |_=>cases hb
 |nd hd xs=>cases hd with
  |lst=>cases op with
   |Add=>cases dy with
    |nd hd' ys=>cases hd' with
     |lst=>
      obtain⟨hz,e⟩:=wn (show(if _ then P6 (Kd.fr bj,D.lst (xs++ys)) else P7)=P6 (kd,d) from hb)
      cases e;obtain⟨a,o,us,rfl,ga,qa,ra⟩:=tx.items hz.1 m sm;obtain⟨b,o',vs,rfl,gb,qb,rb⟩:=ty.items hz.2.1 m sm;cases(show o=_ from qa);cases(show o'=_ from qb);refine CY pins s Y H _ _ v u Q I rx ry ⟨a,b,us,vs,rfl,rfl,ga,gb,by rw[ra.len,rb.len];exact aF hz.2.2,λp hp=>q _ _ (ak hp) (ql hp (ra.append rb))⟩
     |_=>cases hb
    |_=>cases hb
   |_=>cases hb
  |_=>cases hb
 |str i=>
  obtain rfl:=tx.rd.str
  cases op with
  |Add=>cases dy with
   |str j=>
    obtain rfl:=ty.rd.str
    obtain⟨hz,e⟩:=wn (show(if _ then P6 (Kd.sh,D.str (i++j)) else P7)=P6 (kd,d) from hb)
    cases e;exact p0 pins s Y H _ _ v u Q I rx ry ⟨i,j,rfl,rfl,aF hz,q _ H (Same.refl H) zn⟩
   |_=>cases hb
  |Mult=>cases dy with
   |int n=>
    obtain rfl:=ty.rd.int
    obtain⟨hz,e⟩:=wn (show(if _ then P6 (Kd.sh,D.str (G.om i n.toNat)) else P7)=P6 (kd,d) from hb)
    cases e;exact G.zm pins s Y H _ _ v u Q I rx ry ⟨i,n,rfl,rfl,hz.1,hz.2.1,hz.2.2,q _ H (Same.refl H) zn⟩
   |_=>cases hb
  |_=>cases hb
 |_=>cases hb
end J
namespace G
open PySem PySem.Spec PySem.Calls PyProof.Rows L2
noncomputable def nC:List Int->List Int->Bool
 |[],[]=>Qb
 |[],_::_=>P8
 |_::_,[]=>Qb
 |a::r,b::t=>if a=b then nC r t else decide (a<b)
theorem si{xs:List Int}{its:List Qa}(h:Vals (xs.map V.int) its){i:Nat}(hi:i<xs.length):∃t,its[i]?=P6 (.int xs[i] t):=by
 obtain⟨u,e,r⟩:=h.get (i:=i) (x:=.int xs[i]) (by rw[MF,MK hi];rfl);obtain⟨t,rfl⟩:=r;exact⟨t,e⟩
theorem uL(l b:Qc)(its its2:List Qa)(n n2:Nat)(dd dd2:Option Qc)(sl sl2:Array (Option Qa))(xs ys:List Int)(v1:Vals (xs.map V.int) its)(v2:Vals (ys.map V.int) its2)(k:Nat) :
  ∀i:Nat,its.length-i=k->i<=its.length->i<=its2.length->Meets (Builtin.«list.__eq__.loop» ⟨[.ref l,.ref b,QD i,QD 0],[]⟩)
   (λA R s=>s.heap.get? l=P6 { cls:=.type "list",dict:=dd,data:=.seq its.toArray n,slots:=sl }/\s.heap.get? b=P6 { cls:=.type "list",dict:=dd2,data:=.seq its2.toArray n2,slots:=sl2 }/\R (.ok (.ret (.bool (nC (xs.drop i) (ys.drop i))))) s):=by
 have e1:its.length=xs.length:=by rw[<- v1.length];simp
 have e2:its2.length=ys.length:=by rw[<- v2.length];simp
 induction k with
 |zero=>
  intro i hk hi hi' prog w A R s h;obtain⟨hp,g,d,tk,os⟩:=s;obtain⟨hl,hb,h⟩:=h
  wp_walk using wpAny_loadPart' hl,wpAny_loadPart' hb
  have hi1:its.toArray[((i:Nat):Int).toNat]?=P7:=by simp;lia
  rw[hi1]
  wp_walk using wpAny_loadPart' hl,wpAny_loadPart' hb
  show R (.ok (.ret (.bool (decide (its.toArray.size<its2.toArray.size))))) _;have hd:xs.drop i=[]:=Om (by lia);rw[hd] at h;by_cases hlt:i<its2.length
  ·rw[M6 (by lia:i<ys.length)] at h;rw[decide_eq_true (by simp;lia)];exact h
  ·rw[Om (by lia:ys.length<=i)] at h;rw[decide_eq_false (by simp;lia)];exact h
 |succ k ih=>
  intro i hk hi hi' prog w A R s h;obtain⟨hp,g,d,tk,os⟩:=s;obtain⟨hl,hb,h⟩:=h;have hx:i<xs.length:=by lia
  obtain⟨t,ht⟩:=si v1 hx;have hi1:its.toArray[((i:Nat):Int).toNat]?=P6 (.int xs[i] t):=by simpa using ht
  rw[M6 hx] at h;by_cases hlt:i<its2.length
  ·have hy:i<ys.length:=by lia
   obtain⟨u,hu⟩:=si v2 hy;have hi2:its2.toArray[((i:Nat):Int).toNat]?=P6 (.int ys[i] u):=by simpa using hu
   have hc:((i:Int)+1)=((i+1:Nat):Int):=by push_cast;rfl
   rw[M6 hy] at h
   wp_walk using wpAny_loadPart' hl,wpAny_loadPart' hb
   rw[hi1,hi2];refine Qe (PySem.SeqAt.EqAt.int_int _ _ _ _ prog w _ _ ?_);by_cases he:xs[i]=ys[i]
   ·rw[nC,if_pos he] at h;rw[beq_iff_eq.mpr he]
    wp_walk
    rw[hc]
    exact⟨plainId_quiet PySem.MeetsSeq3.plain_eq_loop _,codeAny_builtin PySem.MeetsSeq3.entry_eq_loop (by
     rw[Around.under_plainId PySem.MeetsSeq3.plain_eq_loop _];exact ih (i+1) (by lia) (by lia) (by lia) prog w A R _ ⟨hl,hb,h⟩)⟩
   ·rw[nC,if_neg he] at h;rw[beq_eq_false_iff_ne.mpr he]
    wp_walk using wpAny_loadPart' hl,wpAny_loadPart' hb
    rw[hi1,hi2];refine Qe (show Qf (Qg prog w) _ (compareOp .Lt (.int xs[i] t) (.int ys[i] u)) _ _ _ from PyProof.Rows.lt_int ?_)
    wp_walk
    exact h
  ·have hi2:its2.toArray[((i:Nat):Int).toNat]?=P7:=by simp;lia
   wp_walk using wpAny_loadPart' hl,wpAny_loadPart' hb
   rw[hi1,hi2]
   wp_walk using wpAny_loadPart' hl,wpAny_loadPart' hb
   show R (.ok (.ret (.bool (decide (its.toArray.size<its2.toArray.size))))) _;rw[Om (by lia:ys.length<=i)] at h;rw[decide_eq_false (by simp;lia)];exact h
theorem uM(l b:Qc)(its its2:List Qa)(n n2:Nat)(dd dd2:Option Qc)(sl sl2:Array (Option Qa))(xs ys:List Int)(v1:Vals (xs.map V.int) its)(v2:Vals (ys.map V.int) its2):Meets (Builtin.«list.__lt__» ⟨[.ref l,.ref b],[]⟩)
   (λA R s=>s.heap.get? l=P6 { cls:=.type "list",dict:=dd,data:=.seq its.toArray n,slots:=sl }/\s.heap.get? b=P6 { cls:=.type "list",dict:=dd2,data:=.seq its2.toArray n2,slots:=sl2 }/\R (.ok (.ret (.bool (nC xs ys)))) s):=by
 intro prog w A R s h;obtain⟨hp,g,d,tk,os⟩:=s;obtain⟨hl,hb,h⟩:=h;have f3:=PySem.AutoSeq1.sub_list_list
 wp_walk using wpAny_loadPart' hl,wpAny_loadPart' hb
 exact⟨plainId_quiet PySem.MeetsSeq3.plain_eq_loop _,codeAny_builtin PySem.MeetsSeq3.entry_eq_loop (by
  rw[Around.under_plainId PySem.MeetsSeq3.plain_eq_loop _];exact uL l b its its2 n n2 dd dd2 sl sl2 xs ys v1 v2 _ 0 rfl (M4 _) (M4 _) prog w A R _ ⟨hl,hb,h⟩)⟩
theorem Dc{X:Cx}:jh X (compareOp .Lt) (λx y H Q=>∃a b xs ys,x=.ref a/\y=.ref b/\SqL X.K H a (xs.map V.int)/\SqL X.K H b (ys.map V.int)/\X.A.units<cLine/\Q (.bl (nC xs ys)) H):=by
 intro pins s Y H x y v u Q I rx ry h;obtain⟨a,b,xs,ys,rfl,rfl,h1,h2,hu,q⟩:=h;cases(show v=Value.ref a from rx);cases(show u=Value.ref b from ry);obtain⟨its,rv,pl,hz⟩:=I.list h1;obtain⟨its2,rv2,pl2,hz2⟩:=I.list h2;obtain⟨⟨cls,dd,data,sl⟩,ho,hc,n,hd⟩:=pl.isList;obtain⟨⟨cls2,dd2,data2,sl2⟩,ho2,hc2,n2,hd2⟩:=pl2.isList;simp only at hc hd hc2 hd2;subst hc hd hc2 hd2;exact PySem.richCompare_meets_room (op:=.Lt) ⟨_,ho,rfl⟩ ⟨_,ho2,rfl⟩ PySem.F.slot_list_lt PySem.F.entry_list_lt (PySem.F.args_list_lt_2 _ _) (uM a b its its2 n n2 dd dd2 sl sl2 xs ys rv rv2)
  ⟨ho,ho2,show Value.bool (nC xs ys)≠Value.notImplemented/\_ from⟨(λx=>nomatch x),⟨.bl (nC xs ys),H,I,rfl,q⟩⟩⟩ hu
end G
namespace J
open PySem PySem.Spec L2
noncomputable def eP:D->Option aw
 |.int i=>P6 (.inl i)
 |.str x=>P6 (.inr x)
 |_=>P7
noncomputable def c7:List D->Option (List aw)
 |[]=>P6 []
 |d::ds=>match eP d,c7 ds with
  |some k,P6 ks=>P6 (k::ks)
  |_,_=>P7
noncomputable def Dd:D->Option (aw ⊕ List aw)
 |.nd .tup ds=>(c7 ds).map .inr
 |d=>(eP d).map .inl
noncomputable def oq:List D->Option (List (aw ⊕ List aw))
 |[]=>P6 []
 |d::ds=>match Dd d,oq ds with
  |some k,P6 ks=>P6 (k::ks)
  |_,_=>P7
noncomputable def De:Nat->List (aw ⊕ List aw)->Bool
 |_,[]=>P8
 |m,.inl _::r=>m%2==0&&De (m / 2) r
 |m,.inr _::r=>m%2==1&&De (m / 2) r
noncomputable def j0:D->Option DK
 |.nd .tup ds=>(oq ds).map .inr
 |d=>(eP d).map .inl
noncomputable def aI(ks:List DK)(k:DK):Option Nat:=ks.findIdx? λx=>decide (x=k)
section
variable {K:Mz} {H:Hp} {S:Pr}
theorem jz(h:eP d=P6 k)(r:Rp K H S d v):v=kV k:=by
 cases d<;>simp only[eP] at h<;>first|(cases h;done)|(cases h;first|exact r.int|exact r.str)
theorem ot:∀{ds:List D} {ks:List aw} {vs:List V},c7 ds=P6 ks->RpL K H S ds vs->vs=ks.map kV
 |[],ks,vs,h,r=>by cases h;exact r.nil_inv
 |d::ds,ks,vs,h,r=>by
  obtain⟨y,ys,rfl,r1,r2⟩:=r.cons_inv;unfold c7 at h;split at h
  ·rename_i k ks' e1 e2;cases h;rw[jz e1 r1,ot e2 r2];rfl
  ·cases h
theorem mr:∀{ds:List D} {ks:List (aw ⊕ List aw)} {vs:List V} {m:Nat},oq ds=P6 ks->RpL K H S ds vs->De m ks=P8->TkIts H m ks vs
 |[],ks,vs,m,h,r,hm=>by cases h;exact r.nil_inv
 |d::ds,ks,vs,m,h,r,hm=>by
  obtain⟨y,ys,rfl,r1,r2⟩:=r.cons_inv;unfold oq at h;split at h
  ·rename_i k ks' e1 e2;cases h
   cases k with
   |inl k=>
    simp only[De,MA,beq_iff_eq] at hm;refine⟨ys,?_,hm.1,mr e2 r2 hm.2⟩
    have:eP d=P6 k:=by
     unfold Dd at e1;split at e1
     ·cases e:c7 _<;>rw[e] at e1<;>cases e1
     ·cases e:eP d with
      |none=>rw[e] at e1;cases e1
      |some z=>rw[e] at e1;cases e1;rfl
    rw[jz this r1]
   |inr k=>
    simp only[De,MA,beq_iff_eq] at hm;unfold Dd at e1;split at e1
    ·rename_i zs
     cases e:c7 zs with
     |none=>rw[e] at e1;cases e1
     |some z=>
      rw[e] at e1;cases e1;obtain⟨a,o,xs,rfl,_,g,q,rl⟩:=r1.nd;cases(show o=_ from q);rw[ot e rl] at g;exact⟨a,ys,rfl,hm.1,g,mr e2 r2 hm.2⟩
    ·cases e:eP d<;>rw[e] at e1<;>cases e1
  ·cases h
theorem mt(h:j0 d=P6 k)(r:Rp K H S d v):(∃x,k=.inl x/\v=kV x)\/∃xs b,k=.inr xs/\v=.ref b/\∀m,De m xs=P8->TkAt H m xs b:=by
 have sc:∀{d:D},(eP d).map Sum.inl=P6 k->Rp K H S d v->(∃x,k=.inl x/\v=kV x):=λ{d} h r=>by
  cases e:eP d with
  |none=>rw[e] at h;cases h
  |some x=>rw[e] at h;cases h;exact⟨x,rfl,jz e r⟩
 unfold j0 at h;split at h
 ·rename_i ds
  cases e:oq ds with
  |none=>rw[e] at h;cases h
  |some ks=>
   rw[e] at h;cases h;obtain⟨a,o,xs,rfl,_,g,q,rl⟩:=r.nd;cases(show o=_ from q);exact .inr ⟨ks,a,rfl,rfl,λm hm=>⟨xs,g,mr e rl hm⟩⟩
 ·exact .inl (sc h r)
end
theorem iw{κ:Type}[DecidableEq κ]:∀(kvs:List (κ×V)) (k:κ),gA kvs k=(kvs.findIdx? λkv=>decide (kv.1=k)).bind λi=>(kvs.map (·.2))[i]?
 |[],k=>rfl
 |(a,b)::r,k=>by
  have ih:=iw r k;unfold gA at ih⊢;rw[NH,Na];by_cases h:a=k
  ·simp[h]
  ·simp only[h,decide_false];rw[ih]
   cases e:r.findIdx? λkv=>decide (kv.1=k) with
   |none=>simp
   |some i=>simp
noncomputable def iy(t:Nat):DK->Bool
 |.inl _=>t==0
 |.inr xs=>(match t with|0=>Qb|m+1=>De m xs)
theorem sj{K:Mz}{H:Hp}{S:Pr}{a:Qc}{o:HO}{t:Nat}{ks:List DK}{xs:List V}{d:D}{k:DK}{v:V}(g:H a=P6 o)(q:du K o (.dic t ks) xs)(h:j0 d=P6 k)(r:Rp K H S d v)(hk:iy t k=P8) :
  DGet H a v ((aI ks k).bind λi=>xs[i]?):=by
 rcases q with⟨rfl,kvs,rfl,e1,e2⟩|⟨m,rfl,kvs,ep,rfl,e1,e2⟩
 ·rcases mt h r with⟨x,rfl,rfl⟩|⟨ys,b,rfl,rfl,gb⟩
  ·have:=DGet.k (k:=x) g;rw[iw] at this
   have e3:aI ks (.inl x)=kvs.findIdx? λkv=>decide (kv.1=x):=by
    unfold aI;rw[e1,N5];congr 1;funext p;simp[Sum.inl.injEq]
   rw[e3,e2];exact this
  ·cases hk
 ·rcases mt h r with⟨x,rfl,rfl⟩|⟨ys,b,rfl,rfl,gb⟩
  ·cases hk
  ·have:=DGet.t (k:=ys) g (gb m hk);rw[iw] at this
   have e3:aI ks (.inr ys)=kvs.findIdx? λkv=>decide (kv.1=ys):=by
    unfold aI;rw[e1,N5];congr 1;funext p;simp[Sum.inr.injEq]
   rw[e3,e2];exact this
noncomputable def GH:D->Bool
 |.non=>P8
 |_=>Qb
noncomputable def toInts:List D->Option (List Int)
 |[]=>P6 []
 |.int b::r=>(toInts r).map (b::·)
 |_=>P7
theorem dP:∀{ds:List D} {bs:List Int},toInts ds=P6 bs->ds=bs.map D.int
 |[],bs,h=>by cases h;rfl
 |d::r,bs,h=>by
  cases d<;>simp only[toInts] at h<;>try cases h
  rename_i b
  cases e:toInts r with
  |none=>rw[e] at h;cases h
  |some cs=>rw[e] at h;cases h;rw[dP e];rfl
theorem RpL.toInts:∀{ns:List Int} {vs:List V},RpL K H S (ns.map D.int) vs->vs=ns.map V.int
 |[],_,h=>h.nil_inv
 |b::bs,_,h=>by
  obtain⟨y,ys,rfl,r,t⟩:=h.cons_inv;rw[r.int,RpL.toInts t];rfl
noncomputable def JX(x y:D):Option Bool:=match x with
 |.int i=>(match y with|.int j=>P6 (decide (i<j))|_=>P7)
 |.nd .lst as=>(match y with
  |.nd .lst bs=>(match toInts as with
   |some xs=>(match toInts bs with
    |some ys=>P6 (G.nC xs ys)
    |none=>P7)
   |none=>P7)
  |_=>P7)
 |_=>P7
noncomputable def aT(op:Qu)(x y:D):Option Bool:=
 match op with
 |.Lt=>JX x y
 |.LtE=>P7
 |.Gt=>(match x,y with|.int i,.int j=>P6 (decide (j<i))|_,_=>P7)
 |.GtE=>P7
 |.Eq=>if gh 90 x=P8/\gh 90 y=P8 then P6 (vt x y) else P7
 |.NotEq=>if gh 90 x=P8/\gh 90 y=P8 then P6 (!vt x y) else P7
 |.In=>(match y with
  |.nd .tup ds=>if gh 90 x=P8/\kZ 90 ds=P8 then P6 (ds.any λz=>vt z x) else P7
  |_=>P7)
 |.NotIn=>P7
 |.Is=>P7
 |.IsNot=>P7
noncomputable abbrev Nv:Pr:=λ_=>False
noncomputable def Df(K:Mz)(op:Qu):R2:=λx y H Q=>∃dx dy b,Rp K H Nv dx x/\Rp K H Nv dy y/\aT op dx dy=P6 b/\Q (.bl b) H
theorem sn(x:D):∀ds:List D,((lE ds).any λz=>PyData.eqv z (py x))=ds.any λz=>vt z x
 |[]=>by simp[lE]
 |d::ds=>by simp only[lE,OJ,sn x ds];rfl
theorem mw{X:Cx}(hu:X.A.units+100<cLine)(op:Qu):jh X (compareOp op) (Df X.K op):=by
 intro pins s Y H x y v u Q I rx ry h;obtain⟨dx,dy,b,tx,ty,hb,q⟩:=h;have hu1:X.A.units+1<cLine:=by lia
 have fin:∀{b':Bool},b'=b->EP X pins Y Q (.bool b') s:=λe=>⟨.bl b,H,I,by rw[e];rfl,q⟩
 have isN:dy=.non->plainIs v u=P8/\(v==u)=GH dx:=λe=>by
  subst e;have ey:=ty.non;subst ey;cases ry
  cases dx with
  |non=>have e:=tx.non;subst e;cases rx;exact⟨rfl,rfl⟩
  |bl c=>have e:=tx.bl;subst e;cases rx;exact⟨rfl,by cases c<;>rfl⟩
  |int i=>have e:=tx.int;subst e;obtain⟨t,rfl⟩:=rx;exact⟨rfl,rfl⟩
  |str i=>have e:=tx.str;subst e;obtain⟨t,rfl⟩:=rx;exact⟨rfl,rfl⟩
  |scr ns=>obtain⟨a,rfl,_⟩:=tx.scr;cases rx;exact⟨rfl,rfl⟩
  |nd hd ds=>obtain⟨a,o,xs,rfl,_⟩:=tx.nd;cases rx;exact⟨rfl,rfl⟩
 cases op with
 |Lt=>
  replace hb:JX dx dy=P6 b:=hb
  cases dx with
  |int i=>cases dy with
   |int j=>cases hb;obtain rfl:=tx.int;obtain rfl:=ty.int;exact Gd pins s Y H _ _ v u Q I rx ry ⟨_,_,rfl,rfl,q⟩
   |_=>cases hb
  |nd hd ds=>cases hd with
   |lst=>cases dy with
    |nd hd' ds'=>cases hd' with
     |lst=>
      dsimp only[JX] at hb;split at hb
      ·rename_i xs hx;split at hb
       ·rename_i ys hy;cases hb;rw[dP hx] at tx;rw[dP hy] at ty;obtain⟨a,o,us,rfl,n1,g1,q1,r1⟩:=tx.nd;obtain⟨a',o',us',rfl,n1',g1',q1',r1'⟩:=ty.nd;cases(show o=_ from q1);cases(show o'=_ from q1');obtain rfl:=r1.toInts;obtain rfl:=r1'.toInts;exact G.Dc pins s Y H _ _ v u Q I rx ry ⟨a,a',xs,ys,rfl,rfl,.of g1,.of g1',by lia,q⟩
       ·cases hb
      ·cases hb
     |_=>cases hb
    |_=>cases hb
   |_=>cases hb
  |_=>cases hb
 |LtE=>cases hb
 |Gt=>
  simp only[aT] at hb;split at hb
  ·cases hb;obtain rfl:=tx.int;obtain rfl:=ty.int;exact Ge pins s Y H _ _ v u Q I rx ry ⟨_,_,rfl,rfl,q⟩
  ·cases hb
 |GtE=>cases hb
 |Eq=>
  simp only[aT] at hb;split at hb
  ·rename_i hp;cases hb;obtain⟨⟨as,ra⟩,a1,a2⟩:=c6 I hp.1 tx rx;obtain⟨⟨bs,rb⟩,b1,b2⟩:=c6 I hp.2 ty ry;exact SeqAt.compareEq_reads ra rb a1 b1 (by lia) (fin rfl)
  ·cases hb
 |NotEq=>
  simp only[aT] at hb;split at hb
  ·rename_i hp;cases hb;obtain⟨⟨as,ra⟩,a1,a2⟩:=c6 I hp.1 tx rx;obtain⟨⟨bs,rb⟩,b1,b2⟩:=c6 I hp.2 ty ry;exact SeqAt.compareNe_reads ra rb a1 b1 (by lia) (fin rfl)
  ·cases hb
 |In=>
  simp only[aT] at hb;split at hb
  ·rename_i ds;split at hb
   ·rename_i hp;cases hb;obtain⟨⟨as,ra⟩,a1,a2⟩:=c6 I hp.1 tx rx;obtain⟨⟨bs,rb⟩,b1,b2⟩:=c6 (n:=91) I (by simp only[gh,MA];exact⟨rfl,hp.2⟩) ty ry;simp only[py,PyData.canLay0,PyData.depth] at rb b1 b2;exact SeqAt.in_tuple_reads rb ra b1 a1 (by lia) (fin (sn _ _))
   ·cases hb
  ·cases hb
 |NotIn=>cases hb
 |Is=>cases hb
 |IsNot=>cases hb
noncomputable def qm:D->Option Bool
 |.bl b=>P6 b
 |_=>P7
theorem wt{b:Bool}(t:Rp K H S d v)(h:qm d=P6 b):yZ K v H b:=by
 cases d with
 |bl k=>obtain rfl:=t.bl;cases h;rfl
 |_=>cases h
end J
namespace J
open PySem PySem.Spec L2
noncomputable def Ow.ch:Ow->Nat->Ow
 |.fz,_=>.fz
 |.own es r,i=>es.getD i r
noncomputable def ou:Kd->Nat->Kd
 |.sh,_=>.sh
 |.fr k,i=>(match k.ch i with|.fz=>.sh|c=>.fr c)
 |.bo j k,i=>(match k.ch i with|.fz=>.sh|c=>.bo j c)
section
variable {K:Mz} {H H' H0:Hp} {S:Pr} {g:Gh}
theorem TrL.len:∀{ds:List D} {es:List Ow} {r:Ow} {xs:List V} {F:Pr},TrL K H S ds es r xs F->xs.length=ds.length
 |[],_,_,_,_,h=>by unfold TrL at h;rw[h.1];rfl
 |d::ds,es,r,xs,F,h=>by
  unfold TrL at h;obtain⟨y,ys,F1,F2,rfl,_,_,_,h2⟩:=h;rw[MY,MY,TrL.len h2]
theorem TrL.get:∀{ds:List D} {es:List Ow} {r:Ow} {xs:List V} {F:Pr} {i:Nat} {d:D},TrL K H S ds es r xs F->ds[i]?=P6 d->∃x Fi,xs[i]?=P6 x/\(∀b,Fi b->F b)/\Tr K H S d (es.getD i r) x Fi
 |[],_,_,_,_,_,_,h,e=>by simp at e
 |d::ds,es,r,xs,F,0,d',h,e=>by
  unfold TrL at h;obtain⟨y,ys,F1,F2,rfl,hF,_,h1,h2⟩:=h;simp at e;subst e
  exact⟨y,F1,rfl,λb z=>(hF b).mpr (.inl z),by cases es<;>simpa using h1⟩
 |d::ds,es,r,xs,F,i+1,d',h,e=>by
  unfold TrL at h;obtain⟨y,ys,F1,F2,rfl,hF,_,h1,h2⟩:=h;obtain⟨x,Fi,e1,e2,e3⟩:=TrL.get h2 (by simpa using e)
  exact⟨x,Fi,by simpa using e1,λb z=>(hF b).mpr (.inr (e2 b z)),by cases es<;>simpa using e3⟩
theorem VR.ch{ds:List D}(h:VR K g H0 H kd (.nd hd ds) v):∃a o xs,v=.ref a/\H a=P6 o/\du K o hd xs/\xs.length=ds.length/\∀(i:Nat) d,ds[i]?=P6 d->∃x,xs[i]?=P6 x/\VR K g H0 H (ou kd i) d x:=by
 obtain⟨F,h1,h2⟩:=h
 have shc:∀{S':Pr},(∀b,g b≠P7->S' b)->Rp K H S' (.nd hd ds) v->∃a o xs,v=.ref a/\H a=P6 o/\du K o hd xs/\xs.length=ds.length/\∀(i:Nat) d,ds[i]?=P6 d->∃x,xs[i]?=P6 x/\VR K g H0 H .sh d x:=λhs r=>by
  obtain⟨a,o,xs,e,n,q1,q2,q3⟩:=r.nd;refine⟨a,o,xs,e,q1,q2,q3.len,λi d e=>?_⟩;obtain⟨x,e1,e2⟩:=q3.getD e;exact⟨x,e1,GD (e2.weak λb z=>hs b z)⟩
 cases kd with
 |sh=>exact shc (λb z=>.inl z) h2.2
 |fr k=>
  have h2:Tr K H (Sx g F) _ k v F:=h2
  cases k with
  |fz=>
   obtain⟨a,o,xs,e,q1,q2,q3,q4⟩:=shc (λb z=>.inl z) h2.fz_inv.2;exact⟨a,o,xs,e,q1,q2,q3,q4⟩
  |own es r=>
   unfold Tr at h2;obtain⟨a,o,xs,F',e,q1,q2,n1,n2,hF,t⟩:=h2;refine⟨a,o,xs,e,q1,q2,t.len,λi d e=>?_⟩;obtain⟨x,Fi,e1,e2,e3⟩:=t.get e;refine⟨x,e1,?_⟩;have hs:∀b o,H b=P6 o->¬Sx g F b->¬Sx g Fi b:=λb o _ n z=>n (z.imp id λz=>(hF b).mpr (.inr (e2 b z)))
   show VR K g H0 H (match es.getD i r with|.fz=>.sh|c=>.fr c) d x
   cases hc:es.getD i r with
   |fz=>
    rw[hc] at e3;exact GD (e3.fz_inv.2.weak λb z=>.inl z)
   |own es' r'=>
    rw[hc] at e3;exact⟨Fi,λb z=>h1 b ((hF b).mpr (.inr (e2 b z))),e3.go (λ_ _ _ h=>h) hs⟩
 |bo j k=>
  obtain⟨hn,F0,h3,h4⟩:=h2
  cases k with
  |fz=>
   obtain⟨a,o,xs,e,q1,q2,q3,q4⟩:=shc (λb z=>.inl z) h4.fz_inv.2;exact⟨a,o,xs,e,q1,q2,q3,q4⟩
  |own es r=>
   unfold Tr at h4;obtain⟨a,o,xs,F',e,q1,q2,n1,n2,hF,t⟩:=h4;refine⟨a,o,xs,e,q1,q2,t.len,λi d e=>?_⟩;obtain⟨x,Fi,e1,e2,e3⟩:=t.get e;refine⟨x,e1,?_⟩
   show VR K g H0 H (match es.getD i r with|.fz=>.sh|c=>.bo j c) d x
   cases hc:es.getD i r with
   |fz=>
    rw[hc] at e3;exact GD (e3.fz_inv.2.weak λb z=>.inl z)
   |own es' r'=>
    rw[hc] at e3;exact⟨F,h1,hn,Fi,λb z=>h3 b ((hF b).mpr (.inr (e2 b z))),e3⟩
end
structure Cz where
 sc:Qo
 N:List Str
 fn:Str->Bool
noncomputable abbrev Fn:=List D->Option KD
structure eQ where
 fn:Str->Option Fn
 fm:Str->Option (Mz->Sp)
 cst:Str->Option D
 cf:Str->Option (List Str)
noncomputable def aN(x:Str):List Str->Option Nat
 |[]=>P7
 |y::r=>if x=y then P6 0 else(aN x r).map (·+1)
theorem aK{x:Str}:∀{N:List Str} {i:Nat},aN x N=P6 i->N[i]?=P6 x
 |[],_,h=>by cases h
 |y::r,i,h=>by
  unfold aN at h;split at h
  ·rename_i e;cases h;simp[e]
  ·cases q:aN x r with
   |none=>rw[q] at h;cases h
   |some j=>
    rw[q] at h;cases h;simpa using aK q
noncomputable def Dg(sc:Qo)(x:Str):Bool:=sc.names.lookup x==P6 .local||sc.names.lookup x==P6 .cell||sc.names.lookup x==P6 .free
noncomputable def mx(c:Cz)(x:Str):Bool:=c.sc.names.lookup x==P6 .local||(c.fn x&&c.sc.names.lookup x==P6 .cell)
noncomputable def eR(scope:Qo)(x:Str):Bool:=scope.names.lookup x==P6 .cell
noncomputable def fJ(sc:Qo)(x:Str):Bool:=sc.names.lookup x==P6 .globalImplicit
theorem my{x:Str}(h:Dg sc x=P8):IQ sc x:=by
 simp only[Dg,NS,beq_iff_eq] at h;rcases h with(h|h)|h
 ·exact .inl h
 ·exact .inr (.inl h)
 ·exact .inr (.inr h)
noncomputable def mz(x:Str):Bool:=!(x==("__debug__":Str))&&!(x==("__classdict__":Str))
noncomputable def uN(K:Mz)(B:Fn):Sp:=λvs H Q _=>∃ds g kd d,RpL K H (Sg g) ds vs/\MuOk H (Sg g)/\B ds=P6 (kd,d)/\∀v H',Same H H'->VR K g H H' kd d v->Q v H'
noncomputable def ax:List Str:=["len","isinstance","int","bool","list","all","range","enumerate","str","sum","min","max","abs","tuple","zip","dict","sorted","reversed","any","set","repr"]
noncomputable def qo(C:Qc)(sp sp':Sp):Prop:=∀vs H Q,sp vs H Q E0->∀a dx,H a=P7->H dx=P7->dx≠a->sp' (.ref a::vs) (upd (upd H dx (.own a)) a (.ins C dx [])) (λv H2=>v=.non/\Q (.ref a) H2) E0
noncomputable def mB(X:Cx)(x:Str)(sp:Sp):Prop:=
 (∃k f fd ps,FnOk X.prog X.w X.K X.mg X.base nB k f fd ps sp/\Room k X.A/\X.mg x=P6 (.ref f)/\Nw X.K (.ref f)=P8/\Binds X.K fd ps []/\(x==("__debug__":Str))=Qb)\/
 (∃C k f fd ps sp',Mk X.K C f/\FnOk X.prog X.w X.K X.mg X.base nB k f fd ps sp'/\Room (k+1) X.A/\X.mg x=P6 (.ref C)/\Binds X.K fd ps []/\(x==("__debug__":Str))=Qb/\qo C sp sp')
noncomputable def LD(sp:Sp)(t:TA):TE:=λY H Q=>t Y H λvs H1=>sp vs H1 Q E0
theorem Br{X:Cx}{x:Str}{t:TA}(tm:∀(Y:L2.St) (H:Hp) (Q R:List V->Hp->Prop),t Y H Q->(∀vs H1,Q vs H1->R vs H1)->t Y H R)(h:mB X x sp)(hg:Gl X x)(ha:PA X (e::es) t)(he:Qm (e::es) X.env=(Qb,eval e X.env)::Qm es X.env)(hpl:(backTo pos (Qm es X.env)).any (·.1)=Qb) :
  PE X (.Call (.Name x p) (e::es) [] pos) (LD sp t):=by
 intro pins s Y H Q I q;rcases h with⟨k,f,fd,ps,F,hr,hm,hk,hb,hdb⟩|⟨C,k,f,fd,ps,sp',M,F,hr,hm,hb,hdb,mk⟩
 ·exact rS (E:=E0) F hr hg hm hk hb .nil nZ ha hdb he hpl pins s Y H Q I (tm _ _ _ _ q λvs H1 z=>by rw[NQ];exact z)
 ·exact y8 (E:=E0) M F hr hg hm hb .nil nZ ha hdb he hpl pins s Y H Q I (tm _ _ _ _ q λvs H1 z a dx h1 h2 h3=>by rw[NQ];exact mk vs H1 Q z a dx h1 h2 h3)
theorem Dh{x:Str}(h:mB X x sp)(hg:Gl X x):PE X (.Call (.Name x p) [] [] pos) (LD sp y7):=by
 intro pins s Y H Q I q;rcases h with⟨k,f,fd,ps,F,hr,hm,hk,hb,hdb⟩|⟨C,k,f,fd,ps,sp',M,F,hr,hm,hb,hdb,mk⟩
 ·exact vQ (E:=E0) F hr hg hm hk hb .nil nZ hdb pins s Y H Q I q
 ·exact vR (E:=E0) M F hr hg hm hb .nil nZ hdb pins s Y H Q I λa dx h1 h2 h3=>mk [] H Q q a dx h1 h2 h3
structure GI(X:Cx)(U:eQ):Prop where
 fn:∀x B,U.fn x=P6 B->mB X x (uN X.K B)
 cf:∀c fs C,U.cf c=P6 fs->NI X.K Qp c=P6 (P6 (.ref C))->Cls X.K C/\∀a∈fs,NoAttr X.K C a
 fm:∀x sp,U.fm x=P6 sp->∃k f fd ps,FnOk X.prog X.w X.K X.mg X.base nB k f fd ps (sp X.K)/\Room k X.A/\X.mg x=P6 (.ref f)/\Nw X.K (.ref f)=P8/\Binds X.K fd ps []/\(x==("__debug__":Str))=Qb
 bl:∀x∈ax,X.mg x=P7
 units:X.A.units+100<cLine
 gd:X.A.guards=P6 []
 cst:∀x d,U.cst x=P6 d->∃u v,X.mg x=P6 u/\RelV v u/\(∀H S,Rp X.K H S d v)/\(x==("__debug__":Str))=Qb
structure ao(X:Cx)(U:eQ)(c:Cz):Prop where
 sc:X.env.scope=c.sc
 N:X.N=c.N
 fn:∀x,c.fn x=P8->X.fn x=P8
 calm:X.calm=P8
 nd:c.N.Nodup
 tab:GI X U
section
variable {X:Cx} {U:eQ} {c:Cz}
theorem ce(O:ao X U c){x:Str}(h:fJ c.sc x=P8):Gl X x:=by
 show X.env.scope.names.lookup x=_;rw[O.sc];simpa[fJ] using h
theorem j3(O:ao X U c){x:Str}(h:mx c x=P8):Cq X.env.scope x/\(X.fn x=P8\/X.env.scope.names.lookup x=P6 .local):=by
 simp only[mx,NS,MA,beq_iff_eq] at h;rw[O.sc];rcases h with h|h
 ·exact⟨.inl h,.inr h⟩
 ·exact⟨.inr h.2,.inl (O.fn x h.1)⟩
noncomputable def ow(i:Nat)(o:Option (Option Sl)):Option KD:=match o with|some (P6 s)=>P6 (og i s)|_=>P7
noncomputable def eS(c:Cz)(x:Str):Option Nat:=match aN x c.N with|some i=>if Dg c.sc x&&mz x then P6 i else P7|none=>P7
theorem Bs(O:ao X U c){x:Str}{i:Nat}(hc:eS c x=P6 i)(pos:Pos):SndE X (λZ=>ow i Z[i]?) (.Name x pos):=by
 intro Z kd d h g Y H Q se q;unfold eS at hc;split at hc
 ·rename_i j hj;split at hc
  ·rename_i hv;cases hc;simp only[MA,mz,OR] at hv;dsimp only[ow] at h;split at h
   ·rename_i sl e;cases h;obtain⟨v,e1,e2⟩:=se.get e;exact au (pT (i:=i) (by rw[O.N];exact aK hj) (by rw[O.sc];exact my hv.1) hv.2.1 hv.2.2) ⟨v,e1,q v H (Same.refl H) e2⟩
   ·cases h
  ·cases hc
 ·cases hc
theorem GJ(i:Int)(j:Nat)(pos:Pos):SndE X (λ_=>P6 (.sh,.int i)) (.Constant (.int i) j pos):=by
 intro Z kd d h g Y H Q se q;cases h;exact au Cr (q _ H (Same.refl H) jZ)
theorem JY(i:Bool)(j:Nat)(pos:Pos):SndE X (λ_=>P6 (.sh,.bl i)) (.Constant (.bool i) j pos):=by
 intro Z kd d h g Y H Q se q;cases h;exact au FT (q _ H (Same.refl H) Bq)
theorem GK(j:Nat)(pos:Pos):SndE X (λ_=>P6 (.sh,.non)) (.Constant .none j pos):=by
 intro Z kd d h g Y H Q se q;cases h;exact au Cs (q _ H (Same.refl H) Db)
theorem GL(x:Str)(j:Nat)(pos:Pos):SndE X (λ_=>P6 (.sh,.str x)) (.Constant (.str x) j pos):=by
 intro Z kd d h g Y H Q se q;cases h;exact au Ct (q _ H (Same.refl H) zn)
theorem GM(O:ao X U c){x:Str}{d:D}(hg:fJ c.sc x=P8)(e:U.cst x=P6 d)(pos:Pos):SndE X (λ_=>P6 (.sh,d)) (.Name x pos):=by
 intro Z kd d' h g Y H Q se q;cases h;obtain⟨u,v,h1,h2,h3,h4⟩:=O.tab.cst x d e;exact au (yP (ce O hg) h1 h2 h4) (q v H (Same.refl H) (GD (h3 H _)))
theorem two{fa fb:Ro->Option KD}(ha:SndE X fa a)(hb:SndE X fb b){Z:Ro}{ka kb:Kd}{da db:D}(ea:fa Z=P6 (ka,da))(eb:fb Z=P6 (kb,db)){g:Gh}{Y:L2.St}{H:Hp}{R:V->V->Hp->Prop}(se:SE X.K g Z Y H)(q:∀x y H',Same H H'->VR X.K g H H' ka da x->VR X.K g H H' kb db y->R x y H'):wE X a Y H λx H1=>wE X b Y H1 λy H2=>R x y H2:=
 ha Z ka da ea g Y H _ se λx H1 s1 v1=>hb Z kb db eb g Y H1 _ (se.same s1) λy H2 s2 v2=>q x y H2 (s1.trans s2) (v1.same s2) (v2.older s1)
noncomputable def wu(op:Qv)(a b:Option KD):Option KD:=match a,b with
 |some x,P6 y=>eJ op x y
 |_,_=>P7
theorem GN{fa fb:Ro->Option KD}(ha:SndE X fa a)(hb:SndE X fb b):SndE X (λZ=>wu op (fa Z) (fb Z)) (.BinOp a op b pos):=by
 intro Z kd d h g Y H Q se q;dsimp only[wu] at h;split at h
 ·rename_i x y ea eb;exact au (Bl (wq op) av av) (two ha hb ea eb se λvx vy H' s r1 r2=>⟨g,H,x,y,kd,d,se.mu,s,r1,r2,h,λv H2 s2 r=>q v H2 (s.trans s2) (r.older s)⟩)
 ·cases h
noncomputable def j4(op:Qu)(a b:Option KD):Option Bool:=match a,b with
 |some (_,x),P6 (_,y)=>aT op x y
 |_,_=>P7
noncomputable def bV(o:Option Bool):Option KD:=o.map λb=>(.sh,.bl b)
theorem GO{fa fb:Ro->Option KD}{a b:P9}{op:Qu}(O:ao X U c)(hm:Qs op b=Qb)(ha:SndE X fa a)(hb:SndE X fb b):SndE X (λZ=>bV (j4 op (fa Z) (fb Z))) (.Compare a [op] [b] pos):=by
 intro Z kd d h g Y H Q se q
 cases hc:j4 op (fa Z) (fb Z) with
 |none=>simp only[hc,bV] at h;cases h
 |some r=>
  simp only[hc,bV] at h;cases h;unfold j4 at hc;split at hc
  ·rename_i ka x kb y ea eb;exact au (rQ (mw O.tab.units op) av av hm) (two ha hb ea eb se λvx vy H' s vx' vy'=>⟨x,y,r,vx'.rd,vy'.rd,hc,q _ H' s Bq⟩)
  ·cases hc
theorem fK{fa fb:Ro->Option KD}{a b:P9}{op:Qu}(O:ao X U c)(hm:Qs op b=Qb)(ha:SndE X fa a)(hb:SndE X fb b):SndT X (λZ=>j4 op (fa Z) (fb Z)) (.Compare a [op] [b] pos):=by
 intro Z r hc g Y H Q se q;dsimp only[j4] at hc;split at hc
 ·rename_i ka x kb y ea eb;exact r9 (rR (mw O.tab.units op) av av hm) (two ha hb ea eb se λvx vy H' s vx' vy'=>⟨x,y,r,vx'.rd,vy'.rd,hc,r,rfl,q H' s⟩)
 ·cases hc
noncomputable def dQ(a:Option KD):Option Bool:=match a with|some (_,d)=>qm d|none=>P7
theorem GP{fa:Ro->Option KD}(ha:SndE X fa a):SndE X (λZ=>bV ((dQ (fa Z)).map (!·))) (.UnaryOp .Not a pos):=by
 intro Z kd d h g Y H Q se q
 cases e:dQ (fa Z) with
 |none=>simp only[e,bV] at h;cases h
 |some b=>
  simp only[e,bV] at h;cases h;unfold dQ at e;split at e
  ·rename_i k d e1;intro pins s I;refine PyProof.Rows.UnaryOp_ (aV (ha Z _ _ e1 g Y H (λv H'=>yZ X.K v H' b/\Q (.bl (!b)) H') se (λv H' s vr=>⟨wt vr.rd e,q _ H' s Bq⟩) pins s I) λv s1 ⟨x,H1,I1,r1,t1,q1⟩=>?_);exact PyProof.Rows.not_of (aV (fW pins s1 Y H1 x v (λk H2=>Q (.bl (!k)) H2) I1 r1 ⟨b,t1,q1⟩) λk s2 ⟨H2,I2,q2⟩=>⟨.bl (!k),H2,I2,rfl,q2⟩)
  ·cases e
theorem lG{fa:Ro->Option Bool}(ha:SndT X fa a):SndT X (λZ=>(fa Z).map (!·)) (.UnaryOp .Not a pos):=by
 intro Z r h g Y H Q se q
 cases e:fa Z with
 |none=>simp only[e] at h;cases h
 |some b=>
  simp only[e] at h;cases h;exact r9 (Cv gG) (ha Z b e g Y H _ se λH' s=>q H' s)
theorem ww{fa:Ro->Option KD}{a:P9}(ha:SndE X fa a)(hp:∀whole,isTrue a X.env whole=(do let v <- whole;standAt a.pos;holding [v] (truthy v))):SndT X (λZ=>dQ (fa Z)) a:=by
 intro Z r h g Y H Q se q;dsimp only[dQ] at h;split at h
 ·rename_i k d e;exact r9 (vL av hp) (ha Z _ _ e g Y H _ se λv H' s vr=>⟨r,wt vr.rd h,q H' s⟩)
 ·cases h
noncomputable def GQ(t:Option Bool)(a b:Option KD):Option KD:=match t with|some P8=>a|some Qb=>b|none=>P7
theorem JZ{ft:Ro->Option Bool}{fa fb:Ro->Option KD}(ht:SndT X ft t)(ha:SndE X fa a)(hb:SndE X fb b):SndE X (λZ=>GQ (ft Z) (fa Z) (fb Z)) (.IfExp t a b pos):=by
 intro Z k d h g Y H Q se q;dsimp only[GQ] at h;split at h
 ·rename_i e;exact au (nN gG av av) (ht Z _ e g Y H _ se λH1 s1=>vY (ha Z k d h g Y H1 Q (se.same s1) λv H2 s2 r=>q v H2 (s1.trans s2) (r.older s1)))
 ·rename_i e;exact au (nN gG av av) (ht Z _ e g Y H _ se λH1 s1=>vX (hb Z k d h g Y H1 Q (se.same s1) λv H2 s2 r=>q v H2 (s1.trans s2) (r.older s1)))
 ·cases h
noncomputable def ah:P9->Bool
 |.Starred ..=>Qb
 |_=>P8
theorem ag(h:ah e=P8):Qm (e::es) env=(Qb,eval e env)::Qm es env:=by
 cases e<;>first|rfl|cases h
theorem aU{es:List P9}(h:es.all ah=P8):(backTo pos (Qm es env)).any (·.1)=Qb:=by
  have key:∀es:List P9,es.all ah=P8->∀p∈Qm es env,p.1=Qb:=by
    intro es
    induction es with
    |nil=>intro _ p hp;cases hp
    |cons e es ih=>
      intro h p hp;simp only[Nu,MA] at h;rw[ag h.1] at hp;rcases ML.mp hp with rfl|hp
      · rfl
      · exact ih h.2 p hp
  have k2:=key es h
  cases e:Qm es env with
  |nil=>rfl
  |cons p r=>
    rw[e] at k2
    have h0:∀q∈backTo pos (p::r),q.1=Qb:=by
      intro q hq;unfold backTo at hq
      first
        |exact k2 q hq
        | (simp only[M2,ML] at hq
           first
             |(obtain⟨z,hz,rfl⟩:=hq;exact k2 z (by simpa using hz))
             | (rcases hq with rfl|hq
                · exact k2 p (by simp)
                · first
                    |exact k2 q (by simp[hq])
                    |(obtain⟨z,hz,rfl⟩:=hq;exact k2 z (by simp[hz]))))
    rw[PK];intro q hq;rw[h0 q hq];decide
noncomputable def eT(a:Option KD)(r:Option (List KD)):Option (List KD):=match a,r with|some x,P6 xs=>P6 (x::xs)|_,_=>P7
theorem zt:jX X (λ_=>P6 []) []:=by
 intro Z kds h g Y H Q se q;cases h;exact jW dG (q [] H (Same.refl H) .nil)
theorem zu{fa:Ro->Option KD}{fr:Ro->Option (List KD)}(hn:ah e=P8)(ha:SndE X fa e)(hr:jX X fr es):jX X (λZ=>eT (fa Z) (fr Z)) (e::es):=by
 intro Z kds h g Y H Q se q;dsimp only[eT] at h;split at h
 ·rename_i x xs e1 e2;cases h;obtain⟨k,d⟩:=x;refine jW (bg av cH (ag hn)) (ha Z k d e1 g Y H _ se λv H1 s1 r1=>?_);obtain⟨F1,a1,a2⟩:=r1;exact hr Z xs e2 (g.plus F1) Y H1 _ (se.plus s1 a1 a2.dom) λvs H2 s2 r2=>q (v::vs) H2 (s1.trans s2) (.cons s1 s2 a1 a2 r2)
 ·cases h
theorem VRs.two(h:VRs K g H0 H [(k,d),(k',d')] vs):∃v v',vs=[v,v']/\VR K g H0 H k d v/\VR K g H0 H k' d' v':=by
 obtain⟨F,h1,y,ys,F1,F2,rfl,hF,dj,h3,z,zs,F3,F4,rfl,hF2,dj2,h5,rfl,h7⟩:=h;have e:∀b,F b↔F1 b\/F3 b:=λb=>(hF b).trans ⟨λz=>z.imp id λz=>((hF2 b).mp z).elim id λz=>absurd z (h7 b),λz=>z.imp id λz=>(hF2 b).mpr (.inl z)⟩;refine⟨y,z,rfl,⟨F1,λb z=>h1 b ((e b).mpr (.inl z)),h3.go (λ_ _ h=>h) λb _ _ z=>(e b).mpr (.inl z)⟩,⟨F3,λb z=>h1 b ((e b).mpr (.inr z)),h5.go (λ_ _ h=>h) λb _ _ z=>(e b).mpr (.inr z)⟩⟩
end
end J
namespace J
open PySem PySem.Spec L2
mutual
noncomputable def Ow.le:Ow->Ow->Bool
 |.fz,_=>P8
 |.own es r,.own es' r'=>Ow.les es es'&&Ow.le r r'
 |.own _ _,.fz=>Qb
noncomputable def Ow.les:List Ow->List Ow->Bool
 |[],[]=>P8
 |a::as,b::bs=>Ow.le a b&&Ow.les as bs
 |_,_=>Qb
end
theorem Ow.les_hd:∀{es es':List Ow} {r r':Ow},Ow.les es es'=P8->Ow.le r r'=P8->(es.headD r).le (es'.headD r')=P8/\Ow.les es.tail es'.tail=P8
 |[],[],_,_,_,h=>⟨h,rfl⟩
 |a::as,b::bs,_,_,h,_=>by rw[Ow.les,MA] at h;exact h
 |[],_::_,_,_,h,_=>by simp[Ow.les] at h
 |_::_,[],_,_,h,_=>by simp[Ow.les] at h
section
variable {K:Mz} {H:Hp} {S:Pr}
mutual
theorem Tr.ofIm:∀{d:D} {k:Ow} {v:V},qj d=P8->Rp K H S d v->Tr K H S d k v (λ_=>False)
 |.non,_,_,_,h=>by unfold Tr;exact⟨λ_ z=>z,h⟩
 |.bl _,_,_,_,h=>by unfold Tr;exact⟨λ_ z=>z,h⟩
 |.int _,_,_,_,h=>by unfold Tr;exact⟨λ_ z=>z,h⟩
 |.str _,_,_,_,h=>by unfold Tr;exact⟨λ_ z=>z,h⟩
 |.scr _,_,_,i,_=>by simp[qj] at i
 |.nd hd ds,.fz,_,_,h=>by unfold Tr;exact⟨λ_ z=>z,h⟩
 |.nd hd ds,.own es r,v,i,h=>by
  rw[qj,MA] at i;have i1:hd.mu=Qb:=by simpa using i.1
  unfold Rp at h;unfold Tr;obtain⟨a,o,xs,e,n,g,q,t⟩:=h;exact⟨a,o,xs,λ_=>False,e,g,q,λ_ z=>z,λ_=>n,λb=>⟨λz=>z.elim,λz=>z.elim (λz=>by rw[i1] at z;cases z.1) id⟩,TrL.ofIm i.2 t⟩
theorem TrL.ofIm:∀{ds:List D} {es:List Ow} {r:Ow} {vs:List V},zk ds=P8->RpL K H S ds vs->TrL K H S ds es r vs (λ_=>False)
 |[],_,_,_,_,h=>by unfold TrL;exact⟨h.nil_inv,λ_ z=>z⟩
 |d::ds,es,r,vs,i,h=>by
  rw[zk,MA] at i;obtain⟨y,ys,rfl,h1,h2⟩:=h.cons_inv;unfold TrL;exact⟨y,ys,_,_,rfl,λb=>⟨λz=>z.elim,λz=>z.elim id id⟩,λ_ z=>z.elim,Tr.ofIm i.1 h1,TrL.ofIm i.2 h2⟩
end
theorem Tr.leaf{S':Pr}(hd:∀h ds,d≠.nd h ds)(h:Tr K H S d c v F)(hS:∀b,S' b->H b=P7\/S b):Tr K H S' d k v (λ_=>False):=by
 cases d with
 |nd hh ds=>exact absurd rfl (hd hh ds)
 |_=>
  unfold Tr at h⊢;exact⟨λ_ z=>z,h.2.go λb o n e=>⟨e,λz=>(hS b z).elim (λq=>by rw[e] at q;cases q) n⟩⟩
mutual
theorem Tr.part:∀{d:D} {k c:Ow} {v:V} {F:Pr},k.le c=P8->Tr K H S d c v F->∃F2:Pr,(∀b,F2 b->F b)/\∀S':Pr,(∀b,S' b->H b=P7\/(S b/\(F b->F2 b)))->Tr K H S' d k v F2
 |.non,_,_,_,_,_,t=>⟨_,λ_ z=>z.elim,λS' hS=>t.leaf (λ_ _ e=>nomatch e) λb z=>(hS b z).imp id And.left⟩
 |.bl _,_,_,_,_,_,t=>⟨_,λ_ z=>z.elim,λS' hS=>t.leaf (λ_ _ e=>nomatch e) λb z=>(hS b z).imp id And.left⟩
 |.int _,_,_,_,_,_,t=>⟨_,λ_ z=>z.elim,λS' hS=>t.leaf (λ_ _ e=>nomatch e) λb z=>(hS b z).imp id And.left⟩
 |.str _,_,_,_,_,_,t=>⟨_,λ_ z=>z.elim,λS' hS=>t.leaf (λ_ _ e=>nomatch e) λb z=>(hS b z).imp id And.left⟩
 |.scr _,_,_,_,_,_,t=>⟨_,λ_ z=>z.elim,λS' hS=>t.leaf (λ_ _ e=>nomatch e) λb z=>(hS b z).imp id And.left⟩
 |.nd hd ds,.fz,c,v,F,_,t=>by
  refine⟨λ_=>False,λ_ z=>z.elim,λS' hS=>.fz ?_⟩;have r:Rp K H (λb=>S' b/\H b≠P7) (.nd hd ds) v:=t.rp λb z=>(hS b z.1).elim (λq=>absurd q z.2) λq=>⟨q.1,q.2⟩;exact r.go λb o n e=>⟨e,λz=>n ⟨z,by rw[e];exact λh=>by cases h⟩⟩
 |.nd hd ds,.own es r,.fz,_,_,l,_=>by simp[Ow.le] at l
 |.nd hd ds,.own es r,.own es' r',v,F,l,t=>by
  rw[Ow.le,MA] at l;unfold Tr at t;obtain⟨a,o,xs,F',e,g,q,n1,n2,hF,tl⟩:=t;obtain⟨G,g1,g2⟩:=TrL.part l.1 l.2 tl;refine⟨λb=>(hd.mu=P8/\b=a)\/G b,λb z=>(hF b).mpr (z.imp id (g1 b)),λS' hS=>?_⟩;unfold Tr;refine⟨a,o,xs,G,e,g,q,λhm z=>n1 hm (g1 a z),λhm z=>(hS a z).elim (λq=>by rw[g] at q;cases q) λq=>n2 hm q.1,λb=>Iff.rfl,g2 S' λb z=>(hS b z).imp id λq=>⟨q.1,λf=>?_⟩⟩;exact(q.2 ((hF b).mpr (.inr f))).elim (λw=>absurd f (by rw[w.2];exact n1 w.1)) id
theorem TrL.part:∀{ds:List D} {es es':List Ow} {r r':Ow} {vs:List V} {F:Pr},Ow.les es es'=P8->r.le r'=P8->TrL K H S ds es' r' vs F->∃F2:Pr,(∀b,F2 b->F b)/\∀S':Pr,(∀b,S' b->H b=P7\/(S b/\(F b->F2 b)))->TrL K H S' ds es r vs F2
 |[],_,_,_,_,_,_,_,_,t=>⟨λ_=>False,λ_ z=>z.elim,λS' _=>by unfold TrL at t⊢;exact⟨t.1,λ_ z=>z⟩⟩
 |d::ds,es,es',r,r',vs,F,l1,l2,t=>by
  unfold TrL at t;obtain⟨y,ys,F1,F2,e,hF,dj,t1,t2⟩:=t;have lh:=Ow.les_hd (r:=r) (r':=r') l1 l2;obtain⟨G1,a1,a2⟩:=Tr.part lh.1 t1;obtain⟨G2,b1,b2⟩:=TrL.part lh.2 l2 t2;refine⟨λb=>G1 b\/G2 b,λb z=>(hF b).mpr (z.imp (a1 b) (b1 b)),λS' hS=>?_⟩;unfold TrL;refine⟨y,ys,G1,G2,e,λb=>Iff.rfl,λb z1 z2=>dj b (a1 b z1) (b1 b z2),a2 S' λb z=>(hS b z).imp id λq=>⟨q.1,λf=>?_⟩,b2 S' λb z=>(hS b z).imp id λq=>⟨q.1,λf=>?_⟩⟩
  ·exact(q.2 ((hF b).mpr (.inl f))).elim id λw=>absurd (b1 b w) (dj b f)
  ·exact(q.2 ((hF b).mpr (.inr f))).elim (λw=>absurd f (dj b (a1 b w))) id
end
end
noncomputable def bB(k:Ow)(p:KD):Bool:=match k with
 |.fz=>i0 p.1 p.2
 |k=>(match p.1 with|.fr c=>k.le c|_=>Qb)||qj p.2
noncomputable def qp:List Ow->Ow->List KD->Bool
 |_,_,[]=>P8
 |es,r,p::ps=>bB (es.headD r) p&&qp es.tail r ps
section
variable {K:Mz} {H H' H0:Hp} {g:Gh} {Ft F:Pr}
theorem VR1.fit{p:KD}(h:bB k p=P8)(m:MuOk H (Sx g Ft))(hd:∀b,F b->g b=P7)(hs:∀b,F b->Ft b)(r:VR1 K H g Ft p.1 p.2 v F):∃F2:Pr,(∀b,F2 b->F b)/\∀S':Pr,(∀b,S' b->H b=P7\/g b≠P7\/F2 b\/(Ft b/\¬F b))->Tr K H S' p.2 k v F2:=by
 obtain⟨kd,d⟩:=p
 cases k with
 |fz=>
  refine⟨λ_=>False,λb z=>z.elim,λS' hS=>.fz ?_⟩
  have r1:Rp K H (λb=>S' b/\H b≠P7) d v:=by
   cases kd with
   |sh=>
    refine r.2.weak λb z=>?_;rcases hS b z.1 with q|q|q|q
    ·exact absurd q z.2
    ·exact .inl q
    ·exact q.elim
    ·exact .inr q.1
   |fr c=>
    refine Tr.rp (λb z=>?_) r;rcases hS b z.1 with q|q|q|q
    ·exact absurd q z.2
    ·exact⟨.inl q,λz2=>q (hd b z2)⟩
    ·exact q.elim
    ·exact⟨.inr q.1,q.2⟩
   |bo i c=>
    refine r.rd.im (λb z=>?_) h;rcases hS b z.1 with q|q|q|q
    ·exact absurd q z.2
    ·exact m b (.inl q)
    ·exact q.elim
    ·exact m b (.inr q.1)
  exact r1.go λb o n e=>⟨e,λz=>n ⟨z,by rw[e];exact λh=>by cases h⟩⟩
 |own es r'=>
  rcases NS _ _▸(show(_||_)=P8 from h) with h|h
  ·cases kd with
   |sh=>cases h
   |bo i c=>cases h
   |fr c=>
    obtain⟨F2,a1,a2⟩:=Tr.part h r;refine⟨F2,a1,λS' hS=>a2 S' λb z=>?_⟩;rcases hS b z with q|q|q|q
    ·exact .inl q
    ·exact .inr ⟨.inl q,λf=>absurd (hd b f) q⟩
    ·exact .inr ⟨.inr (hs b (a1 b q)),λ_=>q⟩
    ·exact .inr ⟨.inr q.1,λf=>absurd f q.2⟩
  ·refine⟨λ_=>False,λb z=>z.elim,λS' hS=>.ofIm h ?_⟩
   have r1:Rp K H (λb=>S' b/\H b≠P7) d v:=by
    refine r.rd.im (λb z=>?_) h;rcases hS b z.1 with q|q|q|q
    ·exact absurd q z.2
    ·exact m b (.inl q)
    ·exact q.elim
    ·exact m b (.inr q.1)
   exact r1.go λb o n e=>⟨e,λz=>n ⟨z,by rw[e];exact λh=>by cases h⟩⟩
theorem VRL.fit:∀{kds:List KD} {es:List Ow} {r:Ow} {vs:List V} {F:Pr},qp es r kds=P8->MuOk H (Sx g Ft)->(∀b,F b->g b=P7)->(∀b,F b->Ft b)->VRL K H g Ft kds vs F->
  ∃F2:Pr,(∀b,F2 b->F b)/\∀S':Pr,(∀b,S' b->H b=P7\/g b≠P7\/F2 b\/(Ft b/\¬F b))->TrL K H S' (kds.map (·.2)) es r vs F2
 |[],es,r,vs,F,_,_,_,_,h=>⟨λ_=>False,λb z=>z.elim,λS' hS=>by unfold PY TrL;exact⟨h.1,λb z=>z⟩⟩
 |p::ps,es,r,vs,F,hf,m,hd,hs,h=>by
  obtain⟨y,ys,F1,F2,rfl,hF,dj,h1,h2⟩:=h;unfold qp at hf;rw[MA] at hf;obtain⟨G1,a1,a2⟩:=VR1.fit hf.1 m (λb z=>hd b ((hF b).mpr (.inl z))) (λb z=>hs b ((hF b).mpr (.inl z))) h1;obtain⟨G2,b1,b2⟩:=VRL.fit hf.2 m (λb z=>hd b ((hF b).mpr (.inr z))) (λb z=>hs b ((hF b).mpr (.inr z))) h2;refine⟨λb=>G1 b\/G2 b,λb z=>(hF b).mpr (z.imp (a1 b) (b1 b)),λS' hS=>?_⟩;show TrL K H S' (p.2::ps.map (·.2)) es r (y::ys) _;unfold TrL;refine⟨y,ys,G1,G2,rfl,λb=>Iff.rfl,λb z1 z2=>dj b (a1 b z1) (b1 b z2),a2 S' λb z=>?_,b2 S' λb z=>?_⟩
  ·rcases hS b z with q|q|(q|q)|q
   ·exact .inl q
   ·exact .inr (.inl q)
   ·exact .inr (.inr (.inl q))
   ·exact .inr (.inr (.inr ⟨hs b ((hF b).mpr (.inr (b1 b q))),λz=>dj b z (b1 b q)⟩))
   ·exact .inr (.inr (.inr ⟨q.1,λz=>q.2 ((hF b).mpr (.inl z))⟩))
  ·rcases hS b z with q|q|(q|q)|q
   ·exact .inl q
   ·exact .inr (.inl q)
   ·exact .inr (.inr (.inr ⟨hs b ((hF b).mpr (.inl (a1 b q))),λz=>dj b (a1 b q) z⟩))
   ·exact .inr (.inr (.inl q))
   ·exact .inr (.inr (.inr ⟨q.1,λz=>q.2 ((hF b).mpr (.inr z))⟩))
theorem VRs.node{kds:List KD}{hd:Hd}(hf:qp es r kds=P8)(m:MuOk H0 (Sg g))(s:Same H0 H)(h:VRs K g H0 H kds vs)(hp:H p=P7)(ho:du K o hd vs)(hm:hd.mu=P8) :
  VR K g H0 (upd H p o) (.fr (.own es r)) (.nd hd (kds.map (·.2))) (.ref p):=by
 obtain⟨F,h1,h2⟩:=h
 have hgF:∀b,F b->g b=P7:=λb z=>by
  cases e:g b with
  |none=>rfl
  |some i=>
   obtain⟨o,q,_⟩:=m b (by rw[Sg,e];exact λh=>by cases h);rw[h1 b z] at q;cases q
 have mm:MuOk H (Sx g F):=λb z=>z.elim (λz=>m.same s b z) (λz=>h2.dom b z);obtain⟨F2,a1,a2⟩:=h2.fit hf mm hgF λb z=>z
 have np:¬F2 p:=λz=>by
  obtain⟨o,q,_⟩:=h2.dom p (a1 p z);rw[hp] at q;cases q
 refine⟨λb=>b=p\/F2 b,λb z=>z.elim (λz=>z▸s.free hp) λz=>h1 b (a1 b z),?_⟩;show Tr _ _ _ _ _ _ _;unfold Tr;refine⟨p,o,vs,F2,rfl,ai,ho,λ_=>np,λh=>by (rw[hm] at h;cases h),λb=>⟨λz=>z.imp (λz=>⟨hm,z⟩) id,λz=>z.imp (λz=>z.2) id⟩,?_⟩;refine(a2 (λb=>g b≠P7\/F2 b) λb z=>.inr (z.imp id λz=>.inl z)).go (λb o' _ e=>ak hp b o' e) λb o' e n z=>?_;rcases z with z|z|z
 ·exact n (.inl z)
 ·subst z;rw[hp] at e;cases e
 ·exact n (.inr z)
theorem VRs.tupO{kds:List KD}(hf:qp es r kds=P8)(m:MuOk H0 (Sg g))(s:Same H0 H)(h:VRs K g H0 H kds vs)(hp:H p=P7) :
  VR K g H0 (upd H p (.tup vs)) (.fr (.own es r)) (.tup (kds.map (·.2))) (.ref p):=by
 obtain⟨F,h1,h2⟩:=h
 have hgF:∀b,F b->g b=P7:=λb z=>by
  cases e:g b with
  |none=>rfl
  |some i=>
   obtain⟨o,q,_⟩:=m b (by rw[Sg,e];exact λh=>by cases h);rw[h1 b z] at q;cases q
 have mm:MuOk H (Sx g F):=λb z=>z.elim (λz=>m.same s b z) (λz=>h2.dom b z);obtain⟨F2,a1,a2⟩:=h2.fit hf mm hgF λb z=>z
 have np:¬F2 p:=λz=>by
  obtain⟨o,q,_⟩:=h2.dom p (a1 p z);rw[hp] at q;cases q
 refine⟨F2,λb z=>h1 b (a1 b z),?_⟩;show Tr _ _ _ _ _ _ _;unfold Tr
 refine⟨p,_,vs,F2,rfl,ai,rfl,(λh=>nomatch h),λ_ z=>?_,λb=>⟨λz=>.inr z,λz=>z.elim (λz=>nomatch z.1) id⟩,?_⟩
 ·rcases z with z|z
  ·obtain⟨o,q,_⟩:=m.same s p z;rw[hp] at q;cases q
  ·exact np z
 ·exact(a2 (λb=>g b≠P7\/F2 b) λb z=>.inr (z.imp id λz=>.inl z)).go (λb o' _ e=>ak hp b o' e) λb o' e n z=>n z
end
noncomputable def uO(k:Ow)(a:Option (List KD)):Option KD:=match a with
 |some kds=>(match k with|.own es r=>if qp es r kds=P8/\kds.length<=100000 then P6 (.fr (.own es r),.lst (kds.map (·.2))) else P7|.fz=>P7)
 |none=>P7
noncomputable def gJ(k:Ow)(a:Option (List KD)):Option KD:=match a with
 |some kds=>(match k with
  |.own es r=>if qp es r kds=P8/\kds.length<=100000 then P6 (.fr (.own es r),.tup (kds.map (·.2))) else P7
  |.fz=>if(kds.all λp=>i0 p.1 p.2)=P8/\kds.length<=100000 then P6 (.sh,.tup (kds.map (·.2))) else P7)
 |none=>P7
section
variable {X:Cx} {U:eQ} {c:Cz}
theorem VRs.len{kds:List KD}{vs:List V}(h:VRs K g H0 H kds vs):vs.length=kds.length:=by
 have:=h.rd.len;rw[MB] at this;exact this
theorem GR{f:Ro->Option (List KD)}(hf:jX X f es):SndE X (λZ=>uO k (f Z)) (.List es pos):=by
 intro Z kd d h g Y H Q se q;dsimp only[uO] at h;split at h
 ·rename_i kds e;split at h
  ·split at h
   ·rename_i hz;cases h;refine au (CU cH) (hf Z kds e g Y H _ se λvs H1 s1 r1=>⟨by rw[r1.len];exact aF hz.2,λp hp=>?_⟩);exact q _ _ (s1.trans (ak hp)) (r1.node hz.1 se.mu s1 hp rfl rfl)
   ·cases h
  ·cases h
 ·cases h
theorem GS{f:Ro->Option (List KD)}{n:Nat}(hf:jX X f es):SndE X (λZ=>gJ k (f Z)) (.Tuple es n pos):=by
 intro Z kd d h g Y H Q se q;dsimp only[gJ] at h;split at h
 ·rename_i kds e;split at h
  ·split at h
   ·rename_i hz;cases h;refine au (l7 cH) (hf Z kds e g Y H _ se λvs H1 s1 r1=>⟨by rw[r1.len];exact aF hz.2,λp hp=>?_⟩);exact q _ _ (s1.trans (ak hp)) (r1.tupO hz.1 se.mu s1 hp)
   ·cases h
  ·split at h
   ·rename_i hz;cases h;refine au (l7 cH) (hf Z kds e g Y H _ se λvs H1 s1 r1=>⟨by rw[r1.len];exact aF hz.2,λp hp=>?_⟩);exact q _ _ (s1.trans (ak hp)) ((GE (se.mu.same s1) hp (r1.sh hz.1 se.mu s1)).older s1)
   ·cases h
 ·cases h
noncomputable def cK:P9->Bool
 |.Slice ..=>Qb
 |_=>P8
theorem bO(h:cK b=P8):rT b:=by
 intro o i
 cases b<;>first|rfl|cases h
noncomputable def wx(z:Str)(i:Int):Option Str:=(L2.l9 z.cps.toList i).map λc=>⟨#[c]⟩
noncomputable def IX(k:Kd)(xs:List D)(i:Int):Option KD:=match jv xs.length i with|some j=>(xs[j]?).map λd=>(ou k j,d)|none=>P7
noncomputable def J1(k:Kd)(x:D)(i:Int):Option KD:=match x with
 |.nd hd xs=>(match hd with|.lst=>IX k xs i|.tup=>IX k xs i|_=>P7)
 |.scr ns=>(L2.l9 ns i).map λd=>(.sh,.int d)
 |.str z=>if z.length<=100000 then(wx z i).map λd=>(.sh,.str d) else P7
 |_=>P7
noncomputable def Di(x:D):Option (Nat×List DK×List D):=match x with
 |.nd hd xs=>(match hd with|.dic t ks=>P6 (t,ks,xs)|_=>P7)
 |_=>P7
noncomputable def qr(k:Kd)(p:Nat×List DK×List D)(y:D):Option KD:=match j0 y with
 |some q=>if iy p.1 q=P8 then(match aI p.2.1 q with|some j=>(p.2.2[j]?).map λd=>(ou k j,d)|none=>P7) else P7
 |none=>P7
noncomputable def Dj(x y:KD):Option KD:=match Di x.2 with
 |some p=>qr x.1 p y.2
 |none=>(match y.2 with|.int i=>J1 x.1 x.2 i|_=>P7)
noncomputable def sr(a b:Option KD):Option KD:=match a with
 |some x=>(match b with|some y=>Dj x y|none=>P7)
 |none=>P7
noncomputable def wy(f:Str)(a:Option KD):Option KD:=match a with
 |some (ka,.nd (.obj _ ns) xs)=>(match aN f ns with|some j=>(xs[j]?).map λd=>(ou ka j,d)|none=>P7)
 |_=>P7
theorem qt{f:Str}{v:V}:∀{ns:List Str} {us:List V} {j:Nat},aN f ns=P6 j->us[j]?=P6 v->(ns.zip us).lookup f=P6 v
 |[],_,_,h,_=>by cases h
 |_::_,[],_,_,e=>by simp at e
 |n::ns,u::us,j,h,e=>by
  unfold aN at h;rw[N2,MZ];split at h
  ·rename_i hn;cases h;rw[hn,beq_self_eq_true];simpa using e
  ·rename_i hn;obtain⟨j',hj,rfl⟩:=Pf.mp h;rw[beq_eq_false_iff_ne.mpr hn];exact qt hj (by simpa using e)
theorem GU{fa:Ro->Option KD}{f:Str}(hb:attributeBase a f X.env (eval a X.env)=eval a X.env)(ha:SndE X fa a):SndE X (λZ=>wy f (fa Z)) (.Attribute a f pos):=by
 intro Z kd d h g Y H Q se q;dsimp only[wy] at h;split at h
 ·rename_i ka c ns xs ea;split at h
  ·rename_i j hj
   cases e:xs[j]? with
   |none=>rw[e] at h;cases h
   |some d'=>
    rw[e] at h;cases h;refine au (vO av hb) (ha Z _ _ ea g Y H _ se λx H' s rx=>?_);obtain⟨p,o,us,rfl,g1,q1,l1,c1⟩:=rx.ch;obtain⟨C,dx,_,⟨cl,na⟩,rfl,_⟩:=q1;obtain⟨v,e1,e2⟩:=c1 j _ e;exact⟨p,C,dx,_,v,rfl,g1,cl,na f (Nf (aK hj)),qt hj e1,q v H' s e2⟩
  ·cases h
 ·cases h
theorem zv{α β:Type}(f:α->β)(xs:List α)(i:Int):L2.l9 (xs.map f) i=(L2.l9 xs i).map f:=by
 unfold L2.l9;rw[MB]
 cases jv xs.length i with
 |none=>rfl
 |some j=>simp
theorem wz{α β:Type}{o:Option α}{g:α->β}{b:β}(h:o.map g=P6 b):∃a,o=P6 a/\b=g a:=by
 cases o with
 |none=>cases h
 |some a=>cases h;exact⟨a,rfl,rfl⟩
theorem wB{xs:List D}{i:Int}{r:KD}(h:IX k xs i=P6 r):∃j,jv xs.length i=P6 j/\xs[j]?=P6 r.2/\r.1=ou k j:=by
 unfold IX at h
 cases e:jv xs.length i with
 |none=>rw[e] at h;cases h
 |some j=>
  rw[e] at h;obtain⟨d,e1,e2⟩:=wz h;exact⟨j,rfl,by rw[e1,e2],by rw[e2]⟩
theorem zw{p:Nat×List DK×List D}{r:KD}(h:qr k p y=P6 r):∃q j,j0 y=P6 q/\iy p.1 q=P8/\aI p.2.1 q=P6 j/\p.2.2[j]?=P6 r.2/\r.1=ou k j:=by
 unfold qr at h
 cases e:j0 y with
 |none=>rw[e] at h;cases h
 |some q=>
  rw[e] at h;by_cases hf:iy p.1 q=P8
  ·dsimp only at h;rw[if_pos hf] at h
   cases e1:aI p.2.1 q with
   |none=>rw[e1] at h;cases h
   |some j=>
    rw[e1] at h;obtain⟨d,e2,e3⟩:=wz h;exact⟨q,j,rfl,hf,e1,by rw[e2,e3],by rw[e3]⟩
  ·dsimp only at h;rw[if_neg hf] at h;cases h
theorem zx{p:Nat×List DK×List D}(h:Di x=P6 p):x=.nd (.dic p.1 p.2.1) p.2.2:=by
 cases x with
 |nd hd xs=>cases hd with
  |dic t ks=>cases h;rfl
  |_=>cases h
 |_=>cases h
theorem ss{x y r:KD}(h:Dj x y=P6 r):(∃i,y.2=.int i/\J1 x.1 x.2 i=P6 r)\/∃p,x.2=.nd (.dic p.1 p.2.1) p.2.2/\qr x.1 p y.2=P6 r:=by
 unfold Dj at h
 cases e:Di x.2 with
 |some p=>rw[e] at h;exact .inr ⟨p,zx e,h⟩
 |none=>
  rw[e] at h;obtain⟨ky,dy⟩:=y
  cases dy with
  |int i=>exact .inl ⟨i,rfl,h⟩
  |_=>cases h
theorem su{i:Int}{Q:VK}(h:J1 k dx i=P6 (kd,d))(rx:VR K g H0 H2 k dx vx)(q:∀v,VR K g H0 H2 kd d v->Q v H2):LB K vx (.int i) H2 Q:=by
 cases dx with
 |nd hd xs=>cases hd with
  |lst=>
   obtain⟨j,hj,e,rfl⟩:=wB h;obtain⟨p,o,us,rfl,g1,q1,l1,c1⟩:=rx.ch;cases(show o=_ from q1);obtain⟨v,e1,e2⟩:=c1 j _ e;exact .inl ⟨p,us,i,v,rfl,rfl,.of g1,by unfold L2.l9;rw[l1,hj];exact e1,q v e2⟩
  |tup=>
   obtain⟨j,hj,e,rfl⟩:=wB h;obtain⟨p,o,us,rfl,g1,q1,l1,c1⟩:=rx.ch;cases(show o=_ from q1);obtain⟨v,e1,e2⟩:=c1 j _ e;exact .inr (.inl ⟨p,us,i,v,rfl,rfl,.of g1,by unfold L2.l9;rw[l1,hj];exact e1,q v e2⟩)
  |_=>cases h
 |scr ns=>
  obtain⟨d',e,e'⟩:=wz (show(L2.l9 ns i).map _=P6 (kd,d) from h);cases e';obtain⟨p,rfl,g1⟩:=rx.rd.scr;exact .inl ⟨p,_,i,.int d',rfl,rfl,g1,by rw[zv,e];rfl,q _ jZ⟩
 |str z=>
  by_cases hz:z.length<=100000
  ·have h:(wx z i).map _=P6 (kd,d):=(if_pos hz).symm.trans h;unfold wx at h
   cases e:L2.l9 z.cps.toList i with
   |none=>rw[e] at h;cases h
   |some d'=>
    rw[e] at h;cases h;obtain rfl:=rx.rd.str;exact .inr (.inr ⟨z,i,d',rfl,rfl,aF hz,e,q _ zn⟩)
  ·cases(if_neg hz).symm.trans h
 |_=>cases h
theorem ox{p:Nat×List DK×List D}{Q:VK}(h:qr k p dy=P6 (kd,d))(rx:VR K g H0 H2 k (.nd (.dic p.1 p.2.1) p.2.2) vx)(ry:VR K g H0 H2 ky dy vy)(q:∀v,VR K g H0 H2 kd d v->Q v H2):∃b v,vx=.ref b/\DGet H2 b vy (P6 v)/\Q v H2:=by
 obtain⟨qq,j,h1,h2,h3,h4,rfl⟩:=zw h;obtain⟨b,o,us,rfl,g1,q1,l1,c1⟩:=rx.ch;obtain⟨v,e1,e2⟩:=c1 j _ h4;have dg:=sj g1 q1 h1 ry.rd h2;rw[h3,Nm,e1] at dg;exact⟨b,v,rfl,dg,q v e2⟩
theorem J2(O:ao X U c){fa fb:Ro->Option KD}{a b:P9}{pos:Pos}(ha:SndE X fa a)(hb:SndE X fb b)(hp:cK b=P8):SndE X (λZ=>sr (fa Z) (fb Z)) (.Subscript a b pos):=by
 intro Z kd d h g Y H Q se q;dsimp only[sr] at h
 cases ea:fa Z with
 |none=>rw[ea] at h;cases h
 |some x=>cases eb:fb Z with
  |none=>rw[ea,eb] at h;cases h
  |some y=>
   rw[ea,eb] at h;obtain⟨kx,dx⟩:=x;obtain⟨ky,dy⟩:=y;rcases ss h with⟨i,e,hh⟩|⟨p,e,hh⟩
   ·cases(show dy=_ from e);refine au (rU mf av av (bO hp)) (two ha hb ea eb se λvx vy H' s rx ry=>?_);obtain rfl:=ry.rd.int;exact su hh rx λv r=>q v H' s r
   ·cases(show dx=_ from e);exact au (mj (by have:=O.tab.units;lia) av av (bO hp)) (two ha hb ea eb se λvx vy H' s rx ry=>ox hh rx ry λv r=>q v H' s r)
noncomputable def d7(xs:List D)(lo hi:Option Int):List D:=(xs.drop (HT.ji xs.length 0 lo)).take (HT.ji xs.length xs.length hi-HT.ji xs.length 0 lo)
theorem RpL.cut(h:RpL K H S ds vs)(lo hi:Option Int):RpL K H S (d7 ds lo hi) (uB vs lo hi):=by
 unfold d7 uB;rw[h.len];exact(h.drop _).take _
noncomputable def wO(X:Cx)(e:Option P9):TO:=λY H Q=>∃t,PO X e t/\t Y H Q
theorem zy:PO X e (wO X e):=λpins s Y H Q I h=>let ⟨t,p,q⟩:=h;p pins s Y H Q I q
noncomputable def wC(X:Cx)(f:Ro->Option (Option Int))(e:Option P9):Prop:=∀Z o,f Z=P6 o->∀g Y H Q,SE X.K g Z Y H->(∀H',Same H H'->Q o H')->wO X e Y H Q
noncomputable def zA(a:Option KD):Option (Option Int):=match a with|some (_,.int i)=>P6 (P6 i)|_=>P7
theorem Dk:wC X (λ_=>P6 P7) P7:=λZ o h g Y H Q se q=>by cases h;exact⟨_,za,q H (Same.refl H)⟩
theorem Dl{f:Ro->Option KD}(hf:SndE X f e):wC X (λZ=>zA (f Z)) (P6 e):=λZ o h g Y H Q se q=>by
 dsimp only[zA] at h;split at h
 ·rename_i k i ea;cases h;exact⟨_,zb av,hf Z _ _ ea g Y H _ se λv H' s r=>⟨i,r.rd.int,q H' s⟩⟩
 ·cases h
noncomputable def FI(a:Option KD)(lo hi:Option (Option Int)):Option KD:=match a,lo,hi with
 |some (ka,.nd .lst xs),P6 l,P6 u=>if i3 ka xs=P8 then P6 (.fr bj,.lst (d7 xs l u)) else P7
 |some (_,.scr ns),P6 l,P6 u=>P6 (.fr bj,.lst (d7 (ns.map .int) l u))
 |_,_,_=>P7
theorem J3{fa:Ro->Option KD}{fl fh:Ro->Option (Option Int)}(ha:SndE X fa a)(hl:wC X fl lo)(hh:wC X fh hi):SndE X (λZ=>FI (fa Z) (fl Z) (fh Z)) (.Subscript a (.Slice lo hi P7 p2) pos):=by
 intro Z kd d h g Y H Q se q;dsimp only[FI] at h;split at h
 ·rename_i ka xs l u ea el eu;split at h
  ·rename_i hk;cases h;refine au (nV rV av zy zy) (ha Z _ _ ea g Y H _ se λx H1 s1 rx=>hl Z _ el g Y H1 _ (se.same s1) λH2 s2=>hh Z _ eu g Y H2 _ ((se.same s1).same s2) λH3 s3=>?_);obtain⟨p,o,us,rfl,g1,q1,r⟩:=((rx.same s2).same s3).items hk se.mu ((s1.trans s2).trans s3);cases(show o=_ from q1);exact⟨p,us,rfl,.of g1,λp' hp'=>q _ _ (((s1.trans s2).trans s3).trans (ak hp')) ((ql hp' (r.cut l u)).older ((s1.trans s2).trans s3))⟩
  ·cases h
 ·rename_i ka ns l u ea el eu;cases h;refine au (nV rV av zy zy) (ha Z _ _ ea g Y H _ se λx H1 s1 rx=>hl Z _ el g Y H1 _ (se.same s1) λH2 s2=>hh Z _ eu g Y H2 _ ((se.same s1).same s2) λH3 s3=>?_);obtain⟨p,rfl,g1⟩:=((rx.same s2).same s3).rd.scr;exact⟨p,_,rfl,g1,λp' hp'=>q _ _ (((s1.trans s2).trans s3).trans (ak hp')) ((ql hp' ((RpL.ints ns).cut l u)).older ((s1.trans s2).trans s3))⟩
 ·cases h
end
end J
namespace J
open PySem PySem.Spec L2
section
variable {X:Cx} {pins:List (Qc×Obj)} {Y:L2.St} {H:Hp} {s:Qd} {S:Pr}
end
end J
namespace G
open PySem PySem.Spec PyProof.Rows L2
section
variable {X:Cx}
end
end G
namespace G
open PySem PySem.Spec PyProof.Rows L2
section
variable {prog:Qi} {w:Qj} {A:Qk} {E:Qa->Qd->Prop} {s:Qd}
end
section
variable {prog:Qi} {w:Qj} {A:Qk} {R:Result->Qd->Prop} {J:Qc} {fp wr:List Qc} {GG:Array GenState->Array GenState->Prop} {n:Nat} {P:Nat->Qa->Prop} {St:Nat->Qd->Prop}
end
section
variable {prog:Qi} {w:Qj} {A:Qk} {E:Qa->Qd->Prop} {s:Qd}
end
end G
namespace G
open PySem PySem.Spec PyProof.Rows L2
section
variable {prog:Qi} {w:Qj} {A:Qk} {E:Qa->Qd->Prop} {s:Qd}
end
section
variable {prog:Qi} {w:Qj}
end
section
variable {prog:Qi} {w:Qj} {A:Qk} {E:Qa->Qd->Prop} {s:Qd}
end
end G
namespace G
open PySem PySem.Spec PyProof.Rows L2
noncomputable def GV(x:Int):List Int->List Int
 |[]=>[x]
 |y::ys=>if x<y then x::y::ys else if x=y then y::ys else y::GV x ys
noncomputable def GW(xs:List Int):List Int:=xs.foldr GV []
section
variable {prog:Qi} {w:Qj} {A:Qk} {E:Qa->Qd->Prop} {s:Qd}
end
section
variable {X:Cx}
end
end G
namespace G
open PySem PySem.Spec PyProof.Rows L2
theorem qu:typeLookup (.type "list_reverseiterator") "__len__" = pure P7:=by rw[typeLookup_type,builtinLookup_eq_fast];kernel_rfl
theorem wD:typeLookup (.type "list_reverseiterator") "__length_hint__" = pure (P6 (.builtin "list_reverseiterator.__length_hint__")):=by rw[typeLookup_type,builtinLookup_eq_fast];kernel_rfl
section
variable {prog:Qi} {w:Qj} {A:Qk} {E:Qa->Qd->Prop} {s:Qd} {R:Result->Qd->Prop}
theorem qw{items:Array Qa}{c₀:Nat}(hh:A.handled=P7)(hne:l≠it)(hSi:S≠it)(hSl:S≠l)(hst:s.heap.IsRevIter it l ((items.size:Int)-1)/\s.heap.IsList l items)(hS:s.heap.get? S=P6 { cls:=.type "list",data:=.seq #[] c₀ })(hsz:items.size<=100000)(hR:∀s' acc' c',Moved [S,it] (λa b=>b=a) s s'->s'.heap.get? S=P6 { cls:=.type "list",dict:=P7,data:=.seq acc' c',slots:=#[] }->ItemsOf (λi v=>items[items.size-1-i]?=P6 v) acc' items.size->R (.ok (.ret .none)) s') :
  Qf (Qg prog w) A.in1 (Builtin.List.listExtendWith (.ref S) (.ref it) .none)
   (λfin s'=>match fin with|.done f=>R (.ok f) s'|.again c'=>c'.quiet=P8/\codeAny (Qg prog w) A c' R s') (λe s'=>R (.error e) s') s:=by
 have W:=(Walks.listRev (prog:=prog) (w:=w) (A:=A.in1) (by simpa using hh) it l hne items).toS;have hT:s.TypeIs (.ref it) "list_reverseiterator":=hst.1.typeIs;unfold Builtin.List.listExtendWith;refine Qe (wpAny_typeOf hT ?_);have h1:Builtin.List.listSameRef (.ref S) (.ref it)=Qb:=by simp[Builtin.List.listSameRef,hSi]
 have h2:(Value.type "list_reverseiterator" == Value.type "list")=Qb:=by decide
 have h3:(Value.type "list_reverseiterator" == Value.type "tuple")=Qb:=by decide
 simp only[h1,h2,h3,Ps,Nr,if_false];refine Qe (wpAny_pyIter_revIter hst.1 ?_);refine Qe (Qx ?_);unfold Builtin.List.listLengthHint;refine Qe (wpAny_specialOf hT qu ?_);show Qf _ A.in1 (specialOf (Value.ref it) (Str.ofString "__length_hint__") >>= _) _ _ _;refine Qe (wpAny_specialOf hT wD ?_)
 wp_delta
 refine Qe (wpAny_isInstance (T:="list_reverseiterator") (v:=.ref it) (b:=P8) hT (by rw[isSubtype_type];kernel_rfl) ?_);refine Qh ?_;rw[if_neg (by decide)];refine Qh ⟨plainId_quiet PySem.F.plain_extend_loop _,codeAny_extend_loopS W (by rw[sizeLine_eq];lia) _ (by simp[hSi,hSl]) _ items.size 0 _ _ _ rfl (M4 _) ⟨M4 _,by simpa using hst.1,hst.2⟩ hS (ItemsOf.nil _) λs' acc' c' hm hS' hacc=>hR s' acc' c' hm hS' hacc⟩
theorem k5{it l:Qc}{items:Array Qa}{Q:Qa->Qd->Prop}(hh:A.handled=P7)(hne:l≠it)(hst:s.heap.IsRevIter it l ((items.size:Int)-1)/\s.heap.IsList l items)(hsz:items.size<=100000)
  (hQ:∀h' tk acc' c',(∀b o,b≠it->s.heap.get? b=P6 o->h'.get? b=P6 o)->h'.get? s.heap.objs.size=P6 { cls:=.type "list",dict:=P7,data:=.seq acc' c',slots:=#[] }->acc'.toList=items.toList.reverse->Q (.ref s.heap.objs.size) { s with heap:=h',toks:=tk }) :
  Qf (Qg prog w) A (call (.type "list") [.ref it]) Q E s:=by
 refine callType_codes (Q₁:=λobj s₁=>obj=.ref s.heap.objs.size/\s₁={ s with heap:=s.heap.push { cls:=.type "list",data:=.seq #[] } }) PySem.F.called_list (PySem.F.typeCall_list_1 _) PySem.F.entry_list_init
  (code_list_new _ ⟨rfl,rfl⟩) λobj s₁ h₁=>?_
 obtain⟨rfl,rfl⟩:=h₁;have hS:(s.heap.push { cls:=.type "list",data:=.seq #[] }).get? s.heap.objs.size=P6 { cls:=.type "list",data:=.seq #[] }:=MP _ rfl;obtain⟨oi,hoi,ri⟩:=id hst.1;obtain⟨ol,hol,rl⟩:=id hst.2;have lti:it<s.heap.objs.size:=MD hoi;have ltl:l<s.heap.objs.size:=MD hol;refine⟨⟨_,hS,rfl⟩,PySem.F.args_list_init_2 _ _,?_⟩;show Qf _ A.in1.in1 (do let old <- Builtin.List.listItems (.ref s.heap.objs.size);Builtin.List.listUpdate (.ref s.heap.objs.size) (λ_=>#[]);letGo old.toList.reverse;Builtin.List.listExtendWith (.ref s.heap.objs.size) (.ref it) .none) _ _ _;refine Qe ?_;unfold Builtin.List.listItems;refine Qe (wpAny_seqItems hS rfl (Qh ?_));show Qf _ A.in1.in1 (updateSeq s.heap.objs.size (λ_=>#[]) >>= λ_=>letGo (#[]:Array Qa).toList.reverse >>= λ_=>Builtin.List.listExtendWith (.ref s.heap.objs.size) (.ref it) .none) _ _ _;refine Qe (wpAny_updateSeq hS rfl ?_);have hS₂:=Pj (Obj.mapSeq (λ_=>(#[]:Array Qa))) hS rfl
 have oth:∀b o,b≠s.heap.objs.size->s.heap.get? b=P6 o->((s.heap.push { cls:=.type "list",data:=.seq #[] }).update s.heap.objs.size (Obj.mapSeq (λ_=>(#[]:Array Qa)))).get? b=P6 o:=
  λb o hb e=>(Ol _ _ (Ne.symm hb)).trans (MC _ e)
 refine Qe (wpAny_letGo ?_);refine qw (A:=A.in1) (items:=items) (by simpa using hh) hne (NP lti) (NP ltl) ⟨⟨oi,oth _ _ (MM lti) hoi,ri⟩,⟨ol,oth _ _ (MM ltl) hol,rl⟩⟩ hS₂ hsz λs' acc' c' hm hS' hacc=>?_;obtain⟨h',g',d',tk',os'⟩:=s';obtain rfl:g'=s.gens:=hm.gens;obtain rfl:d'=s.drawn:=hm.drawn;obtain rfl:os'=s.os:=hm.os;refine⟨rfl,hQ h' tk' acc' c' (λb o hb e=>hm.heap b o (by simp only[ML,Nb,or_false,not_or];exact⟨MM (MD e),hb⟩) (oth b o (MM (MD e)) e)) hS' ?_⟩;refine Oj λi=>?_;have el:acc'.toList.length=items.size:=by rw[NY,hacc.1]
 rcases Nat.lt_or_ge i items.size with g|g
 ·have hi:i<acc'.size:=by rw[hacc.1];exact g
  have:=hacc.2 i acc'[i] (OU hi);rw[List.getElem?_reverse (by simpa using g),Pm,Pm,OU hi,NY,this]
 ·rw[Nd (by lia),Nd (by simpa using g)]
end
section
variable {X:Cx}
noncomputable def GX(X:Cx)(ta:TA):TE:=λY H Q=>ta Y H λvs H1=>∃l xs,vs=[.ref l]/\SqL X.K H1 l xs/\xs.length<=100000/\∀p,H1 p=P7->Q (.ref p) (upd H1 p (.lst xs.reverse))
theorem oy:∀{xs:List V} {vs:List Qa},Vals xs vs->Vals xs.reverse vs.reverse
 |_,_,.nil=>.nil
 |_,_,.cons h t=>by
  rw[PQ,PQ];exact(oy t).append (.cons h .nil)
theorem zB{a:P9}(hc:X.calm=P8)(hg:Gl X "list")(hm:X.mg "list" = P7)(hg2:Gl X "reversed")(hm2:X.mg "reversed" = P7)(ha:PA X [a] ta)(hs:Qm [a] X.env=[(Qb,eval a X.env)])(hs2:Qm [.Call (.Name "reversed" p2) [a] [] pos2] X.env=[(Qb,eval (.Call (.Name "reversed" p2) [a] [] pos2) X.env)]:=by rfl) :
  PE X (.Call (.Name "list" p) [.Call (.Name "reversed" p2) [a] [] pos2] [] pos) (GX X ta):=by
 intro pins s Y H Q I h;refine Call_ (c0 I hg hm boot_list (PyProof.Rows.callWith_type1 ?_ hs2 rfl));rw[hs2];refine Calls.spliced_cons ?_;refine Call_ (c0 I hg2 hm2 PyProof.Rows.boot_reversed (PyProof.Rows.callWith_type1 (aV (ha pos2 pins s Y H _ I h) λus s1 ⟨vs,H1,I1,r1,l,xs,e,hq,hz,q⟩=>?_) hs rfl));subst e;obtain⟨u,rfl,ru⟩:=r1.one;cases ru;obtain⟨its,rv,pl,_⟩:=I1.list hq;have hlen:its.length=xs.length:=rv.length.symm;have hh:X.A.handled=P7:=I1.ok.hd hc;have hil:=pl.isList;have lt:l<s1.heap.objs.size:=by obtain⟨o,ho,_⟩:=id hil;exact MD ho
 refine call_reversed_list hil (Calls.spliced_nil ?_);have sz:(s1.heap.push (revObj l ((its.toArray.size:Int)-1))).objs.size=s1.heap.objs.size+1:=NC ..;refine k5 (s:={ s1 with heap:=s1.heap.push (revObj l ((its.toArray.size:Int)-1)) }) hh (MM lt) ⟨⟨_,MP _ rfl,rfl,rfl⟩,hil.push _⟩ (by rw[MQ,hlen];exact hz) λh' tk acc' c' kp new eacc=>?_;have hle:s1.heap.objs.size<=(s1.heap.push (revObj l ((its.toArray.size:Int)-1))).objs.size:=by rw[sz];exact Oa _
 have ok:ObjOk X.prog X.w (upd H1 (s1.heap.push (revObj l ((its.toArray.size:Int)-1))).objs.size (.lst xs.reverse)) h' (s1.heap.push (revObj l ((its.toArray.size:Int)-1))).objs.size (.lst xs.reverse):=
  ⟨by rw[List.length_reverse,sizeLine_eq];lia,acc'.toList,c',by rw[eacc];exact oy rv,by simpa using new⟩
 exact⟨.ref (s1.heap.push (revObj l ((its.toArray.size:Int)-1))).objs.size,_,I1.laid (t':=tk) (λb o e=>kp b o (MM (MD e)) (MC _ e)) hle ok,rfl,q _ (I1.hok.fresh hle)⟩
end
end G
namespace G
open PySem PySem.Spec PyProof.Rows L2
section
variable {X:Cx}
end
end G
namespace J
open PySem PySem.Spec L2
section
variable {X:Cx}
theorem k6(hc:X.calm=P8):eN X (.builtin "all") (λxs H Q=>∃(p:Qc) (bs:List Bool),xs=[.ref p]/\SqL X.K H p (bs.map V.bl)/\Q (.bl (bs.all id)) H):=by
 intro pins s Y H xs us Q I r h;obtain⟨p,bs,rfl,hq,q⟩:=h;obtain⟨u,rfl,rx⟩:=jO r;cases rx;obtain⟨its,rv,pl,hz⟩:=I.list hq;have hlen:=rv.length;have hh:X.A.in1.handled=P7:=I.ok.hd hc
 have hnz:p≠s.heap.objs.size:=by
  obtain⟨o,n,e,_⟩:=pl;exact MM (MD e)
 refine call_all_walk (QA pl.isList ?_)
 have hp:(s.heap.push { cls:=.type "list_iterator",data:=.fields #[.ref p,.int 0 0] }).IsList p its.toArray:=by
  obtain⟨o,e,r⟩:=pl.isList;exact⟨o,MC _ e,r⟩
 refine⟨s.heap.objs.size,_,_,_,_,_,λi=>(bs[i]?).getD Qb,rfl,Walks.list hh s.heap.objs.size p hnz its.toArray,⟨⟨_,MP _ rfl,rfl,rfl⟩,hp⟩,λi v s' Q' E' hP hQ=>?_,λh' tk hk=>?_⟩
 ·have hP':its[i]?=P6 v:=by simpa using hP
  cases hb:bs[i]? with
  |none=>
   have h1:(bs.map V.bl)[i]?=P7:=by rw[MF,hb];rfl
   rw[rv.none_of h1] at hP';cases hP'
  |some b=>
   have h1:(bs.map V.bl)[i]?=P6 (.bl b):=by rw[MF,hb];rfl
   obtain⟨u,e1,e2⟩:=rv.get h1;rw[hP'] at e1;cases e1;cases e2;simp only[hb,PX] at hQ;exact Qz hQ
 ·have e:((Np its.toArray.size).all λi=>(bs[i]?).getD Qb)=bs.all id:=by
   have hl:its.toArray.size=bs.length:=by rw[MQ,<- hlen,MB]
   rw[hl,Bool.eq_iff_iff];simp only[NW,Oy,id];constructor
   ·intro h x hx;obtain⟨i,hi,rfl⟩:=List.mem_iff_getElem.mp hx;have:=h i hi;rw[MK hi] at this;exact this
   ·intro h i hi;rw[MK hi];exact h _ (PZ hi)
  rw[e];refine⟨.bl (bs.all id),H,I.kept λb o q'=>hk b o (λz=>?_) (MC _ q'),rfl,q⟩;have:b=s.heap.objs.size:=by simpa using z
  exact absurd (this▸MD q') (Ng _)
theorem oz:eN X (.builtin "isinstance") (λxs H Q=>∃x T t b,xs=[x,.ty T]/\gx X.K H x t/\ND X.K t (.type T)=P6 b/\Q (.bl b) H):=by
 intro pins s Y H xs us Q I r h;obtain⟨x,T,t,b,rfl,ty,e,q⟩:=h;obtain⟨u,w',rfl,r1,r2⟩:=vM r;cases r2;exact uy I r1 ty e λtk=>⟨.bl b,H,I.tok _,rfl,q⟩
theorem uP:eN X (.type "int") (λxs H Q=>∃b:Bool,xs=[.bl b]/\Q (.int (if b then 1 else 0)) H):=by
 intro pins s Y H xs us Q I r h;obtain⟨b,rfl,q⟩:=h;obtain⟨u,rfl,rx⟩:=jO r;cases rx;exact call_int_bool ⟨.int _,H,I.tok _,⟨_,rfl⟩,q⟩
end
noncomputable def zC:D->Option Nat
 |.nd .lst ds=>P6 ds.length
 |.nd .tup ds=>P6 ds.length
 |.scr ns=>P6 ns.length
 |_=>P7
noncomputable def cL:List D->Option (List Bool)
 |[]=>P6 []
 |.bl b::r=>(cL r).map (b::·)
 |_=>P7
theorem j5:∀{ds:List D} {bs:List Bool},cL ds=P6 bs->ds=bs.map D.bl
 |[],bs,h=>by cases h;rfl
 |d::r,bs,h=>by
  cases d<;>simp only[cL] at h<;>try cases h
  rename_i b
  cases e:cL r with
  |none=>rw[e] at h;cases h
  |some cs=>rw[e] at h;cases h;rw[j5 e];rfl
theorem i4:∀ns:List Bool,cL (ns.map D.bl)=P6 ns
 |[]=>rfl
 |n::ns=>by simp[cL,i4 ns]
theorem RpL.bools:∀{bs:List Bool} {vs:List V},RpL K H S (bs.map D.bl) vs->vs=bs.map V.bl
 |[],_,h=>h.nil_inv
 |b::bs,_,h=>by
  obtain⟨y,ys,rfl,r,t⟩:=h.cons_inv;rw[r.bl,RpL.bools t];rfl
noncomputable def wF(kds:List KD):Option KD:=match kds with|[(_,d)]=>(zC d).map λn=>(.sh,.int n)|_=>P7
noncomputable def Dm(kds:List KD):Option KD:=match kds with|[(_,.nd .lst ds)]=>(cL ds).map λbs=>(.sh,.bl (bs.all id))|_=>P7
noncomputable def wH(kds:List KD):Option KD:=match kds with
 |[(k,.nd .lst ds)]=>if i3 k ds=P8 then P6 (.fr bj,.lst ds) else P7
 |[(k,.nd .tup ds)]=>if i3 k ds=P8 then P6 (.fr bj,.lst ds) else P7
 |[(_,.scr ns)]=>P6 (.fr bj,.lst (ns.map D.int))
 |_=>P7
noncomputable def L5(kds:List KD):Option KD:=match kds with|[(_,.int i)]=>if i.natAbs.log2<1920 then P6 (.sh,.str (toString i)) else P7|_=>P7
noncomputable def Do(kds:List KD):Option KD:=match kds with|[(_,.nd .lst ds)]=>(toInts ds).map λns=>(.sh,.int ns.sum)|[(_,.scr ns)]=>P6 (.sh,.int ns.sum)|_=>P7
noncomputable def Dp(kds:List KD):Option KD:=match kds with
 |[(_,.int i),(_,.int j)]=>P6 (.sh,.int (if j<i then j else i))
 |_=>P7
noncomputable def Dq(kds:List KD):Option KD:=match kds with
 |[(_,.int i),(_,.int j)]=>P6 (.sh,.int (if j > i then j else i))
 |_=>P7
noncomputable def L6(a b:Option KD):Option KD:=match a,b with
 |some (_,.nd .lst ds),P6 (_,.int k)=>(match toInts ds with|some ns=>(match ns.findIdx? (·==k) with|some j=>P6 (.sh,.int j)|none=>P7)|none=>P7)
 |_,_=>P7
noncomputable def Dr(kds:List KD):Option KD:=match kds with|[(_,.bl b)]=>P6 (.sh,.int (if b then 1 else 0))|_=>P7
noncomputable def zD:aw->D
 |.inl i=>.int i
 |.inr x=>.str x
noncomputable def LF:D->Option aw
 |.int z=>P6 (.inl z)
 |.str x=>P6 (.inr x)
 |_=>P7
theorem Ds:∀{d:D} {k:aw},LF d=P6 k->d=zD k
 |.int _,_,h=>by cases h;rfl
 |.str _,_,h=>by cases h;rfl
 |.non,_,h=>by cases h
 |.bl _,_,h=>by cases h
 |.scr _,_,h=>by cases h
 |.nd _ _,_,h=>by cases h
theorem zE:∀{k:aw} {v:V},Rp K H S (zD k) v->v=kV k
 |.inl _,_,h=>h.int
 |.inr _,_,h=>h.str
noncomputable def fj:List D->Option (List (aw×D))
 |[]=>P6 []
 |d::r=>match d with
  |.nd .tup ds=>(match ds with
   |[a,x]=>(match LF a with|some z=>(fj r).map ((z,x)::·)|none=>P7)
   |_=>P7)
  |_=>P7
theorem j6:∀{ds:List D} {ps:List (aw×D)},fj ds=P6 ps->ds=ps.map λp=>D.tup [zD p.1,p.2]
 |[],ps,h=>by cases h;rfl
 |d::r,ps,h=>by
  unfold fj at h;split at h
  ·split at h
   ·split at h
    ·rename_i hz
     obtain⟨qs,hq,rfl⟩:∃qs,fj r=P6 qs/\ps=_::qs:=by
      cases e:fj r with
      |none=>rw[e] at h;cases h
      |some qs=>rw[e] at h;cases h;exact⟨qs,rfl,rfl⟩
     rw[j6 hq,Ds hz];rfl
    ·cases h
   ·cases h
  ·cases h
noncomputable def GY(ps:List (aw×D)):D:=.nd (.dic 0 (ps.map λp=>Sum.inl p.1)) (ps.map (·.2))
noncomputable def wJ(kds:List KD):Option KD:=match kds with
 |[(k,.nd .lst ds)]=>if i3 k ds=P8 then(match fj ds with|some ps=>if(ps.map (·.1)).Nodup/\ps.length<=100000 then P6 (.fr bj,GY ps) else P7|none=>P7) else P7
 |_=>P7
theorem Bt{H:Hp}{hd:Hd}(hm:hd.mu=P8)(ho:du K o hd xs)(hp:H p=P7)(r:RpL K H (Sg g) ds xs):VR K g H (upd H p o) (.fr bj) (.nd hd ds) (.ref p):=by
 refine⟨λb=>b=p,λb z=>z▸hp,?_⟩;show Tr K _ _ _ _ _ _;unfold Tr;refine⟨p,_,xs,λ_=>False,rfl,ai,ho,λ_ z=>z,(λh=>by rw[hm] at h;cases h),λb=>⟨λz=>.inl ⟨hm,z⟩,λz=>z.elim (λz=>z.2) λz=>z.elim⟩,.ofFz (r.go λb o n e=>⟨ak hp b o e,λz=>z.elim n λz=>?_⟩)⟩;subst z;rw[hp] at e;cases e
theorem oA:∀{ps:List (aw×D)} {us:List V},RpL K H S (ps.map λp=>D.tup [zD p.1,p.2]) us->∃qs:List (aw×V),qs.map (·.1)=ps.map (·.1)/\RpL K H S (ps.map (·.2)) (qs.map (·.2))/\us.length=qs.length/\∀(i:Nat) (z:aw) (x:V),qs[i]?=P6 (z,x)->∃a,us[i]?=P6 (V.ref a)/\SqT K H a [kV z,x]
 |[],us,h=>by
  have:us=[]:=O2.mp (by rw[h.len];rfl);subst this;exact⟨[],rfl,.nil,rfl,λi z x e=>by simp at e⟩
 |p::ps,us,h=>by
  rw[MU] at h;unfold RpL at h;obtain⟨y,ys,rfl,h1,h2⟩:=h;obtain⟨a,o,xs,rfl,n1,q1,q2,q3⟩:=h1.nd;cases(show o=_ from q2);unfold RpL at q3;obtain⟨b,bs,rfl,c1,c2⟩:=q3;unfold RpL at c2;obtain⟨b2,bs2,rfl,c3,c4⟩:=c2;unfold RpL at c4;subst c4;obtain rfl:=zE c1;obtain⟨qs,e1,e2,e3,e4⟩:=oA h2;refine⟨(p.1,b2)::qs,by simp[e1],.cons c3 e2,by simp[e3],λi z x e=>?_⟩
  cases i with
  |zero=>cases e;exact⟨a,rfl,.of q1⟩
  |succ i=>
   obtain⟨a',f1,f2⟩:=e4 i z x (by simpa using e);exact⟨a',by simpa using f1,f2⟩
theorem gK:∀{qs:List (aw×V)} {acc:List (aw×V)},(∀p∈qs,∀kv∈acc,kv.1≠p.1)->(qs.map (·.1)).Nodup->qs.foldl (λm p=>bv m p.1 p.2) acc=acc++qs
 |[],acc,_,_=>by simp
 |q::qs,acc,h,hn=>by
  rw[MU,M3] at hn
  have e:bv acc q.1 q.2=acc++[q]:=by
   unfold bv;rw[if_neg];intro z;obtain⟨kv,hk,e⟩:=P0.mp z;exact h q M1 kv hk (by simpa using e)
  rw[Pa,e,gK (λp hp kv hk=>?_) hn.2]
  ·simp
  ·rcases NR.mp hk with hk|hk
   ·exact h p (MS _ hp) kv hk
   ·rw[Nt.mp hk];intro z;have:q.1=p.1:=by simpa using z
    exact hn.1 (this▸M2.mpr ⟨p,hp,rfl⟩)
noncomputable def eK(x:Str):List KD->Option KD:=
 if x="len" then wF else if x="all" then Dm else if x="any" then(λ_=>P7) else if x="list" then wH else if x="tuple" then(λ_=>P7) else if x="str" then(λ_=>P7) else if x="sum" then Do
 else if x="min" then Dp else if x="max" then Dq else if x="abs" then(λ_=>P7) else if x="int" then Dr else if x="dict" then wJ else if x="repr" then(λ_=>P7) else λ_=>P7
noncomputable def qx(x:Str)(a:Option (List KD)):Option KD:=match a with|some kds=>eK x kds|none=>P7
noncomputable def LG(X:Cx)(kds:List KD)(kd:Kd)(d:D)(Q:VK)(vs:List V)(H1:Hp):Prop:=∃g H0,MuOk H0 (Sg g)/\Same H0 H1/\VRs X.K g H0 H1 kds vs/\∀v H',Same H1 H'->VR X.K g H0 H' kd d v->Q v H'
noncomputable def StrictOk(X:Cx)(f:List KD->Option KD)(es:List P9)(node:P9):Prop:=∀kds kd d,f kds=P6 (kd,d)->∀Y H Q,wA X es Y H (LG X kds kd d Q)->wE X node Y H Q
theorem bh{H:Hp}{Q Q':List V->Hp->Prop}(h:wA X es Y H Q)(k:∀vs H,Q vs H->Q' vs H):wA X es Y H Q':=λpos pins s I=>aV (h pos pins s I) λus s' ⟨vs,H',I',r,q⟩=>⟨vs,H',I',r,k vs H' q⟩
theorem dB{H:Hp}{Q Q':VK}(h:wE X e Y H Q)(k:∀v H,Q v H->Q' v H):wE X e Y H Q':=λpins s I=>aV (h pins s I) λu s' ⟨v,H',I',r,q⟩=>⟨v,H',I',r,k v H' q⟩
theorem StrictOk.snd{fa:Ro->Option (List KD)}(h:StrictOk X f es node)(ha:jX X fa es):SndE X (λZ=>(fa Z).bind f) node:=by
 intro Z kd d hd g Y H Q se q;dsimp only at hd
 cases e:fa Z with
 |none=>rw[e] at hd;cases hd
 |some kds=>
  rw[e] at hd;exact h kds kd d hd Y H Q (ha Z kds e g Y H _ se λvs H1 s1 r1=>⟨g,H,se.mu,s1,r1,λv H' s r=>q v H' (s1.trans s) r⟩)
noncomputable def dR(X:Cx)(x:Str)(f:List KD->Option KD):Prop:=∀(e:P9) (es:List P9) (p pos:Pos),Gl X x->ah e=P8->es.all ah=P8->StrictOk X f (e::es) (.Call (.Name x p) (e::es) [] pos)
section
variable {X:Cx} {U:eQ} {c:Cz}
theorem GZ(O:ao X U c):dR X "len" wF:=by
 intro e es p pos hg n1 n2 kds kd d h Y H Q hA;unfold wF at h;split at h
 ·rename_i ka da
  cases hl:zC da with
  |none=>rw[hl] at h;cases h
  |some n=>
   rw[hl] at h;cases h;refine au (c5 (mi) hg (O.tab.bl _ (by simp[ax])) PySem.boot_len cH (by decide) (by decide) (ag n1) (aU n2)) (bh hA λvs H1 ⟨g,H0,m,s1,r1,q⟩=>?_);obtain⟨v,rfl,r⟩:=r1.one;have t:=r.rd
   cases da with
   |scr ns=>
    obtain⟨a,rfl,g1⟩:=t.scr;cases hl;exact⟨a,_,rfl,.inl g1,q _ H1 (Same.refl H1) (by rw[MB];exact jZ)⟩
   |nd hd ds=>
    obtain⟨a,o,us,rfl,_,g1,q1,rr⟩:=t.nd
    cases hd with
    |lst=>cases hl;cases(show o=_ from q1);exact⟨a,us,rfl,.inl (.of g1),q _ H1 (Same.refl H1) (by rw[rr.len];exact jZ)⟩
    |tup=>cases hl;cases(show o=_ from q1);exact⟨a,us,rfl,.inr (.of g1),q _ H1 (Same.refl H1) (by rw[rr.len];exact jZ)⟩
    |dic tt ks=>cases hl
    |obj c ns=>cases hl
   |_=>cases hl
 ·cases h
theorem G0(O:ao X U c):dR X "all" Dm:=by
 intro e es p pos hg n1 n2 kds kd d h Y H Q hA;unfold Dm at h;split at h
 ·rename_i ka ds
  cases hl:cL ds with
  |none=>rw[hl] at h;cases h
  |some bs=>
   rw[hl] at h;cases h;refine au (c5 (k6 O.calm) hg (O.tab.bl _ (by simp[ax])) PyProof.Rows.boot_all cH (by decide) (by decide) (ag n1) (aU n2)) (bh hA λvs H1 ⟨g,H0,m,s1,r1,q⟩=>?_);obtain⟨v,rfl,r⟩:=r1.one;obtain⟨a,o,us,rfl,_,g1,q1,rr⟩:=r.rd.nd;cases(show o=_ from q1);rw[j5 hl] at rr;exact⟨a,bs,rfl,.of (by rw[g1,rr.bools]),q _ H1 (Same.refl H1) Bq⟩
 ·cases h
theorem Dt(O:ao X U c):dR X "list" wH:=by
 intro e es p pos hg n1 n2 kds kd d h Y H Q hA;unfold wH at h;split at h
 ·rename_i ka ds;split at h
  ·rename_i hk;cases h;refine au (dN d4 hg (O.tab.bl _ (by simp[ax])) PyProof.Rows.boot_list cH (by decide) (by decide) (ag n1) (aU n2)) (bh hA λvs H1 ⟨g,H0,m,s1,r1,q⟩=>?_);obtain⟨v,rfl,r⟩:=r1.one;obtain⟨a,o,us,rfl,g1,q1,rr⟩:=r.items hk m s1;cases(show o=_ from q1);exact⟨a,us,rfl,.inl (.of g1),λl hl=>q _ _ (ak hl) ((ql hl rr).older s1)⟩
  ·cases h
 ·rename_i ka ds;split at h
  ·rename_i hk;cases h;refine au (dN d4 hg (O.tab.bl _ (by simp[ax])) PyProof.Rows.boot_list cH (by decide) (by decide) (ag n1) (aU n2)) (bh hA λvs H1 ⟨g,H0,m,s1,r1,q⟩=>?_);obtain⟨v,rfl,r⟩:=r1.one;obtain⟨a,o,us,rfl,g1,q1,rr⟩:=r.items hk m s1;cases(show o=_ from q1);exact⟨a,us,rfl,.inr (.of g1),λl hl=>q _ _ (ak hl) ((ql hl rr).older s1)⟩
  ·cases h
 ·rename_i ka ns;cases h;refine au (dN d4 hg (O.tab.bl _ (by simp[ax])) PyProof.Rows.boot_list cH (by decide) (by decide) (ag n1) (aU n2)) (bh hA λvs H1 ⟨g,H0,m,s1,r1,q⟩=>?_);obtain⟨v,rfl,r⟩:=r1.one;obtain⟨a,rfl,g1⟩:=r.rd.scr;exact⟨a,_,rfl,.inl g1,λl hl=>q _ _ (ak hl) ((ql hl (RpL.ints ns)).older s1)⟩
 ·cases h
theorem G3(O:ao X U c):dR X "sum" Do:=by
 intro e es p pos hg n1 n2 kds kd d h Y H Q hA;unfold Do at h;split at h
 ·rename_i ka ds
  cases hl:J.toInts ds with
  |none=>rw[hl] at h;cases h
  |some ns=>
   rw[hl] at h;cases h;refine au (c5 (fH O.calm) hg (O.tab.bl _ (by simp[ax])) PyProof.Rows.boot_sum cH (by decide) (by decide) (ag n1) (aU n2)) (bh hA λvs H1 ⟨g,H0,m,s1,r1,q⟩=>?_);obtain⟨v,rfl,r⟩:=r1.one;obtain⟨a,o,us,rfl,_,g1,q1,rr⟩:=r.rd.nd;cases(show o=_ from q1);rw[dP hl] at rr;exact⟨a,ns,rfl,.of (by rw[g1,rr.toInts]),q _ H1 (Same.refl H1) jZ⟩
 ·rename_i ka ns;cases h;refine au (c5 (fH O.calm) hg (O.tab.bl _ (by simp[ax])) PyProof.Rows.boot_sum cH (by decide) (by decide) (ag n1) (aU n2)) (bh hA λvs H1 ⟨g,H0,m,s1,r1,q⟩=>?_);obtain⟨v,rfl,r⟩:=r1.one;obtain⟨a,rfl,g1⟩:=r.rd.scr;exact⟨a,ns,rfl,g1,q _ H1 (Same.refl H1) jZ⟩
 ·cases h
theorem G4(O:ao X U c):dR X "min" Dp:=by
 intro e es p pos hg n1 n2 kds kd d h Y H Q hA;unfold Dp at h;split at h
 ·rename_i ka i kb j;cases h;refine au (c5 (uu O.calm) hg (O.tab.bl _ (by simp[ax])) PyProof.Rows.boot_min cH (by decide) (by decide) (ag n1) (aU n2)) (bh hA λvs H1 ⟨g,H0,m,s1,r1,q⟩=>?_);obtain⟨v,v',rfl,r,r'⟩:=r1.two;obtain rfl:=r.rd.int;obtain rfl:=r'.rd.int;exact⟨i,j,rfl,q _ H1 (Same.refl H1) jZ⟩
 ·cases h
theorem G5(O:ao X U c):dR X "max" Dq:=by
 intro e es p pos hg n1 n2 kds kd d h Y H Q hA;unfold Dq at h;split at h
 ·rename_i ka i kb j;cases h;refine au (c5 (ut O.calm) hg (O.tab.bl _ (by simp[ax])) PyProof.Rows.boot_max cH (by decide) (by decide) (ag n1) (aU n2)) (bh hA λvs H1 ⟨g,H0,m,s1,r1,q⟩=>?_);obtain⟨v,v',rfl,r,r'⟩:=r1.two;obtain rfl:=r.rd.int;obtain rfl:=r'.rd.int;exact⟨i,j,rfl,q _ H1 (Same.refl H1) jZ⟩
 ·cases h
theorem qy{e:P9}{env:Env}{cp:Pos}(h:ah e=P8):((backTo cp (Qm [e] env)).all (λx=>!x.1)&&(backToKw cp (keywordEach [] env)).all (λx=>x.1.isSome)
      && decide ([e].length+([]:List Keyword).length+(if([]:List Keyword).isEmpty then 0 else 1)<30))=P8:=by
  rw[ag h];rfl
noncomputable def j7:P9->Bool
 |.Name x _=>!(x==("super":Str))
 |.Subscript ..=>P8
 |.Attribute ..=>P8
 |_=>Qb
theorem mC{b:P9}{m:Str}{env:Env}{w:Sem Qa}(h:j7 b=P8):attributeBase b m env w=w:=by
 cases b with
 |Name x p=>
  unfold attributeBase;have h:(x==("super":Str))=Qb:=by simpa[j7] using h
  simp[h]
 |Subscript a b p=>rfl
 |Attribute a b p=>rfl
 |_=>cases h
noncomputable def LH(a:Option KD):Option KD:=match a with
 |some (_,.nd .lst ds)=>(match toInts ds with|some ks=>if ks.length<=60 then P6 (.fr bj,.lst ((G.GW ks).map D.int)) else P7|none=>P7)
 |_=>P7
noncomputable def oB(a:Option KD):Option KD:=match a with
 |some (_,.nd .lst ds)=>(match toInts ds with|some ks=>if ks.length<=100000 then P6 (.fr bj,.lst (ks.reverse.map D.int)) else P7|none=>P7)
 |_=>P7
theorem Du(O:ao X U c){fa:Ro->Option KD}{a:P9}{p p2 pos pos2:Pos}(hg:Gl X "list")(hg2:Gl X "reversed")(hn:ah a=P8)(ha:SndE X fa a):SndE X (λZ=>oB (fa Z)) (.Call (.Name "list" p) [.Call (.Name "reversed" p2) [a] [] pos2] [] pos):=by
 intro Z kd d h g Y H Q se q;dsimp only[oB] at h;split at h
 ·rename_i ka ds ea;split at h
  ·rename_i ks hk;obtain⟨hz,e⟩:=wn h;cases e;refine au (G.zB O.calm hg (O.tab.bl _ (by simp[ax])) hg2 (O.tab.bl _ (by simp[ax])) (bg av dG (ag hn)) (ag hn)) (ha Z _ _ ea g Y H _ se λv H1 s1 r1=>?_);obtain⟨a',o,us,rfl,_,g1,q1,rr⟩:=r1.rd.nd;cases(show o=_ from q1);rw[dP hk] at rr;refine⟨a',ks.map V.int,rfl,.of (by rw[g1,rr.toInts]),by rw[MB];exact hz,λl hl=>q _ _ (s1.trans (ak hl)) ?_⟩;rw[<- P1];exact(ql hl (RpL.ints (K:=X.K) (H:=H1) (S:=Sg g) ks.reverse)).older s1
  ·cases h
 ·cases h
inductive Dsp (X:Cx) (Z:Ro):List (Option Expr)->List Expr->List aw->List KD->Prop
 |nil:Dsp X Z [] [] [] []
 |cons {k v:P9} {kD:D} {x:aw} {kv:Kd} {d:D} {f:Ro->Option KD} {ks:List (Option P9)} {vs:List P9} {xs:List aw} {kds:List KD}:SndE X (λ_=>P6 (.sh,kD)) k->eP kD=P6 x->SndE X f v->f Z=P6 (kv,d)->i0 kv d=P8->Dsp X Z ks vs xs kds->Dsp X Z (P6 k::ks) (v::vs) (x::xs) ((kv,d)::kds)
noncomputable def J4(X:Cx):List (Option P9)->List P9->List (TE×TE)
 |some k::ks,v::vs=>(wE X k,wE X v)::J4 X ks vs
 |_,_=>[]
theorem Dsp.pps{ks:List (Option P9)}{vs:List P9}{xs:List aw}{kds:List KD}(h:Dsp X Z ks vs xs kds):Gx X pos ks vs (J4 X ks vs)/\ks.all (·.isSome)=P8/\ks.length=vs.length/\ks.length=xs.length/\xs.length=kds.length:=by
 induction h with
 |nil=>exact⟨zf,rfl,rfl,rfl,rfl⟩
 |cons _ _ _ _ _ _ ih=>exact⟨wb av av ih.1,by simpa using ih.2.1,by simp[ih.2.2.1],by simp[ih.2.2.2.1],by simp[ih.2.2.2.2]⟩
theorem Dsp.run{xs:List aw}{kds:List KD}(h:Dsp X Z ks vs xs kds):∀{g:Gh} {Y:L2.St} {H:Hp} {Q:List (V×V)->Hp->Prop},SE X.K g Z Y H->(∀ys H',Same H H'->RpL X.K H' (Sg g) (kds.map (·.2)) ys->Q ((xs.zip ys).map λkv=>(kV kv.1,kv.2)) H')->ml (J4 X ks vs) Y H Q:=by
 induction h with
 |nil=>intro g Y H Q se q;exact q [] H (Same.refl H) .nil
 |cons hk hx hv e hz _ ih=>
  intro g Y H Q se q;refine hk Z _ _ rfl g Y H _ se λx1 H1 s1 rx=>hv Z _ _ e g Y H1 _ (se.same s1) λy H2 s2 ry=>ih ((se.same s1).same s2) λys H3 s3 rl=>?_;obtain rfl:=jz hx rx.rd;exact q (y::ys) H3 ((s1.trans s2).trans s3) (.cons ((ry.sh hz (se.same s1).mu s2).same s3) rl)
theorem lH:∀(more kvs:List (aw×V)),((kvs++more).map (·.1)).Nodup->d5 kvs more=kvs++more
 |[],kvs,_=>by simp[d5]
 |p::r,kvs,h=>by
  have e:bv kvs p.1 p.2=kvs++[p]:=by
   unfold bv;rw[if_neg];intro z;obtain⟨q,hq,e⟩:=P0.mp z;have e:q.1=p.1:=of_decide_eq_true e;rw[M7,PR] at h;exact h.2.2 q.1 (Pv hq) p.1 (by simp) e
  show d5 (bv kvs p.1 p.2) r=_;rw[e,lH r (kvs++[p]) (by simpa using h)];simp
noncomputable def i5(ks:List D)(as:Option (List KD)):Option KD:=match c7 ks,as with
 |some xs,P6 kds=>if decide (xs.Nodup)=P8/\0<xs.length/\xs.length<=15/\kds.all (λkd=>i0 kd.1 kd.2)=P8 then P6 (.fr bj,.nd (.dic 0 (xs.map Sum.inl)) (kds.map (·.2))) else P7
 |_,_=>P7
theorem Dv{fs:Ro->Option (List KD)}(hd:∀Z kds xs,fs Z=P6 kds->kds.all (λkd=>i0 kd.1 kd.2)=P8->c7 kDs=P6 xs->Dsp X Z ks vs xs kds):SndE X (λZ=>i5 kDs (fs Z)) (.Dict ks vs pos):=by
 intro Z kd d h g Y H Q se q;dsimp only[i5] at h;split at h
 ·rename_i xs kds hx ea;obtain⟨hz,e⟩:=wn h;cases e;have D:=hd Z kds xs ea hz.2.2.2 hx;obtain⟨p1,p2,p3,p4,p5⟩:=D.pps (pos:=pos);refine au (zg p1 p2 p3 (λz=>?_) (by lia)) λp hp=>?_
  ·rw[z] at p4;have:=hz.2.1;simp at p4
   lia
  have se1:SE X.K (g.plus λb=>b=p) Z Y (upd H p (.dK [])):=se.plus (ak hp) (λb z=>z▸hp) λb z=>⟨.dK [],by rw[z];exact ai,λxs e=>nomatch e⟩
  refine D.run se1 λys H2 s2 rl=>?_;have ly:ys.length=xs.length:=by rw[rl.len,MB,p5]
  have k1:(xs.zip ys).map (·.1)=xs:=List.map_fst_zip (by lia);have k2:(xs.zip ys).map (·.2)=ys:=List.map_snd_zip (by lia)
  have em:d5 [] (xs.zip ys)=xs.zip ys:=by
   have:=lH (xs.zip ys) [] (by rw[Pb,k1];exact of_decide_eq_true hz.1);rw[this,Pb]
  refine⟨s2 _ _ ai,xs.zip ys,rfl,by rw[Os];lia,?_⟩;rw[em];refine q _ _ (λb o e=>?_) ?_
  ·rw[ad (aB e hp)];exact s2 _ _ (ak hp b o e)
  ·refine⟨λb=>b=p,λb z=>z▸hp,?_⟩;show Tr X.K _ _ _ _ _ _;unfold Tr
   refine⟨p,_,ys,λ_=>False,rfl,ai,.inl ⟨rfl,xs.zip ys,rfl,?_,k2.symm⟩,λ_ z=>z,(λh=>nomatch h),λb=>⟨λz=>.inl ⟨rfl,z⟩,λz=>z.elim (λz=>z.2) λz=>z.elim⟩,.ofFz (rl.go λb o n e=>?_)⟩
   ·conv=>lhs;rw[<- k1]
    rw[M5];rfl
   have nb:¬(Sg g b\/b=p):=λz=>n ((am b).mpr z);exact⟨by rw[ad λz=>nb (.inr z)];exact e,nb⟩
 ·cases h
theorem G6(O:ao X U c):dR X "int" Dr:=by
 intro e es p pos hg n1 n2 kds kd d h Y H Q hA;unfold Dr at h;split at h
 ·rename_i ka b;cases h;refine au (dN uP hg (O.tab.bl _ (by simp[ax])) PyProof.Rows.boot_int cH (by decide) (by decide) (ag n1) (aU n2)) (bh hA λvs H1 ⟨g,H0,m,s1,r1,q⟩=>?_);obtain⟨v,rfl,r⟩:=r1.one;obtain rfl:=r.rd.bl;exact⟨b,rfl,q _ H1 (Same.refl H1) jZ⟩
 ·cases h
theorem Dw(O:ao X U c):dR X "dict" wJ:=by
 intro e es p pos hg n1 n2 kds kd d h Y H Q hA;unfold wJ at h;split at h
 ·rename_i ka ds;split at h
  ·rename_i hk;split at h
   ·rename_i ps hps;split at h
    ·rename_i hz;cases h;refine au (dN (G.uI O.calm) hg (O.tab.bl _ (by simp[ax])) (show bootBuiltins "dict" = P6 (.type "dict") by decide +kernel) cH (by decide) (by decide) (ag n1) (aU n2)) (bh hA λvs H1 ⟨g,H0,m,s1,r1,q⟩=>?_);obtain⟨v,rfl,r⟩:=r1.one;obtain⟨a,o,us,rfl,g1,q1,rr⟩:=r.items hk m s1;cases(show o=_ from q1);rw[j6 hps] at rr;obtain⟨qs,e1,e2,e3,e4⟩:=oA rr;have hl:qs.length=ps.length:=by have:=congrArg OA e1;simpa using this
     have ep:G.bW qs=qs:=by
      unfold G.bW;rw[gK (λp _ kv hk=>by simp at hk) (by rw[e1];exact hz.1)];rfl
     refine⟨a,us,qs,rfl,.of g1,⟨e3,e4⟩,by rw[hl];exact aF hz.2,λl hl'=>q _ _ (ak hl') ((Bt (hd:=.dic 0 (ps.map λp=>Sum.inl p.1)) rfl (.inl ⟨rfl,qs,by rw[ep],?_,rfl⟩) hl' e2).older s1)⟩;have:=congrArg (PY λz:aw=>(Sum.inl z:DK)) e1;rw[M5,M5] at this;exact this.symm
    ·cases h
   ·cases h
  ·cases h
 ·cases h
theorem dS{x:Str}:dR X x (λ_=>P7):=λe es p pos hg n1 n2 kds kd d h=>by cases h
theorem iz{x y:Str}(h1:x=y->dR X x f)(h2:dR X x g):dR X x (if x=y then f else g):=by
 by_cases h:x=y
 ·rw[if_pos h];exact h1 h
 ·rw[if_neg h];exact h2
theorem oC(O:ao X U c)(x:Str):dR X x (eK x):=by
 unfold eK;refine iz (λh=>?_) ?_
 ·first|exact dS|(subst h;exact GZ O)
 refine iz (λh=>?_) ?_
 ·first|exact dS|(subst h;exact G0 O)
 refine iz (λh=>?_) ?_
 ·first|exact dS|(subst h;exact b_any O)
 refine iz (λh=>?_) ?_
 ·first|exact dS|(subst h;exact Dt O)
 refine iz (λh=>?_) ?_
 ·first|exact dS|(subst h;exact b_tuple O)
 refine iz (λh=>?_) ?_
 ·first|exact dS|(subst h;exact b_str O)
 refine iz (λh=>?_) ?_
 ·first|exact dS|(subst h;exact G3 O)
 refine iz (λh=>?_) ?_
 ·first|exact dS|(subst h;exact G4 O)
 refine iz (λh=>?_) ?_
 ·first|exact dS|(subst h;exact G5 O)
 refine iz (λh=>?_) ?_
 ·first|exact dS|(subst h;exact b_abs O)
 refine iz (λh=>?_) ?_
 ·first|exact dS|(subst h;exact G6 O)
 refine iz (λh=>?_) ?_
 ·first|exact dS|(subst h;exact Dw O)
 refine iz (λh=>?_) ?_
 ·first|exact dS|(subst h;exact b_repr O)
 ·intro e es p pos hg n1 n2 kds kd d h;cases h
theorem G7(O:ao X U c){x:Str}{e:P9}{es:List P9}{p pos:Pos}{fa:Ro->Option (List KD)}(hf:jX X fa (e::es))(hg:fJ c.sc x=P8)(n1:ah e=P8)(n2:es.all ah=P8):SndE X (λZ=>qx x (fa Z)) (.Call (.Name x p) (e::es) [] pos):=by
 have:=(oC O x e es p pos (ce O hg) n1 n2).snd hf
 rw[show(λZ=>qx x (fa Z))=λZ=>(fa Z).bind (eK x) by funext Z;unfold qx;cases fa Z<;>rfl]
 exact this
end
end J
namespace J
open PySem PySem.Spec L2
inductive Src where
 |non|l (a:Qc) (ds:List D)|t (a:Qc) (ds:List D)|two (s u:Src)|ob (a:Qc) (u:HO) (xs:List V) (ds:List D)
noncomputable def Src.P(K:Mz):Src->Gh->Hp->Prop
 |.non,_,_=>True
 |.l a ds,g,H=>∃xs,SqL K H a xs/\RpL K H (Sg g) ds xs
 |.ob a u xs ds,g,H=>H a=P6 u/\RpL K H (Sg g) ds xs
 |.t a ds,g,H=>∃xs,SqT K H a xs/\RpL K H (Sg g) ds xs
 |.two s u,g,H=>s.P K g H/\u.P K g H
noncomputable def Src.isL(b:Qc):Src->Prop
 |.non=>False
 |.l a _=>a=b
 |.ob a ..=>a=b
 |.t _ _=>False
 |.two s u=>s.isL b\/u.isL b
noncomputable def Src.isT(b:Qc):Src->Prop
 |.non=>False
 |.l _ _=>False
 |.ob ..=>False
 |.t a _=>a=b
 |.two s u=>s.isT b\/u.isT b
noncomputable def Src.from(g:Gh)(H:Hp)(bs:List Nat):Src->Prop
 |.non=>True
 |.l a _=>g a=P7\/∃i∈bs,g a=P6 (P6 i)
 |.ob a ..=>g a=P7\/∃i∈bs,g a=P6 (P6 i)
 |.t a _=>g a=P7
 |.two s u=>s.from g H bs/\u.from g H bs
theorem Src.from.from_l{g:Gh}{bs:List Nat}{b:Qc}:∀{s:Src},s.from g H bs->s.isL b->g b=P7\/∃i∈bs,g b=P6 (P6 i)
 |.l a _,h,e=>by cases(show a=b from e);exact h
 |.ob a ..,h,e=>by cases(show a=b from e);exact h
 |.two s u,h,e=>by
  rcases(show s.isL b\/u.isL b from e) with e|e
  ·exact Src.from.from_l (show s.from g H bs/\u.from g H bs from h).1 e
  ·exact Src.from.from_l (show s.from g H bs/\u.from g H bs from h).2 e
 |.non,_,e=>e.elim
 |.t _ _,_,e=>e.elim
theorem Src.from.from_t{g:Gh}{bs:List Nat}{b:Qc}:∀{s:Src},s.from g H bs->s.isT b->g b=P7
 |.t a _,h,e=>by cases(show a=b from e);exact h
 |.two s u,h,e=>by
  rcases(show s.isT b\/u.isT b from e) with e|e
  ·exact Src.from.from_t (show s.from g H bs/\u.from g H bs from h).1 e
  ·exact Src.from.from_t (show s.from g H bs/\u.from g H bs from h).2 e
 |.non,_,e=>e.elim
 |.l _ _,_,e=>e.elim
 |.ob ..,_,e=>e.elim
theorem Src.from.from_H{bs:List Nat}:∀{s:Src},s.from g H bs->s.from g H' bs
 |.t a _,h=>h
 |.l a _,h=>h
 |.ob ..,h=>h
 |.non,_=>trivial
 |.two s u,h=>⟨Src.from.from_H (show s.from g H bs/\u.from g H bs from h).1,Src.from.from_H (show s.from g H bs/\u.from g H bs from h).2⟩
theorem Src.from.from_mono{bs bs':List Nat}(k:∀i∈bs,i∈bs'):∀{s:Src},s.from g H bs->s.from g H bs'
 |.t a _,h=>h
 |.l a _,h=>Or.imp_right (λ⟨i,h1,h2⟩=>⟨i,k i h1,h2⟩) h
 |.ob ..,h=>Or.imp_right (λ⟨i,h1,h2⟩=>⟨i,k i h1,h2⟩) h
 |.non,_=>trivial
 |.two s u,h=>⟨Src.from.from_mono k (show s.from g H bs/\u.from g H bs from h).1,Src.from.from_mono k (show s.from g H bs/\u.from g H bs from h).2⟩
section
variable {K:Mz} {H H':Hp} {g g':Gh}
theorem wK(k:∀o,H a=P6 o->H' a=P6 o)(h:SqL K H a xs):SqL K H' a xs:=by
 rcases h with(h|⟨o,h⟩)|h
 ·exact .inl (.inl (k _ h))
 ·exact .inl (.inr ⟨o,k _ h⟩)
 ·exact .inr h
theorem wL(k:∀o,H a=P6 o->H' a=P6 o)(h:SqT K H a xs):SqT K H' a xs:=by
 rcases h with(h|⟨o,h⟩)|h
 ·exact .inl (.inl (k _ h))
 ·exact .inl (.inr ⟨o,k _ h⟩)
 ·exact .inr h
theorem Src.mono(k2:∀b o,H b=P6 o->¬Sg g b->¬Sg g' b):∀{s:Src},(∀b o,(¬Sg g b\/s.isL b)->H b=P6 o->H' b=P6 o)->(∀a,s.isT a->g a=P7)->s.P K g H->s.P K g' H'
 |.non,_,_,_=>trivial
 |.l a ds,k,ht,h=>by
  obtain⟨xs,h1,h2⟩:=h;exact⟨xs,wK (λo e=>k a o (.inr rfl) e) h1,h2.go λb o n e=>⟨k b o (.inl n) e,k2 b o e n⟩⟩
 |.ob a u xs ds,k,ht,h=>⟨k a _ (.inr rfl) (show H a=P6 u/\RpL K H (Sg g) ds xs from h).1,(show H a=P6 u/\RpL K H (Sg g) ds xs from h).2.go λb o n e=>⟨k b o (.inl n) e,k2 b o e n⟩⟩
 |.t a ds,k,ht,h=>by
  obtain⟨xs,h1,h2⟩:=h;exact⟨xs,wL (λo e=>k a o (.inl (by rw[Sg,ht a rfl];simp)) e) h1,h2.go λb o n e=>⟨k b o (.inl n) e,k2 b o e n⟩⟩
 |.two s u,k,ht,h=>⟨Src.mono k2 (λb o z=>k b o (z.imp id .inl)) (λa z=>ht a (.inl z)) (show s.P K g H/\u.P K g H from h).1,Src.mono k2 (λb o z=>k b o (z.imp id .inr)) (λa z=>ht a (.inr z)) (show s.P K g H/\u.P K g H from h).2⟩
end
noncomputable def gM(K:Mz)(J:It)(s:Src)(ds:List D):Prop:=∀(i:Nat) (g:Gh) (H:Hp),s.P K g H->MuOk H (Sg g)->
 (ds.length<=i->J.stop i H)/\∀d,ds[i]?=P6 d->J.go i H/\∀x H',J.yld i H x H'->Same H H'/\Rp K H' (Sg g) d x
section
variable {K:Mz}
theorem Dx:gM K (FG K a) (.l a ds) ds:=by
 rintro i g H ⟨us,g1,r⟩ m
 refine⟨λhi=>⟨us,g1,by rw[r.len];exact hi⟩,λd hd=>?_⟩;obtain⟨x,e1,e2⟩:=r.getD hd;refine⟨⟨us,x,g1,e1⟩,λy H' hy=>?_⟩;obtain⟨rfl,hy⟩:=hy;have:=hy us g1;rw[e1] at this;cases this;exact⟨Same.refl _,e2⟩
theorem J5:gM K (JF K a) (.t a ds) ds:=by
 rintro i g H ⟨us,g1,r⟩ m
 refine⟨λhi=>⟨us,g1,by rw[r.len];exact hi⟩,λd hd=>?_⟩;obtain⟨x,e1,e2⟩:=r.getD hd;refine⟨⟨us,x,g1,e1⟩,λy H' hy=>?_⟩;obtain⟨rfl,hy⟩:=hy;have:=hy us g1;rw[e1] at this;cases this;exact⟨Same.refl _,e2⟩
theorem Dy{ds:List D}:gM K (G.IW K a) (.l a ds) (ds.mapIdx λi d=>D.tup [.int i,d]):=by
 rintro i g H ⟨us,g1,r⟩ m
 refine⟨λhi=>⟨us,g1,by rw[r.len];simpa using hi⟩,λd hd=>?_⟩;rw[List.getElem?_mapIdx] at hd
 cases q:ds[i]? with
 |none=>rw[q] at hd;cases hd
 |some d'=>
  rw[q] at hd;cases hd;obtain⟨x,e1,e2⟩:=r.getD q;refine⟨⟨us,x,g1,e1⟩,λy H' hy=>?_⟩;obtain⟨p,v,hp,rfl,rfl,hy⟩:=hy;have:=hy us g1;rw[e1] at this;cases this;refine⟨ak hp,?_⟩;unfold Rp;refine⟨p,_,_,rfl,λz=>?_,ai,rfl,.cons (by unfold Rp;rfl) (.cons (e2.same (ak hp)) .nil)⟩;obtain⟨o,q,_⟩:=m p z;rw[hp] at q;cases q
theorem Dz(lo:Int)(n:Nat):gM K (FY lo n) .non ((Np n).map λ(k:Nat)=>D.int (lo+(k:Int))):=by
 rintro i g H _ m
 refine⟨λhi=>(by have hi':n<=i:=(by simpa using hi);exact hi'),λd hd=>?_⟩;rw[MF] at hd
 cases q:(Np n)[i]? with
 |none=>rw[q] at hd;cases hd
 |some j=>
  rw[q] at hd;cases hd
  have hlt:i<n:=by
   have:=(MJ.mp q).1;simpa using this
  have hj:j=i:=by
   rw[Oc hlt] at q;cases q;rfl
  subst hj;refine⟨hlt,λx H' hy=>?_⟩;obtain⟨rfl,rfl⟩:=hy;exact⟨Same.refl _,by unfold Rp;rfl⟩
end
noncomputable def SndI(X:Cx)(f:Ro->Option (List Nat×List D))(tg iter:P9):Prop:=∀Z bs ds,f Z=P6 (bs,ds)->∀g Y H R,SE X.K g Z Y H->
 (∀J s H1,Same H H1->gM X.K J s ds->s.P X.K g H1->s.from g H bs->R J H1)->wI X tg iter Y H R
noncomputable def k7:Kd->List Nat
 |.bo i _=>[i]
 |_=>[]
noncomputable def eE(a:Option KD):Option (List Nat×List D):=match a with
 |some (k,.nd .lst ds)=>if i3 k ds=P8 then P6 (k7 k,ds) else P7
 |some (_,.scr ns)=>P6 ([],ns.map D.int)
 |_=>P7
noncomputable def mE(x:Str):List D:=x.cps.toList.map λc=>D.str ⟨#[c]⟩
theorem J6(x:Str):gM K (G.JU x) .non (mE x):=by
 rintro i g H _ m
 refine⟨λhi=>(by have hi':x.cps.size<=i:=(by simpa[mE] using hi);exact hi'),λd hd=>?_⟩;unfold mE at hd;rw[MF] at hd
 cases q:x.cps.toList[i]? with
 |none=>rw[q] at hd;cases hd
 |some z=>
  rw[q] at hd;cases hd;have q':x.cps[i]?=P6 z:=by simpa using q
  refine⟨(Array.getElem?_eq_some_iff.mp q').1,λv H' hy=>?_⟩;obtain⟨rfl,z',e1,rfl⟩:=hy;rw[q'] at e1;cases e1;exact⟨Same.refl _,by unfold Rp;rfl⟩
noncomputable def oE(a:Option KD):Option (List Nat×List D):=match a with
 |some (_,.str x)=>P6 ([],mE x)
 |some (k,.nd .tup ds)=>if i3 k ds=P8 then P6 ([],ds) else P7
 |a=>eE a
noncomputable def uQ(a:Option KD):Option (List Nat×List D):=(eE a).map λp=>(p.1,p.2.mapIdx λi d=>D.tup [.int i,d])
noncomputable def mF(xs ys:List D):List D:=Nc (λx y=>D.tup [x,y]) xs ys
noncomputable def qz(a b:Option KD):Option (List Nat×List D):=match eE a with
 |some (bs,xs)=>(match eE b with|some (bs',ys)=>P6 (bs++bs',mF xs ys)|none=>P7)
 |none=>P7
noncomputable def d8(i j:Int):Bool:=decide (-(2^62)<=i)&&decide (i<2^62)&&decide (-(2^62)<=j)&&decide (j<2^62)&&decide (j-i<=100000)
noncomputable def gN(i j:Int):List D:=(Np (j-i).toNat).map λ(k:Nat)=>D.int (i+(k:Int))
noncomputable def gO(a b:Option KD):Option (List Nat×List D):=match a,b with
 |some (_,.int i),P6 (_,.int j)=>if d8 i j then P6 ([],gN i j) else P7
 |_,_=>P7
noncomputable def j8:P9->Bool
 |.Tuple ..=>P8
 |_=>Qb
section
variable {X:Cx} {U:eQ} {c:Cz}
theorem VR.scrK{g:Gh}{ns:List Int}(h:VR K g H H1 k (.scr ns) v):∃a,v=.ref a/\((g a=P7/\Rd H1 a (.lst (ns.map V.int)))\/JT K a (ns.map V.int)):=by
 have key:∀{S:Pr},(∀b,g b≠P7->S b)->Rp K H1 S (.scr ns) v->∃a,v=.ref a/\((g a=P7/\Rd H1 a (.lst (ns.map V.int)))\/JT K a (ns.map V.int)):=λhs r=>by
  unfold Rp at r;obtain⟨a,e,r⟩:=r;refine⟨a,e,r.imp (λr=>⟨?_,r.2⟩) id⟩
  cases q:g a with
  |none=>rfl
  |some i=>exact absurd (hs a (by rw[q];simp)) r.1
 obtain⟨F,h1,h2⟩:=h
 cases k with
 |sh=>exact key (λb z=>.inl z) h2.2
 |fr k=>have h2:Tr _ _ _ _ _ _ _:=h2;unfold Tr at h2;exact key (λb z=>.inl z) h2.2
 |bo i k=>obtain⟨_,F0,_,h4⟩:=h2;unfold Tr at h4;exact key (λb z=>.inl z) h4.2
theorem J7{g:Gh}{hd:Hd}(hm:hd.mu=P8)(m:MuOk H (Sg g))(s1:Same H H1)(h:VR K g H H1 k (.nd hd ds) (.ref a)):g a=P7\/∃i∈k7 k,g a=P6 (P6 i):=by
 have nn:∀{S:Pr},(∀b,g b≠P7->S b)->¬S a->g a=P7:=λhs n=>by
  cases q:g a with
  |none=>rfl
  |some i=>exact absurd (hs a (by rw[q];simp)) n
 cases k with
 |sh=>
  left;obtain⟨F,h1,h2,h3⟩:=h;obtain⟨a',o',xs',e1,n1,_⟩:=h3.nd;cases e1;exact nn (λb z=>.inl z) n1
 |fr k=>
  left;obtain⟨a',o',xs',e1,n1,_⟩:=(h.sh rfl m s1).nd;cases e1;exact nn (λb z=>z) n1
 |bo i k=>
  obtain⟨F,h1,h2,F0,h3,h4⟩:=h
  cases k with
  |fz=>
   left;obtain⟨a',o',xs',e1,n1,_⟩:=h4.fz_inv.2.nd;cases e1;exact nn (λb z=>.inl z) n1
  |own es r=>
   right;unfold Tr at h4;obtain⟨a',o',xs',F',e1,_,_,_,_,hF,_⟩:=h4;cases e1;exact⟨i,Nt.mpr rfl,h3 a ((hF a).mpr (.inl ⟨hm,rfl⟩))⟩
theorem gP{ds:List D}(m:MuOk H (Sg g))(s1:Same H H1)(h:VR K g H H1 k d v)(e:eE (P6 (k,d))=P6 (bs,ds)) :
  ∃a s,v=.ref a/\(∃xs,SqL K H1 a xs)/\gM K (FG K a) s ds/\gM K (G.IW K a) s (ds.mapIdx λi d=>D.tup [.int i,d])/\s.P K g H1/\s.from g H bs:=by
 unfold eE at e;split at e
 ·rename_i k' ds' e';cases e';split at e
  ·rename_i hk;cases e;obtain⟨a,o,us,rfl,g1,q1,rr⟩:=h.items hk m s1;cases(show o=_ from q1);refine⟨a,.l a ds,rfl,⟨us,.of g1⟩,Dx,Dy,⟨us,.of g1,rr⟩,J7 rfl m s1 h⟩
  ·cases e
 ·rename_i k' ns e';cases e';cases e;obtain⟨a,rfl,q⟩:=h.scrK;rcases q with⟨q1,q2⟩|q
  ·exact⟨a,.l a _,rfl,⟨_,.inl q2⟩,Dx,Dy,⟨_,.inl q2,RpL.ints ns⟩,.inl q1⟩
  ·refine⟨a,.non,rfl,⟨_,.inr q⟩,λi g' H' _ m'=>Dx i g' H' ⟨_,.inr q,RpL.ints ns⟩ m',λi g' H' _ m'=>Dy i g' H' ⟨_,.inr q,RpL.ints ns⟩ m',trivial,trivial⟩
 ·cases e
theorem G8{fa:Ro->Option KD}{tg e:P9}(ha:SndE X fa e):SndI X (λZ=>oE (fa Z)) tg e:=by
 intro Z bs ds h g Y H R se q;dsimp only at h
 cases ea:fa Z with
 |none=>rw[ea] at h;cases h
 |some kd=>
  obtain⟨k,d⟩:=kd;rw[ea] at h;by_cases hx:∃x,d=.str x
  ·obtain⟨x,rfl⟩:=hx;cases h;refine gH (G.Da av) (ha Z k _ ea g Y H _ se λv H1 s1 r1=>?_);obtain rfl:=r1.rd.str;exact⟨x,rfl,q _ .non H1 s1 (J6 x) trivial trivial⟩
  by_cases ht:∃ds',d=.tup ds'
  ·obtain⟨ds',rfl⟩:=ht;simp only[oE] at h;split at h
   ·rename_i hk;cases h;refine gH (CH av) (ha Z k _ ea g Y H _ se λv H1 s1 r1=>?_);obtain⟨a,o,us,rfl,g1,q1,rr⟩:=r1.items hk se.mu s1;cases(show o=_ from q1);refine⟨a,rfl,⟨us,.of g1⟩,q _ (.t a ds) H1 s1 J5 ⟨us,.of g1,rr⟩ ?_⟩
    cases q2:g a with
    |none=>exact q2
    |some i=>
     obtain⟨o,e1,n⟩:=se.mu.same s1 a (by rw[Sg,q2];simp);rw[g1] at e1;cases e1;exact absurd rfl (n us)
   ·cases h
  ·have h':eE (P6 (k,d))=P6 (bs,ds):=by
    cases d with
    |nd hd ds'=>cases hd with
     |tup=>exact absurd ⟨ds',rfl⟩ ht
     |_=>exact h
    |str x=>exact absurd ⟨x,rfl⟩ hx
    |_=>exact h
   refine gH (yX av) (ha Z k d ea g Y H _ se λv H1 s1 r1=>?_);obtain⟨a,s,rfl,h1,h2,_,h3,h4⟩:=gP se.mu s1 r1 h';exact⟨a,rfl,h1,q _ s H1 s1 h2 h3 h4⟩
theorem G9(O:ao X U c){fa:Ro->Option KD}{tg e:P9}{p pos:Pos}(hg:fJ c.sc "enumerate" = P8)(hn:ah e=P8)(ht:j8 tg=P8)(ha:SndE X fa e):SndI X (λZ=>uQ (fa Z)) tg (.Call (.Name "enumerate" p) [e] [] pos):=by
 intro Z bs ds h g Y H R se q;dsimp only at h
 cases ea:fa Z with
 |none=>rw[ea] at h;cases h
 |some kd=>
  obtain⟨k,d⟩:=kd;rw[ea] at h;unfold uQ at h
  cases h':eE (P6 (k,d)) with
  |none=>rw[h'] at h;cases h
  |some r=>
   obtain⟨bs',ds'⟩:=r;rw[h'] at h;cases h
   cases tg with
   |Tuple es kk tp=>
    refine gH (G.zh (ce O hg) (O.tab.bl _ (by simp[ax])) (bg av dG (ag hn)) (ag hn)) (ha Z _ _ ea g Y H _ se λv H1 s1 r1=>?_);obtain⟨a,s,rfl,h1,_,h2,h3,h4⟩:=gP se.mu s1 r1 h';exact⟨a,rfl,h1,q _ s H1 s1 h2 h3 h4⟩
   |_=>exact absurd ht (by simp[j8])
theorem DA(O:ao X U c){fa:Ro->Option KD}{tg e:P9}{p pos:Pos}(hg:fJ c.sc "range" = P8)(hn:ah e=P8)(ha:SndE X fa e):SndI X (λZ=>gO (P6 (.sh,.int 0)) (fa Z)) tg (.Call (.Name "range" p) [e] [] pos):=by
 intro Z bs ds h g Y H R se q;dsimp only[gO] at h;split at h
 ·rename_i k1 i k2 j e1 ea;cases e1;split at h
  ·rename_i hr;simp only[d8,MA,decide_eq_true_eq] at hr;cases h;refine gH (li (ce O hg) (O.tab.bl _ (by simp[ax])) (bg av dG (ag hn)) (ag hn)) (ha Z _ _ ea g Y H _ se λv H1 s1 r1=>?_);obtain rfl:=r1.rd.int;refine⟨j,rfl,hr.1.1.2,hr.1.2,q _ .non H1 s1 ?_ trivial trivial⟩;unfold gN;rw[PD];exact Dz 0 _
  ·cases h
 ·cases h
theorem DB(O:ao X U c){fa fb:Ro->Option KD}{tg e e2:P9}{p pos:Pos}(hg:fJ c.sc "range" = P8)(hn:ah e=P8)(hn2:ah e2=P8)(ha:SndE X fa e)(hb:SndE X fb e2):SndI X (λZ=>gO (fa Z) (fb Z)) tg (.Call (.Name "range" p) [e,e2] [] pos):=by
 intro Z bs ds h g Y H R se q;dsimp only[gO] at h;split at h
 ·rename_i k1 i k2 j ea eb;split at h
  ·rename_i hr;simp only[d8,MA,decide_eq_true_eq] at hr;cases h;refine gH (uq (ce O hg) (O.tab.bl _ (by simp[ax])) (bg av (bg av dG (ag hn2)) (ag hn)) (by rw[ag hn,ag hn2];rfl) (ag hn2)) ?_;refine two ha hb ea eb se λx y H1 s1 rx ry=>?_;obtain rfl:=rx.rd.int;obtain rfl:=ry.rd.int;exact⟨i,j,rfl,⟨hr.1.1.1.1,hr.1.1.1.2,hr.1.1.2,hr.1.2⟩,q _ .non H1 s1 (Dz i _) trivial trivial⟩
  ·cases h
 ·cases h
theorem DC(h1:gM K (FG K a) s xs)(h2:gM K (FG K b) u ys):gM K (G.JR K a b) (.two s u) (mF xs ys):=by
 intro i g H hp m;have hp:s.P K g H/\u.P K g H:=hp;obtain⟨s1,g1⟩:=h1 i g H hp.1 m;obtain⟨s2,g2⟩:=h2 i g H hp.2 m
 have q1:∃us,SqL K H a us/\(xs.length<=i->us.length<=i):=by
  by_cases hi:xs.length<=i
  ·obtain⟨us,e1,e2⟩:=s1 hi;exact⟨us,e1,λ_=>e2⟩
  ·obtain⟨⟨us,x,e1,_⟩,_⟩:=g1 _ (MK (P2 hi));exact⟨us,e1,λz=>absurd z hi⟩
 have q2:∃us,SqL K H b us/\(ys.length<=i->us.length<=i):=by
  by_cases hi:ys.length<=i
  ·obtain⟨us,e1,e2⟩:=s2 hi;exact⟨us,e1,λ_=>e2⟩
  ·obtain⟨⟨us,x,e1,_⟩,_⟩:=g2 _ (MK (P2 hi));exact⟨us,e1,λz=>absurd z hi⟩
 obtain⟨us,a1,a2⟩:=q1;obtain⟨vs,b1,b2⟩:=q2;refine⟨λhi=>⟨us,vs,a1,b1,?_⟩,λd hd=>?_⟩
 ·unfold mF at hi;rw[Pw] at hi;by_cases hx:xs.length<=i
  ·exact .inl (a2 hx)
  ·exact .inr (b2 (by lia))
 ·unfold mF at hd;rw[Pn] at hd
  cases ex:xs[i]? with
  |none=>rw[ex] at hd;simp at hd
  |some x=>
   cases ey:ys[i]? with
   |none=>rw[ex,ey] at hd;simp at hd
   |some y=>
    rw[ex,ey] at hd;simp only[Option.some.injEq] at hd;subst hd;obtain⟨⟨us',x',e1,e2⟩,y1⟩:=g1 x ex;obtain⟨⟨vs',y',e3,e4⟩,y2⟩:=g2 y ey;refine⟨⟨us',vs',x',y',e1,e3,e2,e4⟩,λz H' hy=>?_⟩;obtain⟨p,v,w,hp',rfl,rfl,hv,hw⟩:=hy;have r1:=(y1 v H ⟨rfl,hv⟩).2;have r2:=(y2 w H ⟨rfl,hw⟩).2;refine⟨ak hp',?_⟩;unfold Rp;refine⟨p,_,_,rfl,λz=>?_,ai,rfl,.cons (r1.same (ak hp')) (.cons (r2.same (ak hp')) .nil)⟩;obtain⟨o,q,_⟩:=m p z;rw[hp'] at q;cases q
theorem Ha(O:ao X U c){fa fb:Ro->Option KD}{tg e e2:P9}{p pos:Pos}(hg:fJ c.sc "zip" = P8)(hn:ah e=P8)(hn2:ah e2=P8)(ht:j8 tg=P8)(ha:SndE X fa e)(hb:SndE X fb e2):SndI X (λZ=>qz (fa Z) (fb Z)) tg (.Call (.Name "zip" p) [e,e2] [] pos):=by
 intro Z bs ds h g Y H R se q;dsimp only[qz] at h
 cases ea:fa Z with
 |none=>rw[ea] at h;cases h
 |some kd=>
  obtain⟨k,d⟩:=kd
  cases eb:fb Z with
  |none=>
   rw[ea,eb] at h;split at h
   ·cases h
   ·cases h
  |some kd2=>
   obtain⟨k2,d2⟩:=kd2;rw[ea,eb] at h;split at h
   ·rename_i bs1 xs h1;split at h
    ·rename_i bs2 ys h2;cases h
     cases tg with
     |Tuple es kk tp=>
      refine gH (G.C8 (ce O hg) (O.tab.bl _ (by simp[ax])) (bg av (bg av dG (ag hn2)) (ag hn)) (by rw[ag hn,ag hn2];rfl) (ag hn2)) ?_;refine two ha hb ea eb se λx y H1 s1 rx ry=>?_;obtain⟨a,s,rfl,l1,i1,_,p1,f1⟩:=gP se.mu s1 rx h1;obtain⟨b,u,rfl,l2,i2,_,p2,f2⟩:=gP se.mu s1 ry h2;exact⟨a,b,rfl,l1,l2,q _ (.two s u) H1 s1 (DC i1 i2) ⟨p1,p2⟩ ⟨f1.from_mono λi z=>N8 _ z,f2.from_mono λi z=>MN _ z⟩⟩
     |_=>exact absurd ht (by simp[j8])
    ·cases h
   ·cases h
noncomputable def Hb:D->Option String
 |.bl _=>P6 "bool"
 |.int _=>P6 "int"
 |.nd .lst _=>P6 "list"
 |_=>P7
noncomputable def oF(T:Str)(d:D):Option Bool:=match Hb d with
 |some t=>if T="int" then P6 (t=="int" || t=="bool") else if T="bool" then P6 (t=="bool") else if T="list" then P6 (t=="list") else P7
 |none=>P7
theorem Hc{t:String}(h:Rp K H S d v)(e:Hb d=P6 t):gx K H v (.type t):=by
 cases d with
 |bl b=>obtain rfl:=h.bl;cases e;exact .bl b
 |int b=>obtain rfl:=h.int;cases e;exact .int b
 |nd hd ds=>
  cases hd with
  |lst=>
   obtain⟨a,o,xs,rfl,_,g,q,r⟩:=h.nd;cases e;cases(show o=_ from q);exact .lst g
  |_=>cases e
 |_=>cases e
noncomputable def cv:List Str:=["int","bool","list"]
noncomputable def jl:List String:=["bool","int","list"]
theorem uR{p:String->Prop}(b:p "bool")(c:p "int")(e:p "list"):∀t∈jl,p t:=by
 intro t ht;simp only[jl,ML,Nb,or_false] at ht
 rcases ht with rfl|rfl|rfl<;>assumption
theorem zG{t:String}(ht:Hb d=P6 t):t∈jl:=by
 cases d with
 |nd hd ds=>cases hd with
  |lst=>cases ht;exact .tail _ (.tail _ (.head _))
  |_=>cases ht
 |bl _=>cases ht;exact .head _
 |int _=>cases ht;exact .tail _ (.head _)
 |_=>cases ht
theorem DD:∀t∈jl,ND K (.type t) (.type "int")=P6 (t=="int" || t=="bool"):=uR (by with_unfolding_all rfl) (by with_unfolding_all rfl) (by with_unfolding_all rfl)
theorem zH:∀t∈jl,ND K (.type t) (.type "bool")=P6 (t=="bool"):=uR (by with_unfolding_all rfl) (by with_unfolding_all rfl) (by with_unfolding_all rfl)
theorem zI:∀t∈jl,ND K (.type t) (.type "list")=P6 (t=="list"):=uR (by with_unfolding_all rfl) (by with_unfolding_all rfl) (by with_unfolding_all rfl)
theorem zK{T:Str}{b:Bool}(h:oF T d=P6 b):∃t T',Hb d=P6 t/\T∈cv/\bootBuiltins T=P6 (.type T')/\ND K (.type t) (.type T')=P6 b:=by
 unfold oF at h
 cases ht:Hb d with
 |none=>rw[ht] at h;cases h
 |some t=>
  rw[ht] at h;have hm:=zG ht;dsimp only at h;by_cases e0:T="int"
  ·subst e0;rw[if_pos rfl] at h;exact⟨t,"int",rfl,by simp[cv],by rfl,(DD t hm).trans h⟩
  by_cases e1:T="bool"
  ·subst e1;rw[if_neg (by decide),if_pos rfl] at h;exact⟨t,"bool",rfl,by simp[cv],by rfl,(zH t hm).trans h⟩
  by_cases e2:T="list"
  ·subst e2;rw[if_neg (by decide),if_neg (by decide),if_pos rfl] at h;exact⟨t,"list",rfl,by simp[cv],by rfl,(zI t hm).trans h⟩
  rw[if_neg e0,if_neg e1,if_neg e2] at h;cases h
noncomputable def qA(T:Str)(a:Option KD):Option KD:=match a with|some (_,d)=>bV (oF T d)|none=>P7
theorem He(O:ao X U c){fa:Ro->Option KD}{a:P9}{T:Str}{p p2 pos:Pos}(hg:fJ c.sc "isinstance" = P8)(hgT:fJ c.sc T=P8)(hn:ah a=P8)(ha:SndE X fa a):SndE X (λZ=>qA T (fa Z)) (.Call (.Name "isinstance" p) [a,.Name T p2] [] pos):=by
 intro Z kd d h g Y H Q se q;dsimp only[qA] at h;split at h
 ·rename_i ka da ea
  cases hi:oF T da with
  |none=>rw[hi] at h;cases h
  |some b=>
   rw[hi] at h;cases h;obtain⟨t,T',h1,h2,h3,h4⟩:=zK (K:=X.K) hi
   have hT:T∈ax/\T≠"__name__"/\(T==("__debug__":Str))=Qb:=by
    simp only[cv,ML,Nb,or_false] at h2
    rcases h2 with rfl|rfl|rfl|rfl|rfl|rfl<;>exact⟨by simp[ax],by decide,by decide⟩
   refine au (c5 oz (ce O hg) (O.tab.bl _ (by simp[ax])) PyProof.Rows.boot_isinstance (bg av (bg (yQ (v:=.ty T') (ce O hgT) (O.tab.bl _ hT.1) h3 rfl hT.2.1 hT.2.2) dG (ag rfl)) (ag hn)) (by decide) (by decide) (ag hn) (aU rfl)) ?_;exact ha Z _ _ ea g Y H _ se λv H1 s1 r1=>⟨v,T',_,b,rfl,Hc r1.rd h1,h4,q _ H1 s1 Bq⟩
 ·cases h
end
end J
namespace J
open PySem PySem.Spec L2
mutual
noncomputable def iA:D->Ow->Bool
 |.nd _ ds,.own es r=>eU ds es r
 |d,_=>qj d
noncomputable def eU:List D->List Ow->Ow->Bool
 |[],_,_=>P8
 |d::ds,es,r=>iA d (es.headD r)&&eU ds es.tail r
end
section
variable {K:Mz} {H H' H0:Hp} {S S':Pr} {g:Gh}
mutual
theorem Tr.clean(m:MuOk H S'):∀{d:D} {k:Ow} {v:V} {F:Pr},iA d k=P8->Tr K H S d k v F->Tr K H S' d k v F
 |.non,_,_,_,c,h=>by unfold Tr at h⊢;exact⟨h.1,h.2.im m rfl⟩
 |.bl _,_,_,_,c,h=>by unfold Tr at h⊢;exact⟨h.1,h.2.im m rfl⟩
 |.int _,_,_,_,c,h=>by unfold Tr at h⊢;exact⟨h.1,h.2.im m rfl⟩
 |.str _,_,_,_,c,h=>by unfold Tr at h⊢;exact⟨h.1,h.2.im m rfl⟩
 |.scr ns,k,_,_,c,h=>by simp[iA,qj] at c
 |.nd hd ds,.fz,_,_,c,h=>by
  have c:qj (.nd hd ds)=P8:=by simpa[iA] using c
  unfold Tr at h⊢;exact⟨h.1,h.2.im m c⟩
 |.nd hd ds,.own es r,v,F,c,h=>by
  have c:eU ds es r=P8:=by simpa[iA] using c
  unfold Tr at h⊢;obtain⟨a,o,xs,F',e,q1,q2,n1,n2,hF,t⟩:=h;refine⟨a,o,xs,F',e,q1,q2,n1,λhm z=>?_,hF,TrL.clean m c t⟩;obtain⟨o',e',n⟩:=m a z;rw[q1] at e';cases e'
  cases hd with
  |tup=>exact n _ q2
  |_=>exact absurd hm (by simp[Hd.mu])
theorem TrL.clean(m:MuOk H S'):∀{ds:List D} {es:List Ow} {r:Ow} {vs:List V} {F:Pr},eU ds es r=P8->TrL K H S ds es r vs F->TrL K H S' ds es r vs F
 |[],_,_,_,_,_,h=>by unfold TrL at h⊢;exact h
 |d::ds,es,r,vs,F,c,h=>by
  simp only[eU,MA] at c;unfold TrL at h⊢;obtain⟨y,ys,F1,F2,e,hF,dj,h1,h2⟩:=h;exact⟨y,ys,F1,F2,e,hF,dj,Tr.clean m c.1 h1,TrL.clean m c.2 h2⟩
end
noncomputable def j9:Kd->D->Bool
 |.sh,d=>qj d
 |.fr k,d=>iA d k
 |.bo _ _,_=>Qb
theorem VR.clean(c:j9 kd d=P8)(m:MuOk H0 (Sg g))(s:Same H0 H)(h:VR K g' H0 H kd d v):VR K g H0 H kd d v:=by
 obtain⟨F,h1,h2⟩:=h;have mm:MuOk H (Sx g F):=λb z=>z.elim (λz=>m.same s b z) λz=>h2.dom b z;refine⟨F,h1,?_⟩
 cases kd with
 |sh=>exact⟨h2.1,h2.2.im mm c⟩
 |fr k=>exact Tr.clean mm c h2
 |bo i k=>cases c
end
noncomputable def aX:Kd->Bool
 |.bo _ _=>P8
 |_=>Qb
noncomputable def qB(B:Fn)(kds:List KD):Option KD:=
 match B (kds.map (·.2)) with
 |some (kd,d)=>if(kds.all λp=>i0 p.1 p.2)=P8 then(if aX kd=P8 then P7 else P6 (kd,d)) else if j9 kd d=P8 then P6 (kd,d) else P7
 |none=>P7
noncomputable def wN(B:Option Fn)(a:Option (List KD)):Option KD:=match B,a with|some B,P6 kds=>qB B kds|_,_=>P7
section
variable {X:Cx} {U:eQ} {c:Cz}
theorem mG(K:Mz){B:Fn}{kds:List KD}{kd:Kd}{d:D}(h:qB B kds=P6 (kd,d)){g:Gh}{H0 H:Hp}{vs:List V}{Q:VK}{E:XK}(m:MuOk H0 (Sg g))(s:Same H0 H)(r:VRs K g H0 H kds vs)(q:∀v H',Same H H'->VR K g H0 H' kd d v->Q v H'):uN K B vs H Q E:=by
 unfold qB at h;split at h
 ·rename_i kd' d' e';split at h
  ·rename_i ok;split at h
   ·cases h
   ·cases h;exact⟨_,g,_,_,r.sh ok m s,m.same s,e',λv H2 s2 r2=>q v H2 s2 (r2.older s)⟩
  ·split at h
   ·rename_i cl;cases h;exact⟨_,λ_=>P7,_,_,r.rd.go (λb o n e=>⟨e,λz=>z rfl⟩),λa z=>absurd rfl z,e',λv H2 s2 r2=>q v H2 s2 ((r2.clean cl (m.same s) s2).older s)⟩
   ·cases h
 ·cases h
theorem J8(O:ao X U c){x:Str}{e:P9}{es:List P9}{p pos:Pos}{fa:Ro->Option (List KD)}(hf:jX X fa (e::es))(hg:fJ c.sc x=P8)(n1:ah e=P8)(n2:es.all ah=P8):SndE X (λZ=>wN (U.fn x) (fa Z)) (.Call (.Name x p) (e::es) [] pos):=by
 intro Z kd d h g Y H Q se q;dsimp only[wN] at h;split at h
 ·rename_i B kds hB he;refine au (Br (t:=wA X (e::es)) (λ_ _ _ _=>bh) (O.tab.fn x B hB) (ce O hg) cH (ag n1) (aU n2)) (hf Z _ he g Y H _ se λvs H1 s1 r1=>?_);exact mG X.K h se.mu s1 r1 λv H2 s2 r2=>q v H2 (s1.trans s2) r2
 ·cases h
theorem Hf(O:ao X U c){x:Str}{p pos:Pos}(hg:fJ c.sc x=P8):SndE X (λ_=>wN (U.fn x) (P6 [])) (.Call (.Name x p) [] [] pos):=by
 intro Z kd d h g Y H Q se q;dsimp only[wN] at h;split at h
 ·rename_i B kds hB he;cases he;refine au (Dh (O.tab.fn x B hB) (ce O hg)) ?_;exact mG (E:=λ_ _ _=>False) X.K h se.mu (Same.refl H) VRs.nil λv H2 s2 r2=>q v H2 s2 r2
 ·cases h
end
inductive IT where
 |nm (i:Nat)
 |tp (ts:List IT)
mutual
noncomputable def pQ:IT->D->Option (List (Nat×D))
 |.nm i,d=>P6 [(i,d)]
 |.tp ts,.nd .tup ds=>qC ts ds
 |_,_=>P7
noncomputable def qC:List IT->List D->Option (List (Nat×D))
 |[],[]=>P6 []
 |t::ts,d::ds=>match pQ t d,qC ts ds with
  |some a,P6 b=>P6 (a++b)
  |_,_=>P7
 |_,_=>P7
end
noncomputable def IY(d:D):Sl:=⟨Qb,.fz,d⟩
noncomputable def setAll:List (Nat×D)->Ro->Ro
 |[],Z=>Z
 |(i,d)::r,Z=>setAll r (Z.set i (P6 (IY d)))
noncomputable def wP(f:P9->Option IT):List P9->Option (List IT)
 |[]=>P6 []
 |e::es=>match f e,wP f es with
  |some a,P6 b=>P6 (a::b)
  |_,_=>P7
noncomputable def mH(c:Cz):Nat->P9->Option IT
 |0,_=>P7
 |n+1,e=>match e with
  |.Name x _=>if mx c x then(aN x c.N).map .nm else P7
  |.Tuple es _ _=>if es.all ah then(wP (mH c n) es).map .tp else P7
  |_=>P7
theorem SE.set{Z:Ro}{Y:L2.St}(h:SE K g Z Y H)(i:Nat){d:D}{v:V}(r:Rp K H (Sg g) d v):SE K g (Z.set i (P6 (IY d))) (Y.set i (P6 v)) H:=by
 refine⟨λj sl e=>?_,h.mu,by simp[h.len]⟩;by_cases hj:j=i
 ·subst hj
  have hlt:j<Z.length:=by
   have:=(MJ.mp e).1;simpa using this
  rw[MW hlt] at e;cases e;exact⟨v,_,MW (by rw[<- h.len];exact hlt),λb z=>z.elim,.fz r⟩
 ·rw[MV (Ne.symm hj)] at e⊢;exact h.slot j sl e
theorem SE.pass{Z:Ro}{Y:L2.St}(h:SE K g Z Y H)(i:Nat){v:V}(n:∀sl,Z[i]?≠P6 (P6 sl)):SE K g Z (Y.set i (P6 v)) H:=by
 refine⟨λj sl e=>?_,h.mu,by simp[h.len]⟩;have hj:j≠i:=λz=>n sl (z▸e);rw[MV (Ne.symm hj)];exact h.slot j sl e
noncomputable def gQ:List (Nat×V)->L2.St->L2.St
 |[],Y=>Y
 |(i,v)::r,Y=>gQ r (Y.set i (P6 v))
theorem oG:∀(a b:List (Nat×V)) (Y:L2.St),gQ (a++b) Y=gQ b (gQ a Y)
 |[],_,_=>rfl
 |(i,v)::a,b,Y=>oG a b _
section
variable {X:Cx} {U:eQ} {c:Cz}
noncomputable def RpP(K:Mz)(H:Hp)(S:Pr):List (Nat×D)->List (Nat×V)->Prop
 |[],vs=>vs=[]
 |(i,d)::r,vs=>∃v ws,vs=(i,v)::ws/\Rp K H S d v/\RpP K H S r ws
theorem RpP.app:∀{a b:List (Nat×D)} {x y:List (Nat×V)},RpP K H S a x->RpP K H S b y->RpP K H S (a++b) (x++y)
 |[],_,_,_,h,g=>by rw[(show _=[] from h)];exact g
 |(i,d)::a,b,_,y,h,g=>by
  obtain⟨v,ws,rfl,h1,h2⟩:=h;exact⟨v,ws++y,rfl,h1,RpP.app h2 g⟩
mutual
noncomputable def Bu(K:Mz):IT->TG
 |.nm i=>gu i
 |.tp ts=>FX K ts.length (oH K ts)
noncomputable def oH(K:Mz):List IT->vG
 |[]=>CD
 |t::ts=>vH (Bu K t) (oH K ts)
end
mutual
theorem gR:∀{t:IT} {d:D} {ps:List (Nat×D)} {v:V} {Y:L2.St} {Q:L2.St->Hp->Prop},pQ t d=P6 ps->Rp K H S d v->(∀vs,RpP K H S ps vs->Q (gQ vs Y) H)->Bu K t v Y H Q
 |.nm i,d,ps,v,Y,Q,ht,r,q=>by
  simp only[pQ] at ht;cases ht;simp only[Bu];exact q [(i,v)] ⟨v,[],rfl,r,rfl⟩
 |.tp ts,d,ps,v,Y,Q,ht,r,q=>by
  cases d with
  |nd hd ds=>
   cases hd with
   |tup=>
    simp only[pQ] at ht;obtain⟨a,o,xs,rfl,_,g1,q1,rl⟩:=r.nd;cases(show o=_ from q1);obtain⟨h1,h2⟩:=kf ht rl q;simp only[Bu];exact⟨a,xs,rfl,.of g1,h2,h1⟩
   |_=>simp[pQ] at ht
  |_=>simp[pQ] at ht
theorem kf:∀{ts:List IT} {ds:List D} {ps:List (Nat×D)} {vs:List V} {Y:L2.St} {Q:L2.St->Hp->Prop},qC ts ds=P6 ps->RpL K H S ds vs->(∀ws,RpP K H S ps ws->Q (gQ ws Y) H)->oH K ts vs Y H Q/\vs.length=ts.length
 |[],[],ps,vs,Y,Q,ht,r,q=>by
  simp only[qC] at ht;cases ht;simp only[oH];rw[r.nil_inv];exact⟨⟨rfl,q [] rfl⟩,rfl⟩
 |t::ts,d::ds,ps,vs,Y,Q,ht,r,q=>by
  simp only[qC] at ht;split at ht
  ·rename_i a b ha hb;cases ht;obtain⟨y,ys,rfl,r1,r2⟩:=r.cons_inv;simp only[oH];have len:=(kf (Y:=Y) (Q:=λ_ _=>True) hb r2 λ_ _=>trivial).2;refine⟨⟨y,ys,rfl,gR ha r1 λvs1 h1=>(kf hb r2 λvs2 h2=>?_).1⟩,by simp[len]⟩;have:=q (vs1++vs2) (h1.app h2);rw[oG] at this;exact this
  ·cases ht
 |[],_::_,ps,vs,Y,Q,ht,r,q=>by simp[qC] at ht
 |_::_,[],ps,vs,Y,Q,ht,r,q=>by simp[qC] at ht
end
theorem cI(h:ah e=P8):Qr (e::es) env=(Qb,assign e env)::Qr es env:=by
 cases e<;>first|rfl|cases h
theorem oI(O:ao X U c):∀(n:Nat) {e:P9} {t:IT},mH c n e=P6 t->PG X e (Bu X.K t)
 |0,e,t,h=>by cases h
 |n+1,e,t,h=>by
  have ih:∀{e:P9} {t:IT},mH c n e=P6 t->PG X e (Bu X.K t):=λh=>oI O n h
  have lst:∀{es:List P9} {ts:List IT},es.all ah=P8->wP (mH c n) es=P6 ts->CB X es (oH X.K ts)/\(Qr es X.env).length=ts.length/\(Qr es X.env).findIdx? (·.1)=P7:=by
   intro es
   induction es with
   |nil=>intro ts _ h;cases h;simp only[oH];exact⟨rP,rfl,rfl⟩
   |cons e es ihe=>
    intro ts hn h;rw[Nu,MA] at hn;unfold wP at h;split at h
    ·rename_i a b ha hb;cases h;obtain⟨g1,g2,g3⟩:=ihe hn.2 hb;simp only[oH];refine⟨nO (ih ha) g1 (by rw[cI hn.1];rfl),by rw[cI hn.1,MY,g2];rfl,?_⟩;rw[cI hn.1,Na];simp[g3]
    ·cases h
  unfold mH at h;split at h
  ·rename_i x p;split at h
   ·rename_i hl
    cases hi:aN x c.N with
    |none=>rw[hi] at h;cases h
    |some i=>
     rw[hi] at h;cases h;have l:=j3 O hl;simp only[Bu];exact rO (i:=i) (by rw[O.N];exact O.nd) (by rw[O.N];exact aK hi) l.1 l.2
   ·cases h
  ·rename_i es k p;split at h
   ·rename_i hn
    cases hs:wP (mH c n) es with
    |none=>rw[hs] at h;cases h
    |some ts=>
     rw[hs] at h;cases h;obtain⟨g1,g2,g3⟩:=lst hn hs;simp only[Bu];exact vI O.calm g1 g2 g3
   ·cases h
  ·cases h
theorem SE.setAll{H:Hp}:∀{ps:List (Nat×D)} {vs:List (Nat×V)} {Z:Ro} {Y:L2.St},RpP K H (Sg g) ps vs->SE K g Z Y H->SE K g (setAll ps Z) (gQ vs Y) H
 |[],vs,Z,Y,h,se=>by rw[(show vs=[] from h)];exact se
 |(i,d)::ps,vs,Z,Y,h,se=>by
  obtain⟨v,ws,rfl,h1,h2⟩:=h;exact SE.setAll (Z:=Z.set i (P6 (IY d))) (vs:=ws) (Y:=Y.set i (P6 v)) h2 (se.set i h1)
noncomputable def bI(ps:List (Nat×D))(Z:Ro):Bool:=ps.all λp=>match Z[p.1]? with|some P7=>P8|_=>Qb
theorem SE.passAll{H:Hp}:∀{ps:List (Nat×D)} {vs:List (Nat×V)} {Z:Ro} {Y:L2.St},RpP K H S ps vs->bI ps Z=P8->SE K g Z Y H->SE K g Z (gQ vs Y) H/\∀(j:Nat) sl,Z[j]?=P6 (P6 sl)->(gQ vs Y)[j]?=Y[j]?
 |[],vs,Z,Y,h,_,se=>by rw[(show vs=[] from h)];exact⟨se,λ_ _ _=>rfl⟩
 |(i,d)::ps,vs,Z,Y,h,hn,se=>by
  obtain⟨v,ws,rfl,h1,h2⟩:=h;simp only[bI,Nu,MA] at hn
  have ni:∀sl,Z[i]?≠P6 (P6 sl):=λsl e=>by
   have:=hn.1;rw[e] at this;cases this
  obtain⟨a1,a2⟩:=SE.passAll h2 (by simpa[bI] using hn.2) (se.pass i (v:=v) ni);exact⟨a1,λj sl e=>(a2 j sl e).trans (MV (λz=>ni sl (by rw[z];exact e)))⟩
end
end J
namespace J
open PySem PySem.Spec L2
noncomputable def Gh.re(m:Nat->Option Nat)(g:Gh):Gh:=λb=>match g b with
 |some (P6 i)=>P6 (m i)
 |x=>x
section
variable {K:Mz} {H H':Hp} {g:Gh} {F F2:Pr} {m:Nat->Option Nat}
theorem jm(b:Qc):Sg (g.re m) b↔Sg g b:=by
 unfold Gh.re Sg
 cases h:g b with
 |none=>simp[h]
 |some x=>cases x<;>simp[h]
theorem iB:(g.plus F).plus F2=g.plus (λb=>F b\/F2 b):=by
 funext b;unfold Gh.plus;by_cases h2:F2 b
 ·simp[h2]
 ·by_cases h1:F b
  ·simp[h1]
  ·simp[h1,h2]
theorem aO(h:F b):g.plus F b=P6 P7:=by
 unfold Gh.plus;rw[if_pos h]
theorem SE.upd(h:SE K g Z Y H)(hp:g p=P6 P7)(ho:∀xs,o≠.tup xs):SE K g Z Y (upd H p o):=by
 have kk:∀b o',b≠p->H b=P6 o'->L2.upd H p o b=P6 o':=λb o' n e=>by rw[ad n];exact e
 refine⟨λi sl e=>?_,λb z=>?_,h.len⟩
 ·obtain⟨v,F,e1,e2,e3⟩:=h.slot i sl e;refine⟨v,F,e1,e2,e3.go (λb o' hb e=>kk b o' (λz=>?_) e) λ_ _ _ n=>n⟩;subst z;rcases hb with hb|hb
  ·exact hb (by rw[Sg,hp];simp)
  ·rw[e2 b hb] at hp;cases hp
 ·by_cases hb:b=p
  ·exact⟨o,by rw[hb];exact ai,ho⟩
  ·obtain⟨o',e,n⟩:=h.mu b z;exact⟨o',kk b o' hb e,n⟩
noncomputable def a9(Z:Ro)(cap:List (Option Nat)):Ro:=cap.map λo=>o.bind λi=>(Z[i]?).join
noncomputable def iC(cap:List (Option Nat))(i:Nat):Option Nat:=cap.findIdx? λo=>o==P6 i
noncomputable def kg(cap:List (Option Nat)):Bool:=decide (cap.filterMap id).Nodup
theorem sw:∀{cap:List (Option Nat)} {j i:Nat},(cap.filterMap id).Nodup->cap[j]?=P6 (P6 i)->iC cap i=P6 j
 |[],j,i,_,e=>by simp at e
 |o::cap,0,i,hn,e=>by
  simp at e;subst e;simp[iC,Na]
 |o::cap,j+1,i,hn,e=>by
  have e':cap[j]?=P6 (P6 i):=by simpa using e
  have hm:i∈cap.filterMap id:=OB.mpr ⟨P6 i,Nf e',rfl⟩
  have hno:(o==P6 i)=Qb:=by
   cases o with
   |none=>rfl
   |some k=>
    simp only[NX,id] at hn;have:=(M3.mp hn).1;simp only[beq_eq_false_iff_ne,ne_eq,Option.some.injEq];intro z;subst z;exact this hm
  have hn':(cap.filterMap id).Nodup:=by
   cases o with
   |none=>simpa using hn
   |some k=>simp only[NX,id] at hn;exact(M3.mp hn).2
  have ih:=sw hn' e';unfold iC at ih⊢;rw[Na,hno,ih];rfl
theorem SE.cap(h:SE K g Z Y H){cap:List (Option Nat)}(hc:kg cap=P8):SE K (g.re (iC cap)) (a9 Z cap) (cu Y cap) H:=by
 refine⟨λj sl e=>?_,λb z=>h.mu b ((jm b).mp z),by simp[a9,cu]⟩;unfold a9 at e;unfold cu;rw[MF] at e⊢
 cases q:cap[j]? with
 |none=>rw[q] at e;cases e
 |some o=>
  rw[q] at e
  cases o with
  |none=>cases e
  |some i=>
   have e':(Z[i]?).join=P6 sl:=by simpa using e
   have e2:Z[i]?=P6 (P6 sl):=by
    cases z:Z[i]? with
    |none=>rw[z] at e';cases e'
    |some w=>rw[z] at e';have:w=P6 sl:=e';rw[this]
   obtain⟨v,F,g1,g2,g3⟩:=h.slot i sl e2;refine⟨v,F,by simp[g1],λb z=>?_,g3.go (λ_ _ _ h=>h) λb o _ n z=>n ((jm b).mp z)⟩;unfold Gh.re;rw[g2 b z];show P6 (iC cap i)=_;rw[sw (by simpa[kg] using hc) q]
end
noncomputable def eL(scope sc:Qo):Qo:=
 { scope with names:=scope.names.map λ(n,k)=>if(k==.free&&sc.kind==.function&&sc.names.lookup n==P6 .cell) then(n,.cell) else(n,k) }
theorem zM{env:Env}(h:env.scope=sc):relabel scope env=eL scope sc:=by
 subst h;rfl
noncomputable def aq(c:Cz)(scope:Qo):List (Option Nat):=scope.names.map λ(x,k)=>if k=.free then aN x c.N else P7
noncomputable def ac(scope:Qo):List Str:=scope.names.map (·.1)
noncomputable def aW(c:Cz)(scope:Qo):Bool:=
 scope.kind==.function&&decide (ac scope).Nodup&&kg (aq c scope)&&scope.names.all λ(x,k)=>(k != .free||c.sc.names.lookup x==P6 .cell||c.sc.names.lookup x==P6 .free)
theorem cN:∀{l:List (Str×Qt)} {x:Str} {k:Qt},(l.map (·.1)).Nodup->(x,k)∈l->l.lookup x=P6 k
 |(y,j)::r,x,k,hn,hm=>by
  rw[MZ];rw[MU,M3] at hn;rcases ML.mp hm with e|hm
  ·cases e;simp
  ·have:x≠y:=λz=>hn.1 (by rw[<- z];exact M2.mpr ⟨(x,k),hm,rfl⟩);have e:(x==y)=Qb:=by simpa using this
   rw[e];exact cN hn.2 hm
theorem c8(O:ao X U c)(h:aW c scope=P8):eO X (ac scope) scope (aq c scope):=by
 simp only[aW,MA,decide_eq_true_eq,NW,beq_iff_eq] at h;obtain⟨⟨⟨h1,h2⟩,_⟩,h3⟩:=h;have hk:∀x,X.env.kindOf x=c.sc.names.lookup x:=λx=>by show X.env.scope.names.lookup x=_;rw[O.sc]
 have free:∀y∈scope.names,y.2=.free->X.env.kindOf y.1=P6 .cell\/X.env.kindOf y.1=P6 .free:=λy hy e=>by
  have:=h3 y hy;simp only[NS,bne_iff_ne,beq_iff_eq] at this;rw[hk];rcases this with(z|z)|z
  ·exact absurd e z
  ·exact .inl z
  ·exact .inr z
 refine⟨h1,λy hy e=>?_,λy hy e=>?_,free,by simp[aq,ac],λj i x hj hc=>?_⟩
 ·obtain⟨x,k⟩:=y;have e':k=.cell:=e;subst e';exact cN h2 hy
 ·obtain⟨x,k⟩:=y;have e':k=.local:=e;subst e';exact cN h2 hy
 ·unfold ac at hj;unfold aq at hc;rw[MF] at hj hc
  cases q:scope.names[j]? with
  |none=>rw[q] at hj;cases hj
  |some y=>
   rw[q] at hj hc;obtain⟨y,k⟩:=y;cases hj
   have hc':(if k=.free then aN y c.N else P7)=P6 i:=by simpa using hc
   split at hc'
   ·rename_i e;subst e;have hm:=Nf q;exact⟨by rw[O.N];exact aK hc',cN h2 hm,free _ hm rfl⟩
   ·cases hc'
theorem cr{c:Cz}(O:ao X U c)(h:aW c scope=P8)(C:Qc)(s:Qd)(H:Hp)(ex:List Qc):ao (aj X (ac scope) scope C s H ex) U ⟨eL scope c.sc,ac scope,eR scope⟩:=by
 simp only[aW,MA,decide_eq_true_eq] at h;exact⟨zM O.sc,rfl,λx z=>z,O.calm,h.1.1.2,⟨O.tab.fn,O.tab.cf,O.tab.fm,O.tab.bl,O.tab.units,O.tab.gd,O.tab.cst⟩⟩
noncomputable def dH(tg:IT)(ft:Ro->Option Bool)(fe:Ro->Option KD)(Z0:Ro)(d:D):Option (Option KD):=match pQ tg d with
 |some ps=>if bI ps Z0=P8 then(match ft (setAll ps Z0) with|some P8=>(fe (setAll ps Z0)).map P6|some Qb=>P6 P7|none=>P7) else P7
 |none=>P7
noncomputable def aM(r:Ow)(f:D->Option (Option KD)):List D->Option (List D)
 |[]=>P6 []
 |d::ds=>match f d,aM r f ds with
  |some (P6 kd),P6 ys=>if bB r kd=P8 then P6 (kd.2::ys) else P7
  |some P7,P6 ys=>P6 ys
  |_,_=>P7
theorem iF:∀{a b:List D} {ys:List D},aM r f (a++b)=P6 ys->∃x y,aM r f a=P6 x/\aM r f b=P6 y/\ys=x++y
 |[],b,ys,h=>⟨[],ys,rfl,h,rfl⟩
 |d::a,b,ys,h=>by
  rw[NM] at h;unfold aM at h;split at h
  ·rename_i kd zs e1 e2;split at h
   ·rename_i hf;cases h;obtain⟨x,y,h1,h2,rfl⟩:=iF e2;exact⟨kd.2::x,y,by simp[aM,e1,h1,hf],h2,rfl⟩
   ·cases h
  ·rename_i zs e1 e2;cases h;obtain⟨x,y,h1,h2,rfl⟩:=iF e2;exact⟨x,y,by simp[aM,e1,h1],h2,rfl⟩
  ·cases h
theorem kh{a:List D}{d:D}{x:List D}(h:aM r f a=P6 x){y:List D}(h1:aM r f [d]=P6 y):aM r f (a++[d])=P6 (x++y):=by
 induction a generalizing x with
 |nil=>cases h;exact h1
 |cons e a ih=>
  unfold aM at h;rw[NM];unfold aM;split at h
  ·rename_i kd zs e1 e2;split at h
   ·rename_i hf;cases h;rw[e1,ih e2];simp[hf]
   ·cases h
  ·rename_i zs e1 e2;cases h;rw[e1,ih e2]
  ·cases h
theorem qD{f:D->Option (Option KD)}{ds ys:List D}(h:aM r f ds=P6 ys){i:Nat}{d:D}(e:ds[i]?=P6 d){x:List D}(hx:aM r f (ds.take i)=P6 x) :
  (f d=P6 P7/\aM r f (ds.take (i+1))=P6 x)\/∃kd,f d=P6 (P6 kd)/\bB r kd=P8/\aM r f (ds.take (i+1))=P6 (x++[kd.2]):=by
 have hs:ds=ds.take i++(d::ds.drop (i+1)):=by
  obtain⟨hl,rfl⟩:=MJ.mp e;rw[<- M6 hl,NE]
 have ht:ds.take (i+1)=ds.take i++[d]:=by rw[NK,e];rfl
 rw[hs] at h;obtain⟨_,y,_,h2,_⟩:=iF h;unfold aM at h2;rw[ht];split at h2
 ·rename_i kd zs e1 e2;split at h2
  ·rename_i hf;exact .inr ⟨kd,e1,hf,kh hx (by simp[aM,e1,hf])⟩
  ·cases h2
 ·rename_i zs e1 e2;exact .inl ⟨e1,by simpa using kh hx (y:=[]) (by simp[aM,e1])⟩
 ·cases h2
noncomputable def lI(r:Ow)(it:Option (List Nat×List D))(f:D->Option (Option KD)):Option KD:=match it with
 |some (_,ds)=>if ds.length<=100000 then(match aM r f ds with|some ys=>P6 (.fr (.own [] r),.lst ys)|none=>P7) else P7
 |none=>P7
theorem iG:∀{ds ys:List D},aM r f ds=P6 ys->ys.length<=ds.length
 |[],ys,h=>by cases h;exact MH _
 |d::ds,ys,h=>by
  unfold aM at h;split at h
  ·rename_i kd zs e1 e2;split at h
   ·cases h;have:=iG e2;simp;lia
   ·cases h
  ·rename_i zs e1 e2;cases h;have:=iG e2;simp;lia
  ·cases h
section
variable {K:Mz} {H:Hp} {S:Pr}
theorem TrL.snoc:∀{ds:List D} {r:Ow} {us:List V} {F F2:Pr} {d:D} {v:V},TrL K H S ds [] r us F->Tr K H S d r v F2->(∀b,F b->¬F2 b)->TrL K H S (ds++[d]) [] r (us++[v]) (λb=>F b\/F2 b)
 |[],r,us,F,F2,d,v,h,t,dj=>by
  unfold TrL at h;obtain⟨rfl,hn⟩:=h;show TrL K H S [d] [] r [v] _;unfold TrL;refine⟨v,[],F2,λ_=>False,rfl,λb=>⟨λz=>.inl (z.elim (λz=>absurd z (hn b)) id),λz=>z.elim .inr λz=>z.elim⟩,λ_ _ z=>z,t,?_⟩;unfold TrL;exact⟨rfl,λ_ z=>z⟩
 |e::ds,r,us,F,F2,d,v,h,t,dj=>by
  unfold TrL at h;obtain⟨y,ys,F1,F3,rfl,hF,dj1,h1,h2⟩:=h;show TrL K H S (e::(ds++[d])) [] r (y::(ys++[v])) _;unfold TrL;refine⟨y,ys++[v],F1,λb=>F3 b\/F2 b,rfl,λb=>?_,λb z1 z2=>?_,h1,TrL.snoc h2 t λb z=>dj b ((hF b).mpr (.inr z))⟩
  ·show F b\/F2 b↔F1 b\/F3 b\/F2 b;rw[hF b,or_assoc]
  ·rcases z2 with z2|z2
   ·exact dj1 b z1 z2
   ·exact dj b ((hF b).mpr (.inl z1)) z2
end
end J
namespace J
open PySem PySem.Spec L2
noncomputable def DF(X:Cx)(ifs:List P9):TT:=λY H Q=>∀pins s,Inv X pins Y H s->Qf (Qg X.prog X.w) X.A (forIn ifs P8 λc r=>if r=P8 then do let ok <- isTrue c X.env (eval c X.env);pure (ForInStep.yield ok) else pure (ForInStep.yield r)) (TP X pins Y Q) X.xe s
theorem mI{tt:TT}(p:zj X ifs tt){Y:L2.St}{H:Hp}{Q:Bool->Hp->Prop}(h:tt Y H Q):DF X ifs Y H Q:=λpins s I=>p pins s Y H Q I h
noncomputable def i6(X:Cx)(f:Ro->Option Bool)(ifs:List P9):Prop:=∀Z b,f Z=P6 b->∀g Y H Q,SE X.K g Z Y H->(∀H',Same H H'->Q b H')->DF X ifs Y H Q
theorem Bv:i6 X (λ_=>P6 P8) []:=λZ b h g Y H Q se q=>by cases h;exact mI rY (q H (Same.refl H))
theorem Hg{e:P9}(h:SndT X f e):i6 X f [e]:=λZ b hb g Y H Q se q=>mI (rZ gG) (h Z b hb g Y H Q se q)
section
variable {X:Cx} {U:eQ} {c:Cz}
theorem wQ(O:ao X U c){r:Ow}{fi:Ro->Option (List Nat×List D)}{ft:Ro->Option Bool}{fe:Ro->Option KD}{elt tg iter:P9}{ifs:List P9}{scope:Qo}{t:IT}{n:Nat}(hck:aW c scope=P8)(hi:SndI X fi tg iter)
  (htg:mH ⟨eL scope c.sc,ac scope,eR scope⟩ n tg=P6 t)
  (hft:∀C s H ex,i6 (aj X (ac scope) scope C s H ex) ft ifs) (hfe:∀C s H ex,SndE (aj X (ac scope) scope C s H ex) fe elt)
  {Z:Ro} {kd:Kd} {d:D} (h:lI r (fi Z) (dH t ft fe (a9 Z (aq c scope)))=P6 (kd,d)) {g:Gh} {Y:L2.St} {H:Hp} {Q:VK} (se:SE X.K g Z Y H) (q:∀v H',Same H H'->VR X.K g H H' kd d v->Q v H') :
  ir (wI X tg iter) (λv Y H Q=>∀C s H0 ex,wG (aj X (ac scope) scope C s H0 ex) tg v Y H Q) (λY H Q=>∀C s H0 ex,DF (aj X (ac scope) scope C s H0 ex) ifs Y H Q) (λY H Q=>∀C s H0 ex,wE (aj X (ac scope) scope C s H0 ex) elt Y H Q) (aq c scope) Y H Q:=by
 have hcap:kg (aq c scope)=P8:=by
  simp only[aW,MA] at hck;exact hck.1.2
 unfold lI at h;split at h
 ·rename_i bs ds hit;split at h
  ·rename_i hlen;split at h
   ·rename_i ys hm;cases h;have CO:=cr O hck;refine hi Z bs ds hit g Y H _ se λjj src H1 s1 jt sp sf D hD=>?_;have se1:SE X.K (g.re (iC (aq c scope))) (a9 Z (aq c scope)) (cu Y (aq c scope)) H1:=(se.same s1).cap hcap;generalize hg':g.re (iC (aq c scope))=g' at se1;have gS:∀b,Sg g' b↔Sg g b:=λb=>by rw[<- hg'];exact jm b
    generalize hZ:a9 Z (aq c scope)=Zc at se1 hm;generalize hY:cu Y (aq c scope)=Yc at se1;clear hZ hY
    refine⟨λi m Y' H'=>m=ds.length-i/\i<=ds.length/\∃(Fi:Pr) (us:List V) (yi:List J.D),aM r (dH t ft fe Zc) (ds.take i)=P6 yi/\(∀b,Fi b->H1 b=P7/\b≠D)/\SE X.K (g'.plus λb=>b=D\/Fi b) Zc Y' H'/\
      (∀b o,H1 b=P6 o->H' b=P6 o)/\H' D=P6 (.lst us)/\TrL X.K H' (Sx g λb=>b=D\/Fi b) yi [] r us Fi,
     ⟨ds.length,by simp,M4 _,λ_=>False,[],[],by simp[aM],λb z=>z.elim,?_,λb o e=>ak hD _ _ e,ai,by unfold TrL;exact⟨rfl,λ_ z=>z⟩⟩,?_⟩
    ·exact se1.plus (ak hD) (λb z=>z.elim (λz=>z▸hD) λz=>z.elim) λb z=>z.elim (λz=>⟨.lst [],z▸ai,λxs h=>by cases h⟩) λz=>z.elim
    rintro i m Y' H' ⟨rfl,hi',Fi,us,yi,hyi,hFi,se',kk,gD,tr⟩
    have gpS:∀b,Sg (g'.plus λb=>b=D\/Fi b) b↔Sx g (λb=>b=D\/Fi b) b:=λb=>(am b).trans (or_congr (gS b) Iff.rfl);have hnew:∀b o,H1 b=P6 o->¬(b=D\/Fi b):=λb o e z=>z.elim (λz=>by rw[z,hD] at e;cases e) λz=>by rw[(hFi b z).1] at e;cases e
    have sp':src.P X.K (g'.plus λb=>b=D\/Fi b) H':=Src.mono (λb o e n z=>((gpS b).mp z).elim n (hnew b o e)) (λb o _ e=>kk b o e) (λa e=>sf.from_t e) sp;obtain⟨j1,j2⟩:=jt i _ H' sp' se'.mu;by_cases hlt:i<ds.length
    ·have hd:ds[i]?=P6 ds[i]:=MK hlt;obtain⟨go,yl⟩:=j2 _ hd;refine .inr ⟨go,λx H2 hy C s0 H0 ex=>?_⟩;obtain⟨s2,rx⟩:=yl x H2 hy;have st:=qD hm hd hyi
     have stuck:∃o,dH t ft fe Zc ds[i]=P6 o:=by
      rcases st with⟨e,_⟩|⟨kd,e,_⟩
      ·exact⟨_,e⟩
      ·exact⟨_,e⟩
     obtain⟨o0,ho0⟩:=stuck;have he:=ho0;unfold dH at he;split at he
     ·rename_i ps hps;split at he
      ·rename_i hno;refine sd (oI (CO C s0 H0 ex) n htg) (gR hps rx λvs hvs C1 s01 H01 ex1=>?_);have t1:=SE.setAll hvs (se'.same s2);obtain⟨t2,t3⟩:=SE.passAll hvs hno (se'.same s2);split at he
       ·rename_i hT
        -- the test holds
        refine hft C1 s01 H01 ex1 _ P8 hT _ _ _ _ t1 λH3 s3=>vY λC2 s02 H02 ex2=>?_
        cases hke:fe (setAll ps Zc) with
        |none=>rw[hke] at he;cases he
        |some ke=>
         rw[hke] at he;cases he;obtain⟨ky,y⟩:=ke
         have st2:bB r (ky,y)=P8/\aM r (dH t ft fe Zc) (ds.take (i+1))=P6 (yi++[y]):=by
          rcases st with⟨e,_⟩|⟨kd,e,e2,e3⟩
          ·rw[ho0] at e;cases e
          ·rw[ho0] at e;cases e;exact⟨e2,e3⟩
         refine hfe C2 s02 H02 ex2 _ ky y hke _ _ H3 _ (t1.same s3) λvy H4 s4 r4=>?_;obtain⟨Fy,y1,y2⟩:=r4;have zN:Same H' H4:=(s2.trans s3).trans s4;have seE:SE X.K (g'.plus λb=>b=D\/Fi b) Zc (gQ vs Y') H3:=t2.same s3
         have hgy:∀b,Fy b->(g'.plus λb=>b=D\/Fi b) b=P7:=λb z=>by
          cases e:(g'.plus λb=>b=D\/Fi b) b with
          |none=>rfl
          |some k=>
           obtain⟨o,q2,_⟩:=seE.mu b (by rw[Sg,e];simp);rw[y1 b z] at q2;cases q2
         have mm:MuOk H4 (Sx (g'.plus λb=>b=D\/Fi b) Fy):=λb z=>z.elim (λz=>seE.mu.same s4 b z) λz=>y2.dom b z;obtain⟨F2,a1,a2⟩:=VR1.fit (p:=(ky,y)) st2.1 mm hgy (λb z=>z) y2;have gD4:H4 D=P6 (.lst us):=zN _ _ gD;have nF2D:¬F2 D:=λz=>by have:=y1 D (a1 D z);rw[(s2.trans s3) _ _ gD] at this;cases this
         have nF2:∀b,F2 b->H' b=P7:=λb z=>(s2.trans s3).free (y1 b (a1 b z))
         have hul:us.length<=i:=by
          rw[tr.len];exact M0 (iG hyi) (by rw[M8];lia)
         have kD:∀b o,b≠D->H4 b=P6 o->upd H4 D (.lst (us++[vy])) b=P6 o:=λb o n e=>by rw[ad n];exact e
         refine⟨us,gD4,M9 hul (MG hlt (aF hlen)),ds.length-(i+1),by lia,rfl,hlt,λb=>Fi b\/F2 b,us++[vy],yi++[y],st2.2,λb z=>?_,?_,λb o e=>?_,ai,?_⟩
         ·rcases z with z|z
          ·exact hFi b z
          ·refine⟨?_,λe=>nF2D (e▸z)⟩
           cases e:H1 b with
           |none=>rfl
           |some o=>have:=nF2 b z;rw[kk b o e] at this;cases this
         ·have e1:(g'.plus λb=>b=D\/(Fi b\/F2 b))=(g'.plus λb=>b=D\/Fi b).plus F2:=by
           rw[iB];congr 1;funext b;exact propext ⟨λz=>z.elim (λz=>.inl (.inl z)) λz=>z.elim (λz=>.inl (.inr z)) .inr,λz=>z.elim (λz=>z.elim .inl λz=>.inr (.inl z)) λz=>.inr (.inr z)⟩
          rw[e1];refine SE.upd (seE.plus s4 (λb z=>y1 b (a1 b z)) λb z=>y2.dom b (a1 b z)) ?_ (λxs h=>by cases h);rw[iB];exact aO (.inl (.inl rfl))
         ·exact kD b o (λz=>hnew b o e (.inl z)) (zN _ _ (kk b o e))
         ·refine TrL.snoc (tr.go (λb o hb e=>kD b o (λz=>?_) (zN _ _ e)) λb o e n z=>?_) ((a2 (λb=>g b≠P7\/b=D\/Fi b\/F2 b) λb z=>?_).go (λb o hb e=>kD b o (λz=>?_) e) λb o e n z=>n z) λb z1 z2=>?_
          ·subst z;exact hb.elim (λz=>z (.inr (.inl rfl))) λz=>(hFi b z).2 rfl
          ·rcases z with z|z|z|z
           ·exact n (.inl z)
           ·exact n (.inr (.inl z))
           ·exact n (.inr (.inr z))
           ·rw[nF2 b z] at e;cases e
          ·rcases z with z|z|z|z
           ·exact .inr (.inl ((gpS b).mpr (.inl z)))
           ·exact .inr (.inl ((gpS b).mpr (.inr (.inl z))))
           ·exact .inr (.inl ((gpS b).mpr (.inr (.inr z))))
           ·exact .inr (.inr (.inl z))
          ·subst z;exact hb.elim (λz=>z (.inr (.inl rfl))) nF2D
          ·obtain⟨o,e,_⟩:=tr.dom b z1;rw[nF2 b z2] at e;cases e
       ·rename_i hT;cases he
        have st2:aM r (dH t ft fe Zc) (ds.take (i+1))=P6 yi:=by
         rcases st with⟨_,e⟩|⟨kd,e,_⟩
         ·exact e
         ·rw[ho0] at e;cases e
        refine hft C1 s01 H01 ex1 _ Qb hT _ _ _ _ t1 λH3 s3=>vX ?_;have jA:=s2.trans s3;exact⟨ds.length-(i+1),by lia,rfl,hlt,Fi,us,yi,st2,hFi,t2.same s3,λb o e=>jA _ _ (kk b o e),jA _ _ gD,tr.go (λb o _ e=>jA _ _ e) λ_ _ _ n=>n⟩
       ·cases he
      ·cases he
     ·cases he
    ·have e:i=ds.length:=by lia
     subst e;rw[Nk,hm] at hyi;cases hyi;refine .inl ⟨j1 (MH _),q _ H' (λb o e=>kk b o (s1 _ _ e)) ⟨λb=>b=D\/Fi b,λb z=>s1.free (z.elim (λz=>z▸hD) λz=>(hFi b z).1),?_⟩⟩;show Tr _ _ _ _ _ _ _;unfold Tr
     exact⟨D,_,us,Fi,rfl,gD,rfl,λ_ z=>(hFi D z).2 rfl,(λh=>nomatch h),λb=>⟨λz=>z.imp (λz=>⟨rfl,z⟩) id,λz=>z.imp (λz=>z.2) id⟩,tr⟩
   ·cases h
  ·cases h
 ·cases h
noncomputable def c9:P9->Bool
 |.Set ..=>Qb
 |_=>P8
theorem cW(h:c9 e=P8)(x:Qa):foldedSetIterable e env x=pure x:=by
 cases e<;>first|rfl|cases h
theorem DG(O:ao X U c){r:Ow}{fi:Ro->Option (List Nat×List D)}{ft:Ro->Option Bool}{fe:Ro->Option KD}{elt tg iter:P9}{ifs:List P9}{scope:Qo}{pos:Pos}{t:IT}{n:Nat}(hck:aW c scope=P8)(hns:c9 iter=P8)(hi:SndI X fi tg iter)
  (htg:mH ⟨eL scope c.sc,ac scope,eR scope⟩ n tg=P6 t)
  (hft:∀C s H ex,i6 (aj X (ac scope) scope C s H ex) ft ifs) (hfe:∀C s H ex,SndE (aj X (ac scope) scope C s H ex) fe elt) :
  SndE X (λZ=>lI r (fi Z) (dH t ft fe (a9 Z (aq c scope)))) (.ListComp elt [⟨tg,iter,ifs,0⟩] scope pos):=by
 intro Z kd d h g Y H Q se q
 exact au (oe (N':=ac scope) (cap:=aq c scope) O.calm (c8 O hck) uJ
  (λC s H0 ex pins s' Y' H' v u Q' I r hh=>uK pins s' Y' H' v u Q' I r (hh C s H0 ex)) (λC s H0 ex pins s' Y' H' Q' I hh=>hh C s H0 ex pins s' I) (λC s H0 ex pins s' Y' H' Q' I hh=>hh C s H0 ex pins s' I) (cW hns)) (wQ O hck hi htg hft hfe h se q)
end
end J
namespace J
open PySem PySem.Spec L2
mutual
inductive IE where
 |var (i:Nat)
 |lit (d:D)
 |bin (op:Qv) (a b:IE)
 |cmp (op:Qu) (a b:IE)
 |chain (op op':Qu) (a b d:IE)
 |neg (a:IE)
 |not (a:IE)
 |bool (op:BoolOp) (es:IEs)
 |ifx (t a b:IE)
 |lst (k:Ow) (es:IEs)
 |tup (k:Ow) (es:IEs)
 |dnew (t:Nat) (r:Ow)
 |ix (a b:IE)
 |sl (a:IE) (lo hi:IO)
 |rev (a st:IE)
 |stp (a:IE) (lo:IO) (st:IE)
 |maxd (a b:IE)
 |idx (a b:IE)
 |lrng (a:IE)
 |lset (a:IE)
 |sset (a:IE)
 |lrev (a:IE)
 |dsp (k:D) (a:IE)
 |dspT (m:Nat) (k a:IE)
 |get (a k b:IE)
 |isi2 (T Uq:Str) (a:IE)
 |dspN (ks:List D) (es:IEs)
 |isi (T:Str) (a:IE)
 |fld (f:Str) (a:IE)
 |fn (i:Nat) (es:IEs)
 |blt (x:Str) (es:IEs)
 |comp (r:Ow) (cap:List (Option Nat)) (tg:IT) (it:II) (ts:IO) (elt:IE)
inductive IEs where
 |nil
 |cons (a:IE) (r:IEs)
inductive IO where
 |non
 |som (a:IE)
inductive II where
 |e (a:IE)
 |rng (a b:IE)
 |enm (a:IE)
 |zp (a b:IE)
end
noncomputable def wR(t:Nat)(r:Ow):Option KD:=P6 (.fr (.own [] r),.dic t [] [])
mutual
noncomputable def aa(U:Nat->Option Fn):IE->Ro->Option KD
 |.var i,Z=>ow i Z[i]?
 |.lit d,_=>P6 (.sh,d)
 |.bin op a b,Z=>wu op (aa U a Z) (aa U b Z)
 |.cmp op a b,Z=>bV (j4 op (aa U a Z) (aa U b Z))
 |.chain op op' a b d,Z=>P7
 |.neg a,Z=>P7
 |.not a,Z=>bV ((dQ (aa U a Z)).map (!·))
 |.bool op es,Z=>ki U op es Z
 |.ifx t a b,Z=>GQ (aC U t Z) (aa U a Z) (aa U b Z)
 |.lst k es,Z=>uO k (aJ U es Z)
 |.tup k es,Z=>gJ k (aJ U es Z)
 |.dnew t r,_=>wR t r
 |.ix a b,Z=>sr (aa U a Z) (aa U b Z)
 |.sl a lo hi,Z=>FI (aa U a Z) (eM U lo Z) (eM U hi Z)
 |.rev a b,Z=>P7
 |.stp a lo st,Z=>P7
 |.maxd a b,Z=>P7
 |.idx a b,Z=>P7
 |.lrng a,Z=>P7
 |.lset a,Z=>P7
 |.sset a,Z=>P7
 |.lrev a,Z=>oB (aa U a Z)
 |.dsp k a,Z=>P7
 |.dspN ks es,Z=>i5 ks (aJ U es Z)
 |.dspT m k a,Z=>P7
 |.get a k b,Z=>P7
 |.isi T a,Z=>qA T (aa U a Z)
 |.isi2 T Uq a,Z=>P7
 |.fld f a,Z=>wy f (aa U a Z)
 |.fn i es,Z=>wN (U i) (aJ U es Z)
 |.blt x es,Z=>qx x (aJ U es Z)
 |.comp r cap tg it ts elt,Z=>lI r (bR U it Z) (dH tg (cw U ts) (aa U elt) (a9 Z cap))
noncomputable def aC(U:Nat->Option Fn):IE->Ro->Option Bool
 |.cmp op a b,Z=>j4 op (aa U a Z) (aa U b Z)
 |.chain op op' a b d,Z=>P7
 |.not a,Z=>(aC U a Z).map (!·)
 |.bool op es,Z=>eV U op es Z
 |.var i,Z=>dQ (ow i Z[i]?)
 |.ix a b,Z=>dQ (sr (aa U a Z) (aa U b Z))
 |.isi T a,Z=>dQ (qA T (aa U a Z))
 |.isi2 T Uq a,Z=>P7
 |.fn i es,Z=>dQ (wN (U i) (aJ U es Z))
 |.blt x es,Z=>dQ (qx x (aJ U es Z))
 |_,_=>P7
noncomputable def cw(U:Nat->Option Fn):IO->Ro->Option Bool
 |.non,_=>P6 P8
 |.som a,Z=>aC U a Z
noncomputable def aJ(U:Nat->Option Fn):IEs->Ro->Option (List KD)
 |.nil,_=>P6 []
 |.cons a r,Z=>eT (aa U a Z) (aJ U r Z)
noncomputable def ki(U:Nat->Option Fn)(op:BoolOp):IEs->Ro->Option KD
 |.nil,_=>P7
 |.cons a r,Z=>match r with
  |.nil=>aa U a Z
  |.cons _ _=>(match aa U a Z with
   |some (_,.bl x)=>if(op==.And)=x then ki U op r Z else P6 (.sh,.bl x)
   |_=>P7)
noncomputable def eV(U:Nat->Option Fn)(op:BoolOp):IEs->Ro->Option Bool
 |.nil,_=>P7
 |.cons a r,Z=>match r with
  |.nil=>aC U a Z
  |.cons _ _=>(match aC U a Z with
   |some x=>if(op==.And)=x then eV U op r Z else P6 x
   |none=>P7)
noncomputable def eM(U:Nat->Option Fn):IO->Ro->Option (Option Int)
 |.non,_=>P6 P7
 |.som a,Z=>zA (aa U a Z)
noncomputable def bR(U:Nat->Option Fn):II->Ro->Option (List Nat×List D)
 |.e a,Z=>oE (aa U a Z)
 |.rng a b,Z=>gO (aa U a Z) (aa U b Z)
 |.enm a,Z=>uQ (aa U a Z)
 |.zp a b,Z=>qz (aa U a Z) (aa U b Z)
end
section
theorem zO:aa U (.var i) Z=ow i Z[i]?:=rfl
theorem zP:aa U (.lit d) Z=P6 (.sh,d):=rfl
theorem zQ:aa U (.bin op a b) Z=wu op (aa U a Z) (aa U b Z):=rfl
theorem zR:aa U (.cmp op a b) Z=bV (j4 op (aa U a Z) (aa U b Z)):=rfl
theorem zS:aa U (.not a) Z=bV ((dQ (aa U a Z)).map (!·)):=rfl
theorem gT:aa U (.bool op es) Z=ki U op es Z:=rfl
theorem sA:aa U (.ifx t a b) Z=GQ (aC U t Z) (aa U a Z) (aa U b Z):=rfl
theorem jB:aa U (.lst k es) Z=uO k (aJ U es Z):=rfl
theorem mJ:aa U (.tup k es) Z=gJ k (aJ U es Z):=rfl
theorem mK:aa U (.ix a b) Z=sr (aa U a Z) (aa U b Z):=rfl
theorem DH:aa U (.sl a lo hi) Z=FI (aa U a Z) (eM U lo Z) (eM U hi Z):=rfl
theorem wS:aa U (.lrev a) Z=oB (aa U a Z):=rfl
theorem wU:aa U (.dspN ks es) Z=i5 ks (aJ U es Z):=rfl
theorem sB:aa U (.isi T a) Z=qA T (aa U a Z):=rfl
theorem zT:aa U (.fld f a) Z=wy f (aa U a Z):=rfl
theorem wV{U:Nat->Option Fn}:aa U (.fn i es) Z=wN (U i) (aJ U es Z):=rfl
theorem zU:aa U (.blt x es) Z=qx x (aJ U es Z):=rfl
theorem oJ:aa U (.comp r cap tg it ts elt) Z=lI r (bR U it Z) (dH tg (cw U ts) (aa U elt) (a9 Z cap)):=rfl
theorem oK:aC U (.cmp op a b) Z=j4 op (aa U a Z) (aa U b Z):=rfl
theorem wX:aC U (.not a) Z=(aC U a Z).map (!·):=rfl
theorem fq:aC U (.bool op es) Z=eV U op es Z:=rfl
theorem wY:aC U (.var i) Z=dQ (ow i Z[i]?):=rfl
theorem zV:aC U (.ix a b) Z=dQ (sr (aa U a Z) (aa U b Z)):=rfl
theorem wZ:aC U (.isi T a) Z=dQ (qA T (aa U a Z)):=rfl
theorem zW{U:Nat->Option Fn}:aC U (.fn i es) Z=dQ (wN (U i) (aJ U es Z)):=rfl
end
structure Nms where
 fns:List Str
 cs:List (Str×D)
 an:Nat->Nat->Option Ow:=λ_ _=>P7
 md:Nat->Nat->Option Bool:=λ_ _=>P7
 io:Nat->Option (List Bool):=λ_=>P7
 vw:Nat->Nat->List Nat:=λ_ _=>[]
 cls:List (Str×List Str):=[]
noncomputable def bY(fns:Nms)(U:Nat->Option Fn)(fm:Str->Option (Mz->Sp)):eQ:=⟨λx=>(aN x fns.fns).bind U,fm,λx=>fns.cs.lookup x,λx=>fns.cls.lookup x⟩
noncomputable def dC(f:P9->Option IE):List P9->Option IEs
 |[]=>P6 .nil
 |e::es=>if ah e then(match f e,dC f es with|some a,P6 r=>P6 (.cons a r)|_,_=>P7) else P7
noncomputable def dc(f:P9->Option IE):List P9->Option IEs
 |[]=>P6 .nil
 |e::es=>match f e,dc f es with|some a,P6 r=>P6 (.cons a r)|_,_=>P7
noncomputable def DI(c:Cz)(f:P9->Option IE)(tg iter:P9):Option II:=
 match iter with
 |.Call (.Name x _) [a] [] _=>
  if x="range" then(if fJ c.sc "range" && ah a then(f a).map (.rng (.lit (.int 0))) else P7)
  else if x="enumerate" then(if fJ c.sc "enumerate" && ah a&&j8 tg then(f a).map .enm else P7)
  else(f iter).map .e
 |.Call (.Name x _) [a,b] [] _=>
  if x="range" then(if fJ c.sc "range" && ah a&&ah b then(match f a,f b with|some a,P6 b=>P6 (.rng a b)|_,_=>P7) else P7)
  else if x="zip" then(if fJ c.sc "zip" && ah a&&ah b&&j8 tg then(match f a,f b with|some a,P6 b=>P6 (.zp a b)|_,_=>P7) else P7)
  else(f iter).map .e
 |_=>(f iter).map .e
noncomputable def zX(f:P9->Option IE):Option P9->Option IO
 |none=>P6 .non
 |some e=>(f e).map .som
noncomputable def qG(f:P9->Option IE):List P9->Option IO
 |[]=>P6 .non
 |[e]=>(f e).map .som
 |_=>P7
noncomputable def w4(fns:Nms)(c:Cz)(f:P9->Option IE)(x:Str)(es:List P9):Option IE:=
 if fJ c.sc x&&es.all ah then(match dC f es with|some ies=>(match aN x fns.fns with|some i=>(match fns.io i with|some _=>P7|none=>P6 (.fn i ies))|none=>P6 (.blt x ies))|none=>P7) else P7
noncomputable def DJ:IE->Bool
 |.var _|.ix ..|.isi ..|.isi2 ..|.fn ..|.blt ..=>P8
 |_=>Qb
noncomputable def i7(o:Option IE):Option IE:=match o with|some ie=>if DJ ie then P6 ie else P7|none=>P7
noncomputable def Nms.kL(fns:Nms)(p:Pos):Ow:=(fns.an p.line p.col).getD bj
noncomputable def Nms.kT(fns:Nms)(p:Pos):Ow:=(fns.an p.line p.col).getD .fz
noncomputable def DL:Const->Option IE
 |.int i=>P6 (.lit (.int i))
 |.bool i=>P6 (.lit (.bl i))
 |.none=>P6 (.lit .non)
 |.str x=>P6 (.lit (.str x))
 |_=>P7
noncomputable def qH(f:P9->Option IE)(a:P9)(ops:List Qu)(bs:List P9):Option IE:=match ops with
 |[]=>P7
 |op::ops=>match bs with
  |[]=>P7
  |b::bs=>match ops with
   |[]=>(match bs with
    |[]=>if Qs op b then P7 else match f a,f b with|some a,P6 b=>P6 (.cmp op a b)|_,_=>P7
    |_::_=>P7)
   |op'::ops=>match ops with
    |_::_=>P7
    |[]=>match bs with
     |[]=>P7
     |d::bs=>match bs with
      |_::_=>P7
      |[]=>if Qs op' d then P7 else match f a,f b,f d with|some a,P6 b,P6 d=>P6 (.chain op op' a b d)|_,_,_=>P7
noncomputable def J9:P9->Bool
 |.UnaryOp ..=>P8
 |_=>Qb
noncomputable def DM(f:P9->Option IE)(a b:P9):Option IE:=match b with
 |.Slice lo hi st _=>(match st with
  |none=>(match f a,zX f lo,zX f hi with|some a,P6 lo,P6 hi=>P6 (.sl a lo hi)|_,_,_=>P7)
  |some st=>(match hi with
   |some _=>P7
   |none=>if J9 st then(match lo with
    |some _=>P7
    |none=>(match f a,f st with|some a,P6 b=>P6 (.rev a b)|_,_=>P7)) else(match f a,zX f lo,f st with|some a,P6 lo,P6 b=>P6 (.stp a lo b)|_,_,_=>P7)))
 |b=>if cK b then(match f a,f b with|some a,P6 b=>P6 (.ix a b)|_,_=>P7) else P7
noncomputable def Bw(c:Cz)(f:P9->Option IE)(a:P9)(es:List P9):Option IE:=P7
noncomputable def DN(c:Cz)(f:P9->Option IE)(as:List P9):Option IE:=match as with
 |[]=>P7
 |a::as=>match as with
  |[]=>P7
  |t::as=>match as with
   |_::_=>P7
   |[]=>match t with
    |.Name T _=>if fJ c.sc "isinstance" && fJ c.sc T&&ah a then(f a).map (.isi T) else P7
    |.Tuple es _ _=>Bw c f a es
    |_=>P7
noncomputable def Bx(c:Cz)(f:P9->Option IE)(g:P9)(as:List P9)(ks:List Keyword):Option IE:=P7
noncomputable def w5(c:Cz)(f:P9->Option IE)(x:Str)(as:List P9):Option IE:=match as with
 |[]=>P7
 |a::as=>match as with
  |_::_=>P7
  |[]=>match a with
   |.Call g bs ks _=>(match g with
    |.Name y _=>(match bs with
     |[]=>P7
     |b::bs=>(match bs with
      |_::_=>P7
      |[]=>(match ks with
       |_::_=>P7
       |[]=>if x="list"/\y="reversed"/\fJ c.sc "list" = P8/\fJ c.sc "reversed" = P8/\ah b=P8 then(f b).map .lrev else P7)))
    |_=>P7)
   |_=>P7
noncomputable def Hh(f:P9->Option IE)(o:P9)(m:Str)(ap:Pos)(as:List P9)(pos:Pos):Option IE:=P7
noncomputable def Ka(fns:Nms)(c:Cz)(f:P9->Option IE)(g:P9)(as:List P9)(ks:List Keyword)(pos:Pos):Option IE:=match ks with
 |k::ks=>Bx c f g as (k::ks)
 |[]=>match g with
  |.Name x _=>if x="isinstance" then DN c f as else(match as with
   |[]=>if fJ c.sc x then(match aN x fns.fns with|some i=>(match fns.io i with|some _=>P7|none=>P6 (.fn i .nil))|none=>P7) else P7
   |a::es=>match w5 c f x (a::es) with|some r=>P6 r|none=>w4 fns c f x (a::es))
  |.Attribute o m ap=>Hh f o m ap as pos
  |_=>P7
noncomputable def Hj(fns:Nms)(c:Cz)(fE fT:Cz->P9->Option IE)(elt:P9)(gs:List Comprehension)(scope:Qo)(p:Pos):Option IE:=match gs with
 |[]=>P7
 |g::gs=>match gs with
  |_::_=>P7
  |[]=>if g.is_async=0 then(if c9 g.iter&&aW c scope then(match mH ⟨eL scope c.sc,ac scope,eR scope⟩ 4 g.target,DI c (fE c) g.target g.iter,qG (fT ⟨eL scope c.sc,ac scope,eR scope⟩) g.ifs,fE ⟨eL scope c.sc,ac scope,eR scope⟩ elt with
   |some t,P6 it,P6 ts,P6 el=>P6 (.comp ((fns.an p.line p.col).getD .fz) (aq c scope) t it ts el)|_,_,_,_=>P7) else P7) else P7
noncomputable def Hk(k:Option P9):Option D:=match k with
 |some k=>(match k with
  |.Constant z _ _=>(match DL z with
   |some z=>(match z with
    |.lit d=>P6 d
    |_=>P7)
   |none=>P7)
  |_=>P7)
 |none=>P7
noncomputable def sC(f:P9->Option IE):List (Option P9)->List P9->Option (List D×IEs)
 |[],vs=>(match vs with|[]=>P6 ([],.nil)|_::_=>P7)
 |k::ks,vs=>match vs with
  |[]=>P7
  |v::vs=>match Hk k,f v,sC f ks vs with
   |some d,P6 a,P6 p=>P6 (d::p.1,.cons a p.2)
   |_,_,_=>P7
noncomputable def DO(f:P9->Option IE)(ks:List (Option P9))(vs:List P9):Option IE:=match ks with
 |[]=>P7
 |k::ks=>match ks with
  |k2::ks2=>(sC f (k::k2::ks2) vs).map λp=>.dspN p.1 p.2
  |[]=>P7
noncomputable def w6(m:Nat)(f:P9->Option IE)(ks:List (Option P9))(vs:List P9):Option IE:=match ks with
 |[]=>P7
 |k::ks=>match ks with
  |_::_=>P7
  |[]=>match vs with
   |[]=>P7
   |v::vs=>match vs with
    |_::_=>P7
    |[]=>match k with
     |none=>P7
     |some k=>(match f k,f v with|some a,P6 b=>P6 (.dspT m a b)|_,_=>P7)
theorem w8{m:Nat}{f:P9->Option IE}(h:w6 m f ks vs=P6 ie):∃k v a b,ks=[P6 k]/\vs=[v]/\f k=P6 a/\f v=P6 b/\ie=.dspT m a b:=by
 unfold w6 at h
 repeat' split at h
 all_goals first|(cases h;done)|skip
 rename_i a b h1 h2;cases h;exact⟨_,_,a,b,rfl,rfl,h1,h2,rfl⟩
noncomputable def LI:Ow->Nat
 |.fz=>1
 |.own es _=>if es.length=0 then 1 else es.length
noncomputable def L7:Ow->Ow
 |.fz=>.fz
 |.own _ r=>r
mutual
noncomputable def cE(fns:Nms):Nat->Cz->P9->Option IE
 |0,_,_=>P7
 |n+1,c,e=>match e with
  |.Name x p=>if fJ c.sc x then(fns.cs.lookup x).map .lit else(match fns.md p.line p.col with|none=>(eS c x).map .var|some _=>P7)
  |.Constant v _ _=>DL v
  |.BinOp a op b _=>match cE fns n c a,cE fns n c b with|some a,P6 b=>P6 (.bin op a b)|_,_=>P7
  |.Compare a ops bs _=>qH (cE fns n c) a ops bs
  |.UnaryOp op a _=>(match op with|.USub=>(cE fns n c a).map .neg|.Not=>(cE fns n c a).map .not|_=>P7)
  |.BoolOp op es _=>(dc (cE fns n c) es).map (.bool op)
  |.IfExp t a b _=>match cT fns n c t,cE fns n c a,cE fns n c b with|some t,P6 a,P6 b=>P6 (.ifx t a b)|_,_,_=>P7
  |.List es p=>(dC (cE fns n c) es).map (.lst (fns.kL p))
  |.Tuple es _ p=>(dC (cE fns n c) es).map (.tup (fns.kT p))
  |.Dict ks vs p=>(match ks with|k::ks'=>(match fns.an p.line p.col with|some o=>(match LI o with|0=>DO (cE fns n c) (k::ks') vs|m+1=>w6 m (cE fns n c) (k::ks') vs)|none=>DO (cE fns n c) (k::ks') vs)|[]=>(match vs with|_::_=>P7|[]=>P6 (match fns.an p.line p.col with|some k=>.dnew (LI k) (L7 k)|none=>.dnew 0 .fz)))
  |.Subscript a b _=>DM (cE fns n c) a b
  |.Attribute a f _=>if j7 a then(cE fns n c a).map (.fld f) else P7
  |.Call g as ks pos=>Ka fns c (cE fns n c) g as ks pos
  |.ListComp elt gs scope p=>Hj fns c (cE fns n) (cT fns n) elt gs scope p
  |_=>P7
noncomputable def cT(fns:Nms):Nat->Cz->P9->Option IE
 |0,_,_=>P7
 |n+1,c,e=>match e with
  |.Compare a ops bs _=>qH (cE fns n c) a ops bs
  |.UnaryOp op a _=>(match op with|.Not=>(cT fns n c a).map .not|_=>P7)
  |.BoolOp op es _=>(dc (cT fns n c) es).map (.bool op)
  |.Name x p=>i7 (cE fns n c (.Name x p))
  |.Call f as ks p=>i7 (cE fns n c (.Call f as ks p))
  |.Subscript a b p=>i7 (cE fns n c (.Subscript a b p))
  |_=>P7
end
theorem d9{f:Ro->Option KD}(h:∀Z,f Z=P7):SndE X f e:=λZ kd d hh=>by rw[h] at hh;cases hh
theorem zY{f:Ro->Option Bool}(h:∀Z,f Z=P7):SndT X f e:=λZ b hh=>by rw[h] at hh;cases hh
theorem aL{α β:Type}{o:Option α}{g:α->β}{b:β}(h:o.map g=P6 b):∃a,o=P6 a/\b=g a:=by
 cases o with
 |none=>cases h
 |some a=>cases h;exact⟨a,rfl,rfl⟩
theorem mM(h:DJ ie=P8):aC U ie=λZ=>dQ (aa U ie Z):=by
 funext Z
 cases ie with
 |var i=>rfl
 |ix a b=>rfl
 |isi T a=>rfl
 |isi2 T Uq a=>rfl
 |fn i es=>rfl
 |blt x es=>rfl
 |_=>cases h
theorem kj(d:D):aa U (.lit d)=λ_=>P6 (.sh,d):=by
 exact funext λ_=>rfl
theorem kl(h:i7 o=P6 ie):o=P6 ie/\DJ ie=P8:=by
 unfold i7 at h;split at h
 ·split at h
  ·rename_i hk;cases h;exact⟨rfl,hk⟩
  ·cases h
 ·cases h
section
variable {X:Cx} {c:Cz} (fns:Nms) (U:Nat->Option Fn) {fm:Str->Option (Mz->Sp)}
theorem DP{t:Nat}:SndE X (λ_=>wR t r) (.Dict [] [] pos):=by
 intro Z kd d h g Y H Q se q;cases(show P6 (Kd.fr (.own [] r),D.dic t [] [])=P6 (kd,d) from h)
 have mk:∀{p:Qc} {o:HO},H p=P7->du X.K o (.dic t []) []->VR X.K g H (upd H p o) (.fr (.own [] r)) (.dic t [] []) (.ref p):=λ{p o} hp ho=>
  VRs.node (kds:=[]) (es:=[]) (r:=r) (vs:=[]) (hd:=.dic t []) rfl se.mu (Same.refl H) .nil hp ho rfl
 cases t with
 |zero=>exact au v6 λp hp=>q _ _ (ak hp) (mk hp (.inl ⟨rfl,[],rfl,rfl,rfl⟩))
 |succ m=>exact au (wa (m:=m)) λp hp=>q _ _ (ak hp) (mk hp (.inr ⟨m,rfl,[],0,rfl,rfl,rfl⟩))
theorem dD{f:P9->Option IE}(hf:∀e ie,f e=P6 ie->SndE X (aa U ie) e):∀{es:List P9} {ies:IEs},dC f es=P6 ies->jX X (aJ U ies) es/\es.all ah=P8
 |[],ies,h=>by
  cases h;refine⟨?_,rfl⟩;have:aJ U .nil=λ_=>P6 []:=by funext Z;rw[aJ]
  rw[this];exact zt
 |e::es,ies,h=>by
  unfold dC at h;split at h
  ·rename_i hn;split at h
   ·rename_i a r ha hr;cases h;obtain⟨h1,h2⟩:=dD hf hr;refine⟨?_,by rw[Nu,hn,h2];rfl⟩;have:aJ U (.cons a r)=λZ=>eT (aa U a Z) (aJ U r Z):=by funext Z;rw[aJ]
    rw[this];exact zu hn (hf e a ha) h1
   ·cases h
  ·cases h
theorem sG{f:P9->Option IE}(hf:∀e ie,f e=P6 ie->SndE X (aa U ie) e)(op:BoolOp)(pos:Pos):∀{es:List P9} {ies:IEs},dc f es=P6 ies->SndE X (ki U op ies) (.BoolOp op es pos)
 |[],ies,h=>by cases h;intro Z k d h;unfold ki at h;cases h
 |[a],ies,h=>by
  unfold dc dc at h;split at h
  ·rename_i a' r ha hr;cases h;cases hr;intro Z k d h g Y H Q se q;unfold ki at h;exact au (Cw av) (hf a a' ha Z k d h g Y H Q se q)
  ·cases h
 |a::b::es,ies,h=>by
  unfold dc at h;split at h
  ·rename_i a' r ha hr;cases h;have rest:=sG hf op pos hr
   have hr2:∃b' r',r=.cons b' r':=by
    unfold dc at hr;split at hr
    ·cases hr;exact⟨_,_,rfl⟩
    ·cases hr
   obtain⟨b',r',rfl⟩:=hr2;intro Z k d h g Y H Q se q;unfold ki at h;dsimp only at h;split at h
   ·rename_i ka x ea;split at h
    ·rename_i hx
     cases op with
     |And=>
      refine au (vC av av) (hf a a' ha Z _ _ ea g Y H _ se λv H1 s1 r=>⟨x,r.rd.bl,?_⟩);have:x=P8:=by rw[<- hx];rfl
      rw[if_pos this];exact rest Z k d h g Y H1 Q (se.same s1) λv2 H2 s2 r2=>q v2 H2 (s1.trans s2) (r2.older s1)
     |Or=>
      refine au (Bj av av) (hf a a' ha Z _ _ ea g Y H _ se λv H1 s1 r=>⟨x,r.rd.bl,?_⟩);have:x=Qb:=by rw[<- hx];rfl
      rw[if_neg (by rw[this];decide)];exact rest Z k d h g Y H1 Q (se.same s1) λv2 H2 s2 r2=>q v2 H2 (s1.trans s2) (r2.older s1)
    ·rename_i hx;cases h
     cases op with
     |And=>
      refine au (vC av av) (hf a a' ha Z _ _ ea g Y H _ se λv H1 s1 r=>⟨x,r.rd.bl,?_⟩)
      have:x=Qb:=by cases x with|true=>exact absurd rfl hx|false=>rfl
      subst this;rw[if_neg (by decide)];exact q _ H1 s1 Bq
     |Or=>
      refine au (Bj av av) (hf a a' ha Z _ _ ea g Y H _ se λv H1 s1 r=>⟨x,r.rd.bl,?_⟩)
      have:x=P8:=by cases x with|false=>exact absurd rfl hx|true=>rfl
      subst this;rw[if_pos rfl];exact q _ H1 s1 Bq
   ·cases h
  ·cases h
theorem sH{f:P9->Option IE}(hf:∀e ie,f e=P6 ie->SndT X (aC U ie) e)(op:BoolOp)(pos:Pos):∀{es:List P9} {ies:IEs},dc f es=P6 ies->∀Z r,eV U op ies Z=P6 r->∀g Y H Q,SE X.K g Z Y H->(∀H',Same H H'->Q r H')->wW X (.BoolOp op es pos) Y H Q
 |[],ies,h,Z,r,hr,g,Y,H,Q,se,q=>by cases h;unfold eV at hr;cases hr
 |[a],ies,h,Z,r,hb,g,Y,H,Q,se,q=>by
  unfold dc dc at h;split at h
  ·rename_i a' r' ha hr;cases h;cases hr;unfold eV at hb;have h1:=hf a a' ha Z r hb g Y H Q se q
   cases op with
   |And=>exact lD (yR gG) h1
   |Or=>exact lD (Cu gG) h1
  ·cases h
 |a::b::es,ies,h,Z,r,hb,g,Y,H,Q,se,q=>by
  unfold dc at h;split at h
  ·rename_i a' r0 ha hr;cases h;have rest:=sH hf op pos hr Z r
   have hr2:∃b' r',r0=.cons b' r':=by
    unfold dc at hr;split at hr
    ·cases hr;exact⟨_,_,rfl⟩
    ·cases hr
   obtain⟨b',r',rfl⟩:=hr2;unfold eV at hb;dsimp only at hb;split at hb
   ·rename_i x ea;split at hb
    ·rename_i hx
     cases op with
     |And=>
      refine lD (vB gG zl) (hf a a' ha Z x ea g Y H _ se λH1 s1=>?_);have:x=P8:=by rw[<- hx];rfl
      rw[if_pos this];exact rest hb g Y H1 Q (se.same s1) λH2 s2=>q H2 (s1.trans s2)
     |Or=>
      refine lD (Bi gG zl) (hf a a' ha Z x ea g Y H _ se λH1 s1=>?_);have:x=Qb:=by rw[<- hx];rfl
      rw[if_neg (by rw[this];decide)];exact rest hb g Y H1 Q (se.same s1) λH2 s2=>q H2 (s1.trans s2)
    ·rename_i hx;cases hb
     cases op with
     |And=>
      refine lD (vB gG zl) (hf a a' ha Z r ea g Y H _ se λH1 s1=>?_)
      have:r=Qb:=by cases r with|true=>exact absurd rfl hx|false=>rfl
      subst this;rw[if_neg (by decide)];exact q H1 s1
     |Or=>
      refine lD (Bi gG zl) (hf a a' ha Z r ea g Y H _ se λH1 s1=>?_)
      have:r=P8:=by cases r with|false=>exact absurd rfl hx|true=>rfl
      subst this;rw[if_pos rfl];exact q H1 s1
   ·cases hb
  ·cases h
theorem zZ(O:ao X (bY fns U fm) c){f:P9->Option IE}(hf:∀e ie,f e=P6 ie->SndE X (aa U ie) e){x:Str}{a:P9}{es:List P9}{p pos:Pos}{ie:IE}(h:w4 fns c f x (a::es)=P6 ie):SndE X (aa U ie) (.Call (.Name x p) (a::es) [] pos):=by
 unfold w4 at h;split at h
 ·rename_i hg;rw[MA,Nu,MA] at hg;split at h
  ·rename_i ies ha;have hA:=(dD U hf ha).1;split at h
   ·rename_i i hi;split at h
    ·cases h
    cases h
    have e:aa U (.fn i ies)=λZ=>wN ((bY fns U fm).fn x) (aJ U ies Z):=by
     funext Z;show wN (U i) (aJ U ies Z)=_;unfold bY;dsimp only;rw[hi];rfl
    rw[e];exact J8 O hA hg.1 hg.2.1 hg.2.2
   ·cases h
    first|(exact d9 λ_=>rfl)|(have e:aa U (.blt x ies)=λZ=>qx x (aJ U ies Z):=(by exact funext λ_=>rfl);rw[e];exact G7 O hA hg.1 hg.2.1 hg.2.2)
  ·cases h
 ·cases h
theorem sI(O:ao X (bY fns U fm) c){f:P9->Option IE}(hf:∀e ie,f e=P6 ie->SndE X (aa U ie) e){tg iter:P9}{it:II}(h:DI c f tg iter=P6 it):SndI X (bR U it) tg iter:=by
 have one:∀{it:II},(f iter).map .e=P6 it->SndI X (bR U it) tg iter:=λh=>by
  obtain⟨a,ha,rfl⟩:=aL h
  first|(exact offI λ_=>rfl)|(have e:bR U (.e a)=λZ=>oE (aa U a Z):=(by exact funext λ_=>rfl);rw[e];exact G8 (hf _ _ ha))
 unfold DI at h;split at h
 ·rename_i x p a pos;split at h
  ·rename_i hx;subst hx;split at h
   ·rename_i hg;rw[MA] at hg;obtain⟨a',ha,rfl⟩:=aL h
    first|(exact offI λ_=>rfl)|(have e:bR U (.rng (.lit (.int 0)) a')=λZ=>gO (P6 (.sh,.int 0)) (aa U a' Z):=(by exact funext λ_=>rfl);rw[e];exact DA O hg.1 hg.2 (hf _ _ ha))
   ·cases h
  ·split at h
   ·rename_i hx;subst hx;split at h
    ·rename_i hg;simp only[MA] at hg;obtain⟨a',ha,rfl⟩:=aL h
     first|(exact offI λ_=>rfl)|(have e:bR U (.enm a')=λZ=>uQ (aa U a' Z):=(by exact funext λ_=>rfl);rw[e];exact G9 O hg.1.1 hg.1.2 hg.2 (hf _ _ ha))
    ·cases h
   ·exact one h
 ·rename_i x p a b pos;split at h
  ·rename_i hx;subst hx;split at h
   ·rename_i hg;simp only[MA] at hg;split at h
    ·rename_i a' b' ha hb;cases h
     first|(exact offI λ_=>rfl)|(have e:bR U (.rng a' b')=λZ=>gO (aa U a' Z) (aa U b' Z):=(by exact funext λ_=>rfl);rw[e];exact DB O hg.1.1 hg.1.2 hg.2 (hf _ _ ha) (hf _ _ hb))
    ·cases h
   ·cases h
  ·split at h
   ·rename_i hx;subst hx;split at h
    ·rename_i hg;simp only[MA] at hg;split at h
     ·rename_i a' b' ha hb;cases h
      first|(exact offI λ_=>rfl)|(have e:bR U (.zp a' b')=λZ=>qz (aa U a' Z) (aa U b' Z):=(by exact funext λ_=>rfl);rw[e];exact Ha O hg.1.1.1 hg.1.1.2 hg.1.2 hg.2 (hf _ _ ha) (hf _ _ hb))
     ·cases h
    ·cases h
   ·exact one h
 ·exact one h
theorem w9{k:Nat}(h:DL v=P6 ie):SndE X (aa U ie) (.Constant v k pos):=by
 cases v with
 |int i=>cases h;rw[kj];exact GJ _ _ _
 |bool i=>cases h;rw[kj];exact JY _ _ _
 |none=>cases h;rw[kj];exact GK _ _
 |str i=>cases h;rw[kj];exact GL _ _ _
 |_=>cases h
theorem sJ{f:P9->Option IE}(h:qH f a ops bs=P6 ie):(∃op b a' b',ops=[op]/\bs=[b]/\Qs op b=Qb/\f a=P6 a'/\f b=P6 b'/\ie=.cmp op a' b')\/(∃op op' b d a' b' d',ops=[op,op']/\bs=[b,d]/\Qs op' d=Qb/\f a=P6 a'/\f b=P6 b'/\f d=P6 d'/\ie=.chain op op' a' b' d'):=by
 cases ops with
 |nil=>cases h
 |cons op ops=>cases bs with
  |nil=>cases h
  |cons b bs=>cases ops with
   |nil=>cases bs with
    |cons _ _=>cases h
    |nil=>
     dsimp only[qH] at h;split at h
     ·cases h
     ·rename_i hm;split at h
      ·rename_i a' b' ha hb;cases h;exact .inl ⟨op,b,a',b',rfl,rfl,by simpa using hm,ha,hb,rfl⟩
      ·cases h
   |cons op' ops=>cases ops with
    |cons _ _=>cases h
    |nil=>cases bs with
     |nil=>cases h
     |cons d bs=>cases bs with
      |cons _ _=>cases h
      |nil=>
       dsimp only[qH] at h;split at h
       ·cases h
       ·rename_i hm;split at h
        ·rename_i a' b' d' ha hb hd;cases h;exact .inr ⟨op,op',b,d,a',b',d',rfl,rfl,by simpa using hm,ha,hb,hd,rfl⟩
        ·cases h
theorem xa{f:P9->Option IE}(hf:∀e ie,f e=P6 ie->SndE X (aa U ie) e){o:Option P9}{io:IO}(h:zX f o=P6 io):wC X (eM U io) o:=by
 cases o with
 |none=>
  cases h;have e:eM U .non=λ_=>P6 P7:=by funext Z;rw[eM]
  rw[e];exact Dk
 |some e=>
  obtain⟨a,ha,rfl⟩:=aL h;have e:eM U (.som a)=λZ=>zA (aa U a Z):=by funext Z;rw[eM]
  rw[e];exact Dl (hf _ _ ha)
theorem sK{f:P9->Option IE}(hf:∀e ie,f e=P6 ie->SndT X (aC U ie) e){o:List P9}{io:IO}(h:qG f o=P6 io):i6 X (cw U io) o:=by
 unfold qG at h;split at h
 ·cases h;have e:cw U .non=λ_=>P6 P8:=by funext Z;rw[cw]
  rw[e];exact Bv
 ·obtain⟨a,ha,rfl⟩:=aL h;have e:cw U (.som a)=aC U a:=by funext Z;rw[cw]
  rw[e];exact Hg (hf _ _ ha)
 ·cases h
theorem sM{f:P9->Option IE}(hE:∀e ie,f e=P6 ie->SndE X (aa U ie) e){Z:Ro}:∀{ks:List (Option P9)} {vs:List P9} {p:List D×IEs} {kds:List KD} {xs:List aw},sC f ks vs=P6 p->aJ U p.2 Z=P6 kds->kds.all (λkd=>i0 kd.1 kd.2)=P8->c7 p.1=P6 xs->Dsp X Z ks vs xs kds
 |[],vs,p,kds,xs,h,e1,e2,e3=>by
  cases vs with
  |nil=>
   cases h;rw[aJ] at e1;cases e1;cases e3;exact .nil
  |cons _ _=>cases h
 |k::ks,vs,p,kds,xs,h,e1,e2,e3=>by
  cases vs with
  |nil=>cases h
  |cons v vs=>
   dsimp only[sC] at h;split at h
   ·rename_i d a p' hk ha hp;cases h;rw[aJ] at e1;unfold eT at e1;split at e1
    ·rename_i x kds' ex er;cases e1;obtain⟨kv,dv⟩:=x;rw[Nu,MA] at e2;dsimp only[c7] at e3;split at e3
     ·rename_i y ys ey eys;cases e3;unfold Hk at hk;split at hk
      ·split at hk
       ·split at hk
        ·rename_i hz;split at hk
         ·cases hk
          have hk':∀j p,SndE X (λ_=>P6 (.sh,d)) (.Constant _ j p):=λj p=>by
           have:=w9 (X:=X) (k:=j) (pos:=p) U hz;rw[kj] at this;exact this
          exact .cons (hk' _ _) ey (hE _ _ ha) ex e2.1 (sM hE hp er e2.2 eys)
         ·cases hk
        ·cases hk
       ·cases hk
      ·cases hk
     ·cases e3
    ·cases e1
   ·cases h
theorem xb{f:P9->Option IE}(hE:∀e ie,f e=P6 ie->SndE X (aa U ie) e){ks:List (Option P9)}{vs:List P9}{pos:Pos}{ie:IE}(h:DO f ks vs=P6 ie):SndE X (aa U ie) (.Dict ks vs pos):=by
 cases ks with
 |nil=>cases h
 |cons k ks=>cases ks with
  |cons k2 ks2=>
   obtain⟨p,hp,rfl⟩:=aL h
   first|(exact d9 λ_=>rfl)|(rw[show aa U (.dspN p.1 p.2)=λZ=>i5 p.1 (aJ U p.2 Z) from funext λ_=>rfl];exact Dv λZ kds xs e1 e2 e3=>sM U hE hp e1 e2 e3)
  |nil=>cases h
theorem DQ(O:ao X (bY fns U fm) c){f:P9->Option IE}(hE:∀e ie,f e=P6 ie->SndE X (aa U ie) e){a b:P9}{pos:Pos}{ie:IE}(h:DM f a b=P6 ie):SndE X (aa U ie) (.Subscript a b pos):=by
 unfold DM at h;split at h
 ·rename_i lo hi st p
  cases st with
  |none=>
   dsimp only at h;split at h
   ·rename_i a' lo' hi' ha hlo hhi;cases h
    first|(exact d9 λ_=>rfl)|(rw[show aa U (.sl a' lo' hi')=λZ=>FI (aa U a' Z) (eM U lo' Z) (eM U hi' Z) from funext λ_=>rfl];exact J3 (hE _ _ ha) (xa U hE hlo) (xa U hE hhi))
   ·cases h
  |some st=>cases hi with
   |some _=>cases h
   |none=>
    dsimp only at h;split at h
    ·cases lo with
     |some _=>cases h
     |none=>
      dsimp only at h;split at h
      ·rename_i a' b' ha hb;cases h
       first|(exact d9 λ_=>rfl)|(rw[show aa U (.rev a' b')=λZ=>oRev (aa U a' Z) (aa U b' Z) from funext λ_=>rfl];exact s_rev (hE _ _ ha) (hE _ _ hb))
      ·cases h
    ·split at h
     ·rename_i a' lo' b' ha hlo hb;cases h
      first|(exact d9 λ_=>rfl)|(rw[show aa U (.stp a' lo' b')=λZ=>oStp (aa U a' Z) (eM U lo' Z) (aa U b' Z) from funext λ_=>rfl];exact s_stp (hE _ _ ha) (xa U hE hlo) (hE _ _ hb))
     ·cases h
 ·split at h
  ·rename_i hp;split at h
   ·rename_i a' b' ha hb;cases h
    first|(exact d9 λ_=>rfl)|(rw[show aa U (.ix a' b')=λZ=>sr (aa U a' Z) (aa U b' Z) from funext λ_=>rfl];exact J2 O (hE _ _ ha) (hE _ _ hb) hp)
   ·cases h
  ·cases h
theorem z5(O:ao X (bY fns U fm) c){f:P9->Option IE}(hE:∀e ie,f e=P6 ie->SndE X (aa U ie) e){a:P9}{es:List P9}{kk:Nat}{p tp pos:Pos}{ie:IE}(h:Bw c f a es=P6 ie):SndE X (aa U ie) (.Call (.Name "isinstance" p) [a,.Tuple es kk tp] [] pos):=by cases h
theorem DR(O:ao X (bY fns U fm) c){f:P9->Option IE}(hE:∀e ie,f e=P6 ie->SndE X (aa U ie) e){as:List P9}{p pos:Pos}{ie:IE}(h:DN c f as=P6 ie):SndE X (aa U ie) (.Call (.Name "isinstance" p) as [] pos):=by
 cases as with
 |nil=>cases h
 |cons a as=>cases as with
  |nil=>cases h
  |cons t as=>cases as with
   |cons _ _=>cases h
   |nil=>
    dsimp only[DN] at h;split at h
    ·split at h
     ·rename_i hg;simp only[MA] at hg;obtain⟨a',ha,rfl⟩:=aL h
      first|(exact d9 λ_=>rfl)|(rw[show aa U (.isi _ a')=λZ=>qA _ (aa U a' Z) from funext λ_=>rfl];exact He O hg.1.1 hg.1.2 hg.2 (hE _ _ ha))
     ·cases h
    ·exact z5 fns U O hE h
    ·cases h
theorem DS(O:ao X (bY fns U fm) c){f:P9->Option IE}(hE:∀e ie,f e=P6 ie->SndE X (aa U ie) e){g:P9}{as:List P9}{ks:List Keyword}{pos:Pos}{ie:IE}(h:Bx c f g as ks=P6 ie):SndE X (aa U ie) (.Call g as ks pos):=by cases h
theorem z6(O:ao X (bY fns U fm) c){f:P9->Option IE}(hE:∀e ie,f e=P6 ie->SndE X (aa U ie) e){x:Str}{as:List P9}{p pos:Pos}{ie:IE}(h:w5 c f x as=P6 ie):SndE X (aa U ie) (.Call (.Name x p) as [] pos):=by
 cases as with
 |nil=>cases h
 |cons a as=>cases as with
  |cons _ _=>cases h
  |nil=>cases a with
   |Call g bs ks p2=>cases g with
    |Name y p3=>cases bs with
     |nil=>cases h
     |cons b bs=>cases bs with
      |cons _ _=>cases h
      |nil=>cases ks with
       |cons _ _=>cases h
       |nil=>
        dsimp only[w5] at h;split at h
        ·rename_i hc;obtain⟨rfl,rfl,h1,h2,h3⟩:=hc;obtain⟨a',ha,rfl⟩:=aL h
         (rw[show aa U (.lrev a')=λZ=>oB (aa U a' Z) from funext λ_=>rfl];exact Du O (ce O h1) (ce O h2) h3 (hE _ _ ha))
        ·cases h
    |_=>cases h
   |_=>cases h
theorem DT(O:ao X (bY fns U fm) c){f:P9->Option IE}(hE:∀e ie,f e=P6 ie->SndE X (aa U ie) e){o:P9}{m:Str}{ap:Pos}{as:List P9}{pos:Pos}{ie:IE}(h:Hh f o m ap as pos=P6 ie):SndE X (aa U ie) (.Call (.Attribute o m ap) as [] pos):=by cases h
theorem Hl(O:ao X (bY fns U fm) c){f:P9->Option IE}(hE:∀e ie,f e=P6 ie->SndE X (aa U ie) e){g:P9}{as:List P9}{ks:List Keyword}{pos:Pos}{ie:IE}(h:Ka fns c f g as ks pos=P6 ie):SndE X (aa U ie) (.Call g as ks pos):=by
 cases ks with
 |cons _ _=>exact DS fns U O hE h
 |nil=>
  dsimp only[Ka] at h;split at h
  ·rename_i x p;split at h
   ·rename_i hx;subst hx;exact DR fns U O hE h
   ·cases as with
    |cons a es=>
     dsimp only at h;split at h
     ·rename_i r hr;cases h;exact z6 fns U O hE hr
     ·exact zZ fns U O hE h
    |nil=>
     dsimp only at h;split at h
     ·rename_i hg;split at h
      ·rename_i i hi;split at h
       ·cases h
       ·cases h;rw[show aa U (.fn i .nil)=λZ=>wN (U i) (P6 []) by exact funext λ_=>rfl];have:=Hf (p:=p) (pos:=pos) O hg;rw[show(bY fns U fm).fn x=U i from by show(aN x fns.fns).bind U=_;rw[hi];rfl] at this;exact this
      ·cases h
     ·cases h
  ·exact DT fns U O hE h
  ·cases h
theorem Hm(O:ao X (bY fns U fm) c){fE fT:Cz->P9->Option IE}(ihE:∀X c,ao X (bY fns U fm) c->∀e ie,fE c e=P6 ie->SndE X (aa U ie) e)(ihT:∀X c,ao X (bY fns U fm) c->∀e ie,fT c e=P6 ie->SndT X (aC U ie) e){elt:P9}{gs:List Comprehension}{scope:Qo}{pos:Pos}{ie:IE}(h:Hj fns c fE fT elt gs scope pos=P6 ie):SndE X (aa U ie) (.ListComp elt gs scope pos):=by
 cases gs with
 |nil=>cases h
 |cons g gs=>cases gs with
  |cons _ _=>cases h
  |nil=>
   dsimp only[Hj] at h;split at h
   ·rename_i h0;split at h
    ·rename_i hn;rw[MA] at hn;split at h
     ·rename_i t it ts el ht hit hts hel;cases h;rw[show aa U (.comp _ (aq c _) t it ts el)=λZ=>lI _ (bR U it Z) (dH t (cw U ts) (aa U el) (a9 Z (aq c _))) from funext λ_=>rfl];have CO:=cr O hn.2
      cases g with
      |mk tg iter ifs as=>
       subst h0;exact DG O hn.2 hn.1 (sI fns U O (ihE X c O) hit) ht (λC s H ex=>sK U (ihT _ _ (CO C s H ex)) hts) (λC s H ex=>ihE _ _ (CO C s H ex) _ _ hel)
     ·cases h
    ·cases h
   ·cases h
end
section
variable (fns:Nms) (U:Nat->Option Fn) {fm:Str->Option (Mz->Sp)}
theorem cx:∀n:Nat,(∀X c,ao X (bY fns U fm) c->∀e ie,cE fns n c e=P6 ie->SndE X (aa U ie) e)/\(∀X c,ao X (bY fns U fm) c->∀e ie,cT fns n c e=P6 ie->SndT X (aC U ie) e)
 |0=>⟨λX c O e ie h=>by (cases(show(P7:Option IE)=P6 ie from h)),λX c O e ie h=>by (cases(show(P7:Option IE)=P6 ie from h))⟩
 |n+1=>by
  obtain⟨ihE,ihT⟩:=cx n;refine⟨λX c O e ie h=>?_,λX c O e ie h=>?_⟩
  ·have hE:=ihE X c O;have hT:=ihT X c O
   cases e with
   |Name x p=>
    dsimp only[cE] at h;split at h
    ·rename_i hg;obtain⟨d,hd,rfl⟩:=aL h;have e:aa U (.lit d)=λ_=>P6 (.sh,d):=by exact funext λ_=>rfl
     rw[e];exact GM O hg hd p
    ·split at h
     ·obtain⟨i,hi,rfl⟩:=aL h;have e:aa U (.var i)=λZ=>ow i Z[i]?:=by exact funext λ_=>rfl
      rw[e];exact Bs O hi p
     ·cases h
   |Constant v k pos=>exact w9 U h
   |BinOp a op b pos=>
    dsimp only[cE] at h;split at h
    ·rename_i a' b' ha hb;cases h
     first|(exact d9 λ_=>rfl)|(rw[show aa U (.bin _ a' b')=λZ=>wu _ (aa U a' Z) (aa U b' Z) from funext λ_=>rfl];exact GN (hE _ _ ha) (hE _ _ hb))
    ·cases h
   |Compare a ops bs pos=>
    rcases sJ (show qH (cE fns n c) a ops bs=P6 ie from h) with⟨op,b,a',b',rfl,rfl,hm,ha,hb,rfl⟩|⟨op,op',b,d,a',b',d',rfl,rfl,hm,ha,hb,hd,rfl⟩
    ·first|(exact d9 λ_=>rfl)|(rw[show aa U (.cmp _ a' b')=λZ=>bV (j4 _ (aa U a' Z) (aa U b' Z)) from funext λ_=>rfl];exact GO O hm (hE _ _ ha) (hE _ _ hb))
    ·first|(exact d9 λ_=>rfl)|(rw[show aa U (.chain _ _ a' b' d')=λZ=>bV (oChain _ _ (aa U a' Z) (aa U b' Z) (aa U d' Z)) from funext λ_=>rfl];exact s_chain O hm (hE _ _ ha) (hE _ _ hb) (hE _ _ hd))
   |UnaryOp op a pos=>cases op with
    |USub=>
     obtain⟨a',ha,rfl⟩:=aL (show(cE fns n c a).map .neg=P6 ie from h)
     first|(exact d9 λ_=>rfl)|(rw[show aa U (.neg a')=λZ=>oNeg (aa U a' Z) from funext λ_=>rfl];exact s_neg (hE _ _ ha))
    |Not=>
     obtain⟨a',ha,rfl⟩:=aL (show(cE fns n c a).map .not=P6 ie from h)
     first|(exact d9 λ_=>rfl)|(rw[show aa U (.not a')=λZ=>bV ((dQ (aa U a' Z)).map (!·)) from funext λ_=>rfl];exact GP (hE _ _ ha))
    |_=>cases h
   |BoolOp op es pos=>
    obtain⟨a',ha,rfl⟩:=aL (show(dc (cE fns n c) es).map (.bool op)=P6 ie from h)
    first|(exact d9 λ_=>rfl)|(rw[show aa U (.bool _ a')=ki U _ a' from funext λ_=>rfl];exact sG U hE _ _ ha)
   |IfExp t a b pos=>
    dsimp only[cE] at h;split at h
    ·rename_i t' a' b' ht ha hb;cases h
     first|(exact d9 λ_=>rfl)|(rw[show aa U (.ifx t' a' b')=λZ=>GQ (aC U t' Z) (aa U a' Z) (aa U b' Z) from funext λ_=>rfl];exact JZ (hT _ _ ht) (hE _ _ ha) (hE _ _ hb))
    ·cases h
   |List es p=>
    obtain⟨a',ha,rfl⟩:=aL (show(dC (cE fns n c) es).map (.lst (fns.kL p))=P6 ie from h)
    first|(exact d9 λ_=>rfl)|(rw[show aa U (.lst _ a')=λZ=>uO _ (aJ U a' Z) from funext λ_=>rfl];exact GR (dD U hE ha).1)
   |Tuple es k p=>
    obtain⟨a',ha,rfl⟩:=aL (show(dC (cE fns n c) es).map (.tup (fns.kT p))=P6 ie from h)
    first|(exact d9 λ_=>rfl)|(rw[show aa U (.tup _ a')=λZ=>gJ _ (aJ U a' Z) from funext λ_=>rfl];exact GS (dD U hE ha).1)
   |Dict ks vs p=>cases ks with
    |cons k ks'=>
     dsimp only[cE] at h;split at h
     ·split at h
      ·exact xb U hE h
      obtain⟨k',v',a',b',e1,rfl,ha,hb,rfl⟩:=w8 h;cases e1
      first|(exact d9 λ_=>rfl)|(rw[show ∀m,aa U (.dspT m a' b')=λZ=>oDspT m (aa U a' Z) (aa U b' Z) by intro m;exact funext λ_=>rfl];exact s_dspT O (hE _ _ ha) (hE _ _ hb))
     ·exact xb U hE h
    |nil=>cases vs with
     |cons _ _=>cases h
     |nil=>
      have dn:∀t r,SndE X (aa U (.dnew t r)) (.Dict [] [] p):=λt r=>by
       first|(exact d9 λ_=>rfl)|(rw[show aa U (.dnew t r)=λ_=>wR t r from funext λ_=>rfl];exact DP)
      dsimp only[cE] at h;cases h
      split<;>exact dn _ _
   |Subscript a b pos=>exact DQ fns U O hE h
   |Attribute a f pos=>
    dsimp only[cE] at h;split at h
    ·rename_i hb;obtain⟨a',ha,rfl⟩:=aL h
     first|(exact d9 λ_=>rfl)|(rw[show aa U (.fld f a')=λZ=>wy f (aa U a' Z) from funext λ_=>rfl];exact GU (mC hb) (hE _ _ ha))
    ·cases h
   |Call g as ks pos=>exact Hl fns U O hE h
   |ListComp elt gs scope pos=>exact Hm fns U O ihE ihT h
   |_=>cases h
  ·have hE:=ihE X c O;have hT:=ihT X c O
   cases e with
   |Compare a ops bs pos=>
    rcases sJ (show qH (cE fns n c) a ops bs=P6 ie from h) with⟨op,b,a',b',rfl,rfl,hm,ha,hb,rfl⟩|⟨op,op',b,d,a',b',d',rfl,rfl,hm,ha,hb,hd,rfl⟩
    ·first|(exact zY λ_=>rfl)|(rw[show aC U (.cmp _ a' b')=λZ=>j4 _ (aa U a' Z) (aa U b' Z) from funext λ_=>rfl];exact fK O hm (hE _ _ ha) (hE _ _ hb))
    ·first|(exact zY λ_=>rfl)|(rw[show aC U (.chain _ _ a' b' d')=λZ=>oChain _ _ (aa U a' Z) (aa U b' Z) (aa U d' Z) from funext λ_=>rfl];exact t_chain O hm (hE _ _ ha) (hE _ _ hb) (hE _ _ hd))
   |UnaryOp op a pos=>cases op with
    |Not=>
     obtain⟨a',ha,rfl⟩:=aL (show(cT fns n c a).map .not=P6 ie from h)
     first|(exact zY λ_=>rfl)|(rw[show aC U (.not a')=λZ=>(aC U a' Z).map (!·) from funext λ_=>rfl];exact lG (hT _ _ ha))
    |_=>cases h
   |BoolOp op es pos=>
    obtain⟨a',ha,rfl⟩:=aL (show(dc (cT fns n c) es).map (.bool op)=P6 ie from h)
    first|(exact zY λ_=>rfl)|(rw[show aC U (.bool _ a')=eV U _ a' from funext λ_=>rfl];exact λZ b h g Y H Q se q=>λpins s I=>sH U hT _ _ ha Z b h g Y H Q se q _ pins s I)
   |Name x p=>
    obtain⟨h1,h2⟩:=kl (show i7 (cE fns n c _)=P6 ie from h);rw[mM h2];exact ww (hE _ _ h1) (λ_=>rfl)
   |Call g as ks p=>
    obtain⟨h1,h2⟩:=kl (show i7 (cE fns n c _)=P6 ie from h);rw[mM h2];exact ww (hE _ _ h1) (λ_=>rfl)
   |Subscript a b p=>
    obtain⟨h1,h2⟩:=kl (show i7 (cE fns n c _)=P6 ie from h);rw[mM h2];exact ww (hE _ _ h1) (λ_=>rfl)
   |_=>cases h
end
end J
namespace J
open PySem PySem.Spec L2
structure Evo(g:Gh)(H:Hp)(g':Gh)(H':Hp)(F:Pr):Prop where
 keep:∀b o,(∀i,g b≠P6 (P6 i))->H b=P6 o->H' b=P6 o
 out:∀b,g b=P6 P7↔g' b=P6 P7
 new:∀b i,g' b=P6 (P6 i)->(∃j,g b=P6 (P6 j))\/H b=P7
 tmp:∀b,F b->g' b=P7/\((∃j,g b=P6 (P6 j))\/H b=P7)
 dom:∀b o,H b=P6 o->∃o',H' b=P6 o'
section
variable {K:Mz} {H H' H1 H2:Hp} {g g' g1 g2:Gh} {F F1 F2:Pr}
theorem Evo.refl(g:Gh)(H:Hp):Evo g H g H (λ_=>False):=⟨λ_ _ _ e=>e,λ_=>Iff.rfl,λb i e=>.inl ⟨i,e⟩,λ_ z=>z.elim,λ_ o e=>⟨o,e⟩⟩
theorem Evo.froz(e:Evo g H g' H' F){b:Qc}{o:HO}(h:H b=P6 o)(n:g b=P7):g' b=P7/\¬F b:=by
 refine⟨?_,λz=>?_⟩
 ·cases q:g' b with
  |none=>rfl
  |some x=>
   cases x with
   |none=>have:=(e.out b).mpr q;rw[n] at this;cases this
   |some i=>
    rcases e.new b i q with⟨j,q⟩|q
    ·rw[n] at q;cases q
    ·rw[h] at q;cases q
 ·rcases(e.tmp b z).2 with⟨j,q⟩|q
  ·rw[n] at q;cases q
  ·rw[h] at q;cases q
open Classical in
noncomputable def Gh.minus(g:Gh)(F:Pr):Gh:=λb=>if F b then P7 else g b
theorem gU(h:F b):g.minus F b=P7:=by unfold Gh.minus;rw[if_pos h]
theorem bw(h:¬F b):g.minus F b=g b:=by unfold Gh.minus;rw[if_neg h]
theorem km(h:g.minus F b=P6 x):g b=P6 x/\¬F b:=by
 unfold Gh.minus at h;split at h
 ·cases h
 ·rename_i n;exact⟨h,n⟩
theorem bM(h:¬F b):g.plus F b=g b:=by unfold Gh.plus;rw[if_neg h]
theorem Evo.trans(a:Evo g H g1 H1 F1)(b:Evo (g1.plus F1) H1 g2 H2 F2):Evo g H (g2.minus F1) H2 (λb=>F1 b\/F2 b):=by
 have of2:∀c,¬F1 c->∀j,(g1.plus F1) c=P6 (P6 j)->(∃k,g c=P6 (P6 k))\/H c=P7:=λc n j e=>by
  rw[bM n] at e;exact a.new c j e
 have h1:∀c,H1 c=P7->H c=P7:=λc q=>by
  cases e:H c with
  |none=>rfl
  |some o=>obtain⟨o',q'⟩:=a.dom c o e;rw[q] at q';cases q'
 refine⟨λc o n e=>?_,λc=>⟨λq=>?_,λq=>?_⟩,λc i q=>?_,λc z=>?_,λc o e=>?_⟩
 ·refine b.keep c o (λi q=>?_) (a.keep c o n e);have nf:=bA q;rcases a.new c i nf with⟨j,q⟩|q
  ·exact n j q
  ·rw[e] at q;cases q
 ·have nF:¬F1 c:=λz=>by
   have:=(a.tmp c z).1;rw[(a.out c).mp q] at this;cases this
  rw[bw nF];exact(b.out c).mp (by rw[bM nF];exact(a.out c).mp q)
 ·obtain⟨q1,nF⟩:=km q;have:=(b.out c).mpr q1;rw[bM nF] at this;exact(a.out c).mpr this
 ·obtain⟨q1,nF⟩:=km q;rcases b.new c i q1 with⟨j,q⟩|q
  ·exact of2 c nF j q
  ·exact .inr (h1 c q)
 ·rcases z with z|z
  ·exact⟨gU z,(a.tmp c z).2⟩
  ·obtain⟨t1,t2⟩:=b.tmp c z;by_cases zF:F1 c
   ·exact⟨gU zF,(a.tmp c zF).2⟩
   ·refine⟨by rw[bw zF];exact t1,?_⟩;rcases t2 with⟨j,q⟩|q
    ·exact of2 c zF j q
    ·exact .inr (h1 c q)
 ·obtain⟨o1,e1⟩:=a.dom c o e;exact b.dom c o1 e1
theorem VR1.evo(hb:aX kd=Qb)(b:Evo (g1.plus F1) H1 g2 H2 F2)(h:VR1 K H1 g1 F1 kd d v F1):VR1 K H2 (g2.minus F1) (λc=>F1 c\/F2 c) kd d v F1:=by
 have k1:∀c o,(¬Sx g1 F1 c\/F1 c)->H1 c=P6 o->H2 c=P6 o:=λc o n e=>by
  refine b.keep c o (λi q=>?_) e;rcases n with n|n
  ·exact n (.inl (by rw[bA q];simp))
  ·rw[aO n] at q;cases q
 have k2:∀c o,H1 c=P6 o->¬Sx g1 F1 c->¬Sx (g2.minus F1) (λc=>F1 c\/F2 c) c:=λc o e n z=>by
  have nF:¬F1 c:=λz=>n (.inr z)
  have gn:(g1.plus F1) c=P7:=by
   rw[bM nF]
   cases q:g1 c with
   |none=>rfl
   |some x=>exact absurd (.inl (by rw[q];simp)) n
  obtain⟨f1,f2⟩:=b.froz e gn;rcases z with z|z|z
  ·rw[bw nF] at z;exact z f1
  ·exact nF z
  ·exact f2 z
 cases kd with
 |sh=>exact⟨h.1,h.2.go λc o n e=>⟨k1 c o (.inl n) e,k2 c o e n⟩⟩
 |fr k=>exact Tr.go k1 k2 h
 |bo i k=>cases hb
theorem DU(b:Evo (g1.plus F1) H1 g2 H2 F2)(c:Qc):Sx (g2.minus F1) (λc=>F1 c\/F2 c) c↔Sx g2 F2 c:=by
 by_cases h:F1 c
 ·have:g2 c=P6 P7:=(b.out c).mp (aO h);exact⟨λ_=>.inl (by rw[this];simp),λ_=>.inr (.inl h)⟩
 ·refine⟨λz=>z.elim (λz=>.inl (by rw[bw h] at z;exact z)) λz=>z.elim (λz=>absurd z h) .inr,λz=>z.elim (λz=>.inl (by rw[bw h];exact z)) λz=>.inr (.inr z)⟩
theorem gW(b:Evo (g1.plus F1) H1 g2 H2 F2):(g2.minus F1).plus (λc=>F1 c\/F2 c)=g2.plus F2:=by
 funext c;by_cases h2:F2 c
 ·rw[aO h2,aO (.inr h2)]
 ·by_cases h:F1 c
  ·rw[aO (.inl h),bM h2];exact((b.out c).mp (aO h)).symm
  ·rw[bM h2,bM (λz=>z.elim h h2),bw h]
theorem VR1.evoR(b:Evo (g1.plus F1) H1 g2 H2 F2)(h:VR1 K H2 g2 F2 kd d v F):VR1 K H2 (g2.minus F1) (λc=>F1 c\/F2 c) kd d v F:=by
 have k2:∀c o,H2 c=P6 o->¬Sx g2 F2 c->¬Sx (g2.minus F1) (λc=>F1 c\/F2 c) c:=λc o _ n z=>n ((DU b c).mp z)
 cases kd with
 |sh=>exact⟨h.1,h.2.go λc o n e=>⟨e,k2 c o e n⟩⟩
 |fr k=>exact Tr.go (λ_ _ _ e=>e) k2 h
 |bo i k=>
  obtain⟨h1,F0,h2,h3⟩:=h;refine⟨h1,F0,λc z=>?_,Tr.go (λ_ _ _ e=>e) k2 h3⟩;rw[bw (λz1=>?_)]
  ·exact h2 c z
  ·have:=h2 c z;rw[(b.out c).mp (aO z1)] at this;cases this
theorem VRL.evoR(b:Evo (g1.plus F1) H1 g2 H2 F2):∀{kds:List KD} {vs:List V} {F:Pr},VRL K H2 g2 F2 kds vs F->VRL K H2 (g2.minus F1) (λc=>F1 c\/F2 c) kds vs F
 |[],_,_,h=>h
 |(kd,d)::r,_,_,h=>by
  obtain⟨y,ys,G1,G2,e,hF,dj,h1,h2⟩:=h;exact⟨y,ys,G1,G2,e,hF,dj,h1.evoR b,VRL.evoR b h2⟩
theorem oM(hb:aX kd=Qb)(a:Evo g H g1 H1 F1)(r1:VR1 K H1 g1 F1 kd d v F1)(b:Evo (g1.plus F1) H1 g2 H2 F2)(se:SE K (g2.plus F2) Z2 Y H2)(r2:VRL K H2 g2 F2 kds vs F2) :
  Evo g H (g2.minus F1) H2 (λc=>F1 c\/F2 c)/\SE K ((g2.minus F1).plus (λc=>F1 c\/F2 c)) Z2 Y H2/\VRL K H2 (g2.minus F1) (λc=>F1 c\/F2 c) ((kd,d)::kds) (v::vs) (λc=>F1 c\/F2 c):=by
 refine⟨a.trans b,by rw[gW b];exact se,v,vs,F1,F2,rfl,λc=>Iff.rfl,λc z1 z2=>?_,r1.evo hb b,r2.evoR b⟩;have:=(b.out c).mp (aO z1);rw[(b.tmp c z2).1] at this;cases this
end
noncomputable abbrev MR:=Option (Kd×D×Ro)
noncomputable def bd(X:Cx)(f:Ro->MR)(e:P9):Prop:=∀Z kd d Z',f Z=P6 (kd,d,Z')->∀g Y H Q,SE X.K g Z Y H->
 (∀v g' H' F,Evo g H g' H' F->SE X.K (g'.plus F) Z' Y H'->VR1 X.K H' g' F kd d v F->Q v H')->wE X e Y H Q
noncomputable def lJ(X:Cx)(f:Ro->Option (List KD×Ro))(es:List P9):Prop:=∀Z kds Z',f Z=P6 (kds,Z')->∀g Y H Q,SE X.K g Z Y H->
 (∀vs g' H' F,Evo g H g' H' F->SE X.K (g'.plus F) Z' Y H'->VRL X.K H' g' F kds vs F->Q vs H')->wA X es Y H Q
noncomputable def fL(X:Cx)(f:Ro->Option (Bool×Ro))(e:P9):Prop:=∀Z b Z',f Z=P6 (b,Z')->∀g Y H Q,SE X.K g Z Y H->
 (∀g' H',Evo g H g' H' (λ_=>False)->SE X.K g' Z' Y H'->Q b H')->wT X e Y H Q
section
variable {X:Cx}
theorem de{g:Gh}{H H':Hp}{F:Pr}(s:Same H H')(hF:∀b,F b->H b=P7)(hg:∀b,F b->g b=P7):Evo g H g H' F:=
 ⟨λb o _ e=>s b o e,λ_=>Iff.rfl,λb i e=>.inl ⟨i,e⟩,λb z=>⟨hg b z,.inr (hF b z)⟩,λb o e=>⟨o,s b o e⟩⟩
theorem ee{g:Gh}{H:Hp}(m:MuOk H (Sg g)){b:Qc}(h:H b=P7):g b=P7:=by
 cases e:g b with
 |none=>rfl
 |some x=>obtain⟨o,q,_⟩:=m b (by rw[Sg,e];simp);rw[h] at q;cases q
theorem SndE.m{f:Ro->Option KD}(h:SndE X f e):bd X (λZ=>(f Z).map λp=>(p.1,p.2,Z)) e:=by
 intro Z kd d Z' hr g Y H Q se q;dsimp only at hr
 cases hf:f Z with
 |none=>rw[hf] at hr;cases hr
 |some p=>
  rw[hf] at hr;cases hr;refine h Z p.1 p.2 hf g Y H Q se λv H' s ⟨F,h1,h2⟩=>?_;exact q v g H' F (de s h1 λb z=>ee se.mu (h1 b z)) (se.plus s h1 h2.dom) h2
theorem SndT.m{f:Ro->Option Bool}(h:SndT X f e):fL X (λZ=>(f Z).map λp=>(p,Z)) e:=by
 intro Z b Z' hr g Y H Q se q;dsimp only at hr
 cases hf:f Z with
 |none=>rw[hf] at hr;cases hr
 |some p=>
  rw[hf] at hr;cases hr;exact h Z b hf g Y H Q se λH' s=>q g H' (de s (λ_ z=>z.elim) λ_ z=>z.elim) (se.same s)
noncomputable def cP(kd:Kd)(d:D):Kd:=match kd with
 |.bo i k=>if qj d=P8 then .sh else .bo i k
 |k=>k
theorem VR1.im{g:Gh}(m:MuOk H (Sg (g.plus F)))(h:VR1 K H g F kd d v F):VR1 K H g F (cP kd d) d v F:=by
 cases kd with
 |sh=>exact h
 |fr k=>exact h
 |bo i k=>
  unfold cP;dsimp only;split
  ·rename_i hi;refine⟨h.1,h.rd.im (λb z=>m b ((am b).mpr z)) hi⟩
  ·exact h
noncomputable def eW(a:MR)(r:Ro->Option (List KD×Ro)):Option (List KD×Ro):=match a with
 |some (kd,d,Z1)=>if aX (cP kd d)=P8 then P7 else(match r Z1 with|some (kds,Z2)=>P6 ((cP kd d,d)::kds,Z2)|none=>P7)
 |none=>P7
theorem sN{fa:Ro->MR}(hn:ah e=P8)(ha:bd X fa e)(hr:lJ X fr es):lJ X (λZ=>eW (fa Z) fr) (e::es):=by
 intro Z kds Z' h g Y H Q se q;dsimp only[eW] at h;split at h
 ·rename_i kd d Z1 e1;split at h
  ·cases h
  ·rename_i hb;split at h
   ·rename_i kds' Z2 e2;cases h;refine jW (bg av cH (ag hn)) (ha Z kd d Z1 e1 g Y H _ se λv g1 H1 F1 ev1 se1 r1=>hr Z1 kds' Z' e2 (g1.plus F1) Y H1 _ se1 λvs g2 H2 F2 ev2 se2 r2=>?_);obtain⟨c1,c2,c3⟩:=oM (by simpa using hb) ev1 (r1.im se1.mu) ev2 se2 r2;exact q (v::vs) _ H2 _ c1 c2 c3
   ·cases h
 ·cases h
noncomputable def eX(a:MR)(r:Ro->Option (List KD)):Option (List KD×Ro):=match a with
 |some (kd,d,Z1)=>(match r Z1 with|some kds=>P6 ((kd,d)::kds,Z1)|none=>P7)
 |none=>P7
theorem sO{g g1:Gh}(a:Evo g H g1 H1 F1)(se:SE K (g1.plus F1) Z1 Y H1)(r1:VR1 K H1 g1 F1 kd d v F1)(s:Same H1 H2)(r2:VRs K (g1.plus F1) H1 H2 kds vs) :
  ∃F,Evo g H g1 H2 F/\SE K (g1.plus F) Z1 Y H2/\VRL K H2 g1 F ((kd,d)::kds) (v::vs) F:=by
 obtain⟨F2,b1,b2⟩:=r2
 have hd:∀c,F2 c->g1 c=P7/\¬F1 c:=λc z=>by
  have:=ee se.mu (b1 c z);by_cases h:F1 c
  ·rw[aO h] at this;cases this
  ·rw[bM h] at this;exact⟨this,h⟩
 have h1:∀c,H1 c=P7->H c=P7:=λc q=>by
  cases e:H c with
  |none=>rfl
  |some o=>obtain⟨o',q'⟩:=a.dom c o e;rw[q] at q';cases q'
 refine⟨λc=>F1 c\/F2 c,⟨λc o n e=>s c o (a.keep c o n e),a.out,a.new,λc z=>z.elim (a.tmp c) λz=>⟨(hd c z).1,.inr (h1 c (b1 c z))⟩,λc o e=>let ⟨o',q⟩:=a.dom c o e;⟨o',s c o' q⟩⟩,?_,v,vs,F1,F2,rfl,λc=>Iff.rfl,λc z1 z2=>(hd c z2).2 z1,?_,b2.unplus⟩
 ·rw[<- iB];exact se.plus s b1 b2.dom
 ·exact r1.go s λc o e z=>z.elim id λz=>by rw[b1 c z] at e;cases e
theorem xc{fa:Ro->MR}(hn:ah e=P8)(ha:bd X fa e)(hr:jX X fr es):lJ X (λZ=>eX (fa Z) fr) (e::es):=by
 intro Z kds Z' h g Y H Q se q;dsimp only[eX] at h;split at h
 ·rename_i kd d Z1 e1;split at h
  ·rename_i kds' e2;cases h;refine jW (bg av cH (ag hn)) (ha Z kd d Z' e1 g Y H _ se λv g1 H1 F1 ev1 se1 r1=>hr Z' kds' e2 (g1.plus F1) Y H1 _ se1 λvs H2 s2 r2=>?_);obtain⟨F,c1,c2,c3⟩:=sO ev1 se1 r1 s2 r2;exact q (v::vs) g1 H2 F c1 c2 c3
  ·cases h
 ·cases h
open Classical in
noncomputable def k8(H:Hp)(F:Pr):Hp:=λb=>if F b then P7 else H b
theorem ko:Same (k8 H F) H:=λb o e=>by
 unfold k8 at e;split at e
 ·cases e
 ·exact e
theorem qI{g:Gh}{F:Pr}(se:SE K (g.plus F) Z Y H)(hg:∀b,F b->g b=P7):MuOk (k8 H F) (Sg g):=λb z=>by
 have nF:¬F b:=λz2=>z (hg b z2);obtain⟨o,e,n⟩:=se.mu b ((am b).mpr (.inl z));exact⟨o,by unfold k8;rw[if_neg nF];exact e,n⟩
theorem qJ{g g1:Gh}{H H1 H2:Hp}{F F2:Pr}(a:Evo g H g1 H1 F)(se:SE K (g1.plus F) Z1 Y H1)(s:Same H1 H2)(h1:∀b,F2 b->k8 H1 F b=P7)(dm:∀b,F2 b->∃o,H2 b=P6 o/\∀xs,o≠.tup xs):Evo g H g1 H2 F2/\SE K (g1.plus F2) Z1 Y H2:=by
 have hF:∀b,F2 b->F b\/H1 b=P7:=λb z=>by
  have:=h1 b z;unfold k8 at this;split at this
  ·rename_i q;exact .inl q
  ·exact .inr this
 have hn:∀c,H1 c=P7->H c=P7:=λc q=>by
  cases e:H c with
  |none=>rfl
  |some o=>obtain⟨o',q'⟩:=a.dom c o e;rw[q] at q';cases q'
 have hg2:∀b,F2 b->g1 b=P7:=λb z=>by
  rcases hF b z with q|q
  ·exact(a.tmp b q).1
  ·have:=ee se.mu q;by_cases h:F b
   ·rw[aO h] at this;cases this
   ·rw[bM h] at this;exact this
 refine⟨⟨λc o n e=>s c o (a.keep c o n e),a.out,a.new,λc z=>⟨hg2 c z,(hF c z).elim (λq=>(a.tmp c q).2) λq=>.inr (hn c q)⟩,λc o e=>let ⟨o',q⟩:=a.dom c o e;⟨o',s c o' q⟩⟩,?_⟩;refine⟨λi sl e=>?_,λb z=>?_,se.len⟩
 ·obtain⟨v,F0,e1,e2,e3⟩:=se.slot i sl e;refine⟨v,F0,e1,λb z=>?_,e3.go (λb o _ e=>s b o e) λb o e n z=>?_⟩
  ·have:=bA (e2 b z);exact bX this λz2=>by rw[hg2 b z2] at this;cases this
  ·rcases(am b).mp z with z|z
   ·exact n ((am b).mpr (.inl z))
   ·rcases hF b z with q|q
    ·exact n ((am b).mpr (.inr q))
    ·rw[q] at e;cases e
 ·rcases(am b).mp z with z|z
  ·obtain⟨o,e,n⟩:=se.mu b ((am b).mpr (.inl z));exact⟨o,s b o e,n⟩
  ·exact dm b z
theorem VRL.off(h:VRL K H g F kds vs F):VRs K g (k8 H F) H kds vs:=⟨F,λb z=>by unfold k8;rw[if_pos z],h⟩
theorem StrictOk.m{f:List KD->Option KD}{fa:Ro->Option (List KD×Ro)}(h:StrictOk X f es node)(ha:lJ X fa es):bd X (λZ=>(fa Z).bind λp=>(f p.1).map λq=>(q.1,q.2,p.2)) node:=by
 intro Z kd d Z' hd g Y H Q se q;dsimp only at hd
 cases e:fa Z with
 |none=>rw[e] at hd;cases hd
 |some p=>
  obtain⟨kds,Z1⟩:=p;rw[e] at hd;dsimp only[Nm] at hd
  cases e2:f kds with
  |none=>rw[e2] at hd;cases hd
  |some r=>
   rw[e2] at hd;cases hd;refine h kds r.1 r.2 e2 Y H Q (ha Z kds _ e g Y H _ se λvs g1 H1 F ev se1 r1=>⟨g1,k8 H1 F,qI se1 λb z=>(ev.tmp b z).1,ko,r1.off,λv H2 s2 r2=>?_⟩);obtain⟨F2,b1,b2⟩:=r2;obtain⟨c1,c2⟩:=qJ ev se1 s2 b1 b2.dom;exact q v g1 H2 F2 c1 c2 b2
end
end J
namespace J
open PySem PySem.Spec L2
noncomputable abbrev i8:=Ow×D
noncomputable abbrev Fm:=List i8->Option (Kd×D×List (Option i8))
noncomputable def DV(p:i8):Option Sl:=P6 ⟨Qb,p.1,p.2⟩
noncomputable def FJ(p:Option i8):Option Sl:=p.map λp=>⟨Qb,p.1,p.2⟩
noncomputable def z7(K:Mz)(B:Fm):Sp:=λvs H Q _=>∃ks g kd d outs,SE K g (ks.map DV) (vs.map P6) H/\B ks=P6 (kd,d,outs)/\
 ∀v g' H' F,Evo g H g' H' F->SE K (g'.plus F) (outs.map FJ) (vs.map P6) H'->VR1 K H' g' F kd d v F->Q v H'
set_option genInjectivity true in
inductive RA where
 |ref (i:Nat)|val (kd:Kd) (d:D)
noncomputable def VRA(K:Mz)(H:Hp)(g:Gh)(Ft:Pr)(Y:L2.St):List RA->List V->Pr->Prop
 |[],vs,F=>vs=[]/\∀b,¬F b
 |.ref i::r,vs,F=>∃y ys,vs=y::ys/\Y[i]?=P6 (P6 y)/\VRA K H g Ft Y r ys F
 |.val kd d::r,vs,F=>∃y ys F1 F2,vs=y::ys/\(∀b,F b↔F1 b\/F2 b)/\(∀b,F1 b->¬F2 b)/\VR1 K H g Ft kd d y F1/\VRA K H g Ft Y r ys F2
noncomputable def i9(X:Cx)(f:Ro->Option (List RA×Ro))(es:List P9):Prop:=∀Z ras Z',f Z=P6 (ras,Z')->∀g Y H Q,SE X.K g Z Y H->
 (∀vs g' H' F,Evo g H g' H' F->SE X.K (g'.plus F) Z' Y H'->VRA X.K H' g' F Y ras vs F->Q vs H')->wA X es Y H Q
section
variable {K:Mz} {H H1 H2:Hp} {g g1 g2:Gh} {F1 F2:Pr} {Y:L2.St}
theorem VRA.evoR(b:Evo (g1.plus F1) H1 g2 H2 F2):∀{ras:List RA} {vs:List V} {F:Pr},VRA K H2 g2 F2 Y ras vs F->VRA K H2 (g2.minus F1) (λc=>F1 c\/F2 c) Y ras vs F
 |[],_,_,h=>h
 |.ref i::r,_,_,h=>by
  obtain⟨y,ys,e,e2,h2⟩:=h;exact⟨y,ys,e,e2,VRA.evoR b h2⟩
 |.val kd d::r,_,_,h=>by
  obtain⟨y,ys,G1,G2,e,hF,dj,h1,h2⟩:=h;exact⟨y,ys,G1,G2,e,hF,dj,h1.evoR b,VRA.evoR b h2⟩
theorem aR{g:Gh}{F:Pr}(h:∀b,¬F b):g.plus F=g:=by
 funext b;exact bM (h b)
end
section
variable {X:Cx}
theorem Hn:i9 X (λZ=>P6 ([],Z)) []:=by
 intro Z ras Z' h g Y H Q se q;cases h;refine jW dG (q [] g H (λ_=>False) (.refl g H) ?_ ⟨rfl,λ_ z=>z⟩);rw[aR λ_ z=>z];exact se
noncomputable def sP(i:Nat)(o:Option (Option Sl))(r:Option (List RA×Ro)):Option (List RA×Ro):=match o,r with
 |some (P6 _),P6 (ras,Z')=>P6 (.ref i::ras,Z')
 |_,_=>P7
theorem Ho(O:ao X U c){x:Str}{i:Nat}{p:Pos}{es:List P9}{fr:Ro->Option (List RA×Ro)}(hc:eS c x=P6 i)(hr:i9 X fr es):i9 X (λZ=>sP i Z[i]? (fr Z)) (.Name x p::es):=by
 intro Z ras Z' h g Y H Q se q;dsimp only[sP] at h;split at h
 ·rename_i sl ras' Z2 e1 e2;cases h;have hv:SndE X (λZ=>ow i Z[i]?) (.Name x p):=Bs O hc p;obtain⟨v0,ev0,_⟩:=se.get e1
  -- the name gives that very value
  refine jW (bg av cH (ag rfl)) ?_;unfold eS at hc;split at hc
  ·rename_i j hj;split at hc
   ·rename_i hv;cases hc;simp only[MA,mz,OR] at hv;refine au (pT (i:=i) (by rw[O.N];exact aK hj) (by rw[O.sc];exact my hv.1) hv.2.1 hv.2.2) ⟨v0,ev0,?_⟩;exact hr Z ras' Z' e2 g Y H _ se λvs g' H' F ev se' r=>q (v0::vs) g' H' F ev se' ⟨v0,vs,rfl,ev0,r⟩
   ·cases hc
  ·cases hc
 ·cases h
noncomputable def sQ(a:MR)(r:Ro->Option (List RA×Ro)):Option (List RA×Ro):=match a with
 |some (kd,d,Z1)=>if aX (cP kd d)=P8 then P7 else(match r Z1 with|some (ras,Z2)=>P6 (.val (cP kd d) d::ras,Z2)|none=>P7)
 |none=>P7
theorem Hq{fa:Ro->MR}(hn:ah e=P8)(ha:bd X fa e)(hr:i9 X fr es):i9 X (λZ=>sQ (fa Z) fr) (e::es):=by
 intro Z ras Z' h g Y H Q se q;dsimp only[sQ] at h;split at h
 ·rename_i kd d Z1 e1;split at h
  ·cases h
  ·rename_i hb;split at h
   ·rename_i ras' Z2 e2;cases h;refine jW (bg av cH (ag hn)) (ha Z kd d Z1 e1 g Y H _ se λv g1 H1 F1 ev1 se1 r1=>hr Z1 ras' Z' e2 (g1.plus F1) Y H1 _ se1 λvs g2 H2 F2 ev2 se2 r2=>?_);refine q (v::vs) _ H2 _ (ev1.trans ev2) (by rw[gW ev2];exact se2) ⟨v,vs,F1,F2,rfl,λc=>Iff.rfl,λc z1 z2=>?_,(r1.im se1.mu).evo (by simpa using hb) ev2,r2.evoR ev2⟩;have:=(ev2.out c).mp (aO z1);rw[(ev2.tmp c z2).1] at this;cases this
   ·cases h
 ·cases h
end
noncomputable def cy:List RA->List Nat
 |[]=>[]
 |.ref i::r=>i::cy r
 |.val _ _::r=>cy r
noncomputable def ef(Z:Ro):List RA->Option (List i8)
 |[]=>P6 []
 |.ref i::r=>match Z[i]?,ef Z r with
  |some (P6 ⟨Qb,k,d⟩),P6 ks=>P6 ((k,d)::ks)
  |_,_=>P7
 |.val kd d::r=>if aX kd=P8 then P7 else(ef Z r).map ((.fz,d)::·)
noncomputable def df:List RA->Ro->Ro->Ro
 |.ref i::r,o::os,Z=>df r os (Z.set i o)
 |.val _ _::r,_::os,Z=>df r os Z
 |_,_,Z=>Z
noncomputable def mN(ras:List RA)(i:Nat):Option Nat:=ras.findIdx? λa=>match a with|.ref j=>j==i|_=>Qb
noncomputable def DW(B:Option Fm)(a:Option (List RA×Ro)):MR:=match B,a with
 |some B,P6 (ras,Z)=>if(cy ras).Nodup then(match ef Z ras with
  |some ks=>(match B ks with
   |some (kd,d,outs)=>if aX kd=P8\/outs.length≠ras.length then P7 else P6 (kd,d,df ras (outs.map FJ) Z)
   |none=>P7)
  |none=>P7) else P7
 |_,_=>P7
section
theorem fY{Z:Ro}:∀{ras:List RA} {ks:List i8},ef Z ras=P6 ks->ks.length=ras.length/\∀(j:Nat) a,ras[j]?=P6 a->∃k d,ks[j]?=P6 (k,d)/\(match a with|.ref i=>Z[i]?=P6 (P6 ⟨Qb,k,d⟩)|.val kd d'=>k=.fz/\d=d'/\aX kd=Qb)
 |[],ks,h=>by cases h;exact⟨rfl,λj a e=>by simp at e⟩
 |.ref i::r,ks,h=>by
  unfold ef at h;split at h
  ·rename_i k d ks' e1 e2;cases h;obtain⟨l,g⟩:=fY e2;refine⟨by simp[l],λj a e=>?_⟩
   cases j with
   |zero=>simp at e;subst e;exact⟨k,d,rfl,e1⟩
   |succ j=>simpa using g j a (by simpa using e)
  ·cases h
 |.val kd d::r,ks,h=>by
  unfold ef at h;split at h
  ·cases h
  ·rename_i hb;obtain⟨ks',e,rfl⟩:=aL h;obtain⟨l,g⟩:=fY e;refine⟨by simp[l],λj a e=>?_⟩
   cases j with
   |zero=>simp at e;subst e;exact⟨.fz,d,rfl,rfl,rfl,by simpa using hb⟩
   |succ j=>simpa using g j a (by simpa using e)
theorem gX:∀{ras:List RA} {i j:Nat},mN ras i=P6 j->ras[j]?=P6 (.ref i)
 |[],i,j,h=>by simp[mN] at h
 |a::r,i,j,h=>by
  unfold mN at h;rw[Na] at h
  cases a with
  |ref k=>
   by_cases e:k=i
   ·subst e;simp at h;subst h;rfl
   ·have e':(k==i)=Qb:=by simpa using e
    simp only[e'] at h;obtain⟨j',h',rfl⟩:=aL (by simpa using h);simpa using gX (ras:=r) (by unfold mN;exact h')
  |val kd d=>
   simp only at h;obtain⟨j',h',rfl⟩:=aL (by simpa using h);simpa using gX (ras:=r) (by unfold mN;exact h')
theorem eY:∀{ras:List RA} {j i:Nat},ras[j]?=P6 (.ref i)->i∈cy ras
 |[],_,_,h=>by simp at h
 |a::r,0,i,h=>by simp at h;subst h;exact M1
 |.ref k::r,j+1,i,h=>MS _ (eY (by simpa using h))
 |.val kd d::r,j+1,i,h=>eY (ras:=r) (by simpa using h)
theorem qK:∀{ras:List RA} {j i:Nat},(cy ras).Nodup->ras[j]?=P6 (.ref i)->mN ras i=P6 j
 |[],_,_,_,h=>by simp at h
 |.ref k::r,0,i,_,h=>by simp at h;subst h;simp[mN,Na]
 |.val kd d::r,0,i,_,h=>by simp at h
 |.ref k::r,j+1,i,hn,h=>by
  have hm:=eY (ras:=r) (j:=j) (i:=i) (by simpa using h);have hn':k∉cy r/\(cy r).Nodup:=M3.mp hn
  have e:(k==i)=Qb:=by
   simp only[beq_eq_false_iff_ne,ne_eq];intro z;subst z;exact hn'.1 hm
  have ih:=qK hn'.2 (by simpa using h:r[j]?=P6 (.ref i));unfold mN at ih⊢;rw[Na];simp only[e,ih];rfl
 |.val kd d::r,j+1,i,hn,h=>by
  have ih:=qK (ras:=r) hn (by simpa using h:r[j]?=P6 (.ref i));unfold mN at ih⊢;rw[Na];simp only[ih];rfl
theorem iH:∀{ras:List RA} {outs:Ro} {Z:Ro},(df ras outs Z).length=Z.length
 |[],_,_=>rfl
 |.ref i::r,[],_=>rfl
 |.val _ _::r,[],_=>rfl
 |.ref i::r,o::os,Z=>by simp only[df];rw[iH];simp
 |.val _ _::r,o::os,Z=>by simp only[df];exact iH
theorem iI:∀{ras:List RA} {outs:Ro} {Z:Ro},(cy ras).Nodup->outs.length=ras.length->∀(i:Nat) sl,(df ras outs Z)[i]?=P6 (P6 sl)->(i∉cy ras/\Z[i]?=P6 (P6 sl))\/∃(j:Nat),ras[j]?=P6 (RA.ref i)/\outs[j]?=P6 (P6 sl)
 |[],outs,Z,_,_,i,sl,h=>by cases outs<;>exact .inl ⟨by simp[cy],h⟩
 |.ref k::r,[],Z,_,hl,i,sl,h=>by simp at hl
 |.val kd d::r,[],Z,_,hl,i,sl,h=>by simp at hl
 |.val kd d::r,o::os,Z,hn,hl,i,sl,h=>by
  simp only[df] at h;rcases iI (ras:=r) hn (by simpa using hl) i sl h with⟨q1,q2⟩|⟨j,q1,q2⟩
  ·exact .inl ⟨q1,q2⟩
  ·exact .inr ⟨j+1,by simpa using q1,by simpa using q2⟩
 |.ref k::r,o::os,Z,hn,hl,i,sl,h=>by
  simp only[df] at h;have hn':k∉cy r/\(cy r).Nodup:=M3.mp hn;rcases iI (ras:=r) hn'.2 (by simpa using hl) i sl h with⟨q1,q2⟩|⟨j,q1,q2⟩
  ·by_cases e:i=k
   ·subst e
    have hlt:i<Z.length:=by
     have:=(MJ.mp q2).1;simpa using this
    rw[MW hlt] at q2;exact .inr ⟨0,rfl,q2⟩
   ·rw[MV (Ne.symm e)] at q2;exact .inl ⟨by simp only[cy,ML,not_or];exact⟨e,q1⟩,q2⟩
  ·exact .inr ⟨j+1,by simpa using q1,by simpa using q2⟩
end
end J
namespace J
open PySem PySem.Spec L2
section
variable {K:Mz} {H H1 H2:Hp} {g g1:Gh} {F:Pr} {Y:L2.St} {Z:Ro}
theorem VRA.get:∀{ras:List RA} {vs:List V} {F:Pr},VRA K H g Ft Y ras vs F->vs.length=ras.length/\∀(j:Nat) a,ras[j]?=P6 a->∃y,vs[j]?=P6 y/\(match a with|.ref i=>Y[i]?=P6 (P6 y)|.val kd d=>∃Fj:Pr,(∀b,Fj b->F b)/\VR1 K H g Ft kd d y Fj)
 |[],vs,F,h=>by obtain⟨rfl,_⟩:=h;exact⟨rfl,λj a e=>by simp at e⟩
 |.ref i::r,vs,F,h=>by
  obtain⟨y,ys,rfl,e,h2⟩:=h;obtain⟨l,q⟩:=VRA.get h2;refine⟨by simp[l],λj a ea=>?_⟩
  cases j with
  |zero=>simp at ea;subst ea;exact⟨y,rfl,e⟩
  |succ j=>simpa using q j a (by simpa using ea)
 |.val kd d::r,vs,F,h=>by
  obtain⟨y,ys,F1,F2,rfl,hF,dj,h1,h2⟩:=h;obtain⟨l,q⟩:=VRA.get h2;refine⟨by simp[l],λj a ea=>?_⟩
  cases j with
  |zero=>simp at ea;subst ea;exact⟨y,rfl,F1,λb z=>(hF b).mpr (.inl z),h1⟩
  |succ j=>
   obtain⟨y',e1,e2⟩:=q j a (by simpa using ea);refine⟨y',by simpa using e1,?_⟩
   cases a with
   |ref i=>exact e2
   |val kd d=>obtain⟨Fj,f1,f2⟩:=e2;exact⟨Fj,λb z=>(hF b).mpr (.inr (f1 b z)),f2⟩
theorem Hr{ks:List i8}{vs:List V}(hn:(cy ras).Nodup)(hh:ef Z ras=P6 ks)(hg:∀b,F b->g1 b=P7)(se:SE K (g1.plus F) Z Y H1)(r:VRA K H1 g1 F Y ras vs F):SE K (g1.re (mN ras)) (ks.map DV) (vs.map P6) H1:=by
 obtain⟨lk,gk⟩:=fY hh;obtain⟨lv,gv⟩:=r.get;have gS:∀b,Sg (g1.re (mN ras)) b->Sg (g1.plus F) b:=λb z=>(am b).mpr (.inl ((jm b).mp z));refine⟨λj sl e=>?_,λb z=>se.mu b (gS b z),by simp[lk,lv]⟩;rw[MF] at e
 cases ek:ks[j]? with
 |none=>rw[ek] at e;cases e
 |some p=>
  rw[ek] at e;cases e;have hj:j<ras.length:=by rw[<- lk];exact(MJ.mp ek).1
  have ea:ras[j]?=P6 ras[j]:=MK hj;obtain⟨k,d,ek',m⟩:=gk j _ ea;rw[ek] at ek';cases ek';obtain⟨y,ey,m2⟩:=gv j _ ea;generalize ras[j]=a at ea m m2
  cases a with
  |ref i=>
   have m:Z[i]?=P6 (P6 ⟨Qb,k,d⟩):=m;have m2:Y[i]?=P6 (P6 y):=m2;obtain⟨v,Fi,e1,e2,e3⟩:=se.slot i _ m;rw[m2] at e1;cases e1;refine⟨y,Fi,by simp[ey],λb z=>?_,e3.go (λ_ _ _ e=>e) λb o _ n z=>n (gS b z)⟩;unfold Gh.re;rw[bA (e2 b z)];show P6 (mN ras i)=_;rw[qK hn ea]
  |val kd' d'=>
   obtain⟨rfl,rfl,hb⟩:k=.fz/\d=d'/\aX kd'=Qb:=m;obtain⟨Fj,f1,f2⟩:=m2;refine⟨y,λ_=>False,by simp[ey],λb z=>z.elim,.fz ?_⟩;have hS:∀b,Sg (g1.re (mN ras)) b->g1 b≠P7:=λb z=>(jm b).mp z
   cases kd' with
   |sh=>exact f2.2.weak λb z=>.inl (hS b z)
   |fr c=>exact Tr.rp (λb z=>⟨.inl (hS b z),λz2=>hS b z (hg b (f1 b z2))⟩) f2
   |bo i c=>cases hb
noncomputable def di(g1 gc:Gh)(ras:List RA):Gh:=λb=>match gc b with
 |some (P6 j)=>(match ras[j]? with|some (.ref i)=>P6 (P6 i)|_=>P7)
 |some P7=>g1 b
 |none=>P7
theorem z8{gc:Gh}{ras:List RA}{j i:Nat}(h:gc b=P6 (P6 j))(e:ras[j]?=P6 (.ref i)):di g1 gc ras b=P6 (P6 i):=by
 unfold di;rw[h];dsimp only;rw[e]
theorem oN{gc:Gh}(h:gc b=P6 P7):di g1 gc ras b=g1 b:=by unfold di;rw[h]
theorem mO{gc:Gh}(h:gc b=P7):di g1 gc ras b=P7:=by unfold di;rw[h]
theorem kq{gc:Gh}{ras:List RA}(h:di g1 gc ras b=P6 x):(∃j i,gc b=P6 (P6 j)/\ras[j]?=P6 (.ref i)/\x=P6 i)\/(gc b=P6 P7/\g1 b=P6 x):=by
 unfold di at h;split at h
 ·rename_i j e;split at h
  ·rename_i i e2;cases h;exact .inl ⟨j,i,e,e2,rfl⟩
  ·cases h
 ·rename_i e;exact .inr ⟨e,h⟩
 ·cases h
theorem sR{m:Nat->Option Nat}{j:Nat}(h:g.re m b=P6 (P6 j)):∃i,g b=P6 (P6 i)/\m i=P6 j:=by
 unfold Gh.re at h
 cases q:g b with
 |none=>simp[q] at h
 |some x=>
  cases x with
  |none=>simp[q] at h
  |some i=>simp[q] at h;exact⟨i,rfl,h⟩
theorem Hs(h:g b=P7):g.re m b=P7:=by unfold Gh.re;rw[h]
theorem Kb(h:g b=P6 P7):g.re m b=P6 P7:=by unfold Gh.re;rw[h]
theorem Kc{m:Nat->Option Nat}{i:Nat}(h:g b=P6 (P6 i)):g.re m b=P6 (m i):=by unfold Gh.re;rw[h]
theorem lK{ras:List RA}{gc:Gh}{Zc:Ro}{Yc:L2.St}(hn:(cy ras).Nodup)(hol:Zc.length=ras.length)(hbo:aX kd=Qb)(a:Evo g H g1 H1 F)(se:SE K (g1.plus F) Z Y H1)(hY:∀(j i:Nat) sl w,ras[j]?=P6 (.ref i)->Zc[j]?=P6 (P6 sl)->Yc[j]?=P6 (P6 w)->Y[i]?=P6 (P6 w))(ev:Evo (g1.re (mN ras)) H1 gc H2 Fr)(sec:SE K (gc.plus Fr) Zc Yc H2)(rv:VR1 K H2 gc Fr kd d v Fr) :
  Evo g H (di g1 gc ras) H2 Fr/\SE K ((di g1 gc ras).plus Fr) (df ras Zc Z) Y H2/\VR1 K H2 (di g1 gc ras) Fr kd d v Fr:=by
 have hn0:∀c,H1 c=P7->H c=P7:=λc q=>by
  cases e:H c with
  |none=>rfl
  |some o=>obtain⟨o',q'⟩:=a.dom c o e;rw[q] at q';cases q'
 -- frozen ones stay so
 have froz:∀b o,H1 b=P6 o->g1 b=P7->di g1 gc ras b=P7/\¬Fr b:=λb o e n=>by
  obtain⟨f1,f2⟩:=ev.froz e (Hs n);exact⟨mO f1,f2⟩
 have slotF:∀b i,g1 b=P6 (P6 i)->(∃j,g b=P6 (P6 j))\/H b=P7:=λb i e=>a.new b i e
 have fromS:∀b j,gc b=P6 (P6 j)->(∃k,g b=P6 (P6 k))\/H b=P7:=λb j e=>by
  rcases ev.new b j e with⟨k,q⟩|q
  ·obtain⟨i,q1,_⟩:=sR q;exact slotF b i q1
  ·exact .inr (hn0 b q)
 have evo:Evo g H (di g1 gc ras) H2 Fr:=by
  refine⟨λb o n e=>?_,λb=>⟨λe=>?_,λe=>?_⟩,λb i e=>?_,λb z=>?_,λb o e=>?_⟩
  ·refine ev.keep b o (λj q=>?_) (a.keep b o n e);obtain⟨i,q1,_⟩:=sR q;rcases a.new b i q1 with⟨k,q2⟩|q2
   ·exact n k q2
   ·rw[e] at q2;cases q2
  ·have e1:=(a.out b).mp e;have e2:=(ev.out b).mp (Kb e1);rw[oN e2];exact e1
  ·rcases kq e with⟨j,i,_,_,z⟩|⟨_,e1⟩
   ·cases z
   ·exact(a.out b).mpr e1
  ·rcases kq e with⟨j,i',e1,_,_⟩|⟨_,e1⟩
   ·exact fromS b j e1
   ·exact slotF b i e1
  ·obtain⟨t1,t2⟩:=ev.tmp b z;refine⟨mO t1,?_⟩;rcases t2 with⟨j,q⟩|q
   ·obtain⟨i,q1,_⟩:=sR q;exact slotF b i q1
   ·exact .inr (hn0 b q)
  ·obtain⟨o1,e1⟩:=a.dom b o e;exact ev.dom b o1 e1
 have gcS:∀b,Sg (di g1 gc ras) b->Sg gc b:=λb z z2=>z (mO z2);refine⟨evo,⟨λi sl e=>?_,λb z=>?_,by rw[iH];exact se.len⟩,?_⟩
 ·rcases iI hn hol i sl e with⟨ni,e1⟩|⟨j,ej,eo⟩
  ·-- a slot that was not ef in
   obtain⟨w,Fi,e2,e3,e4⟩:=se.slot i sl e1
   have lab:∀b,Fi b->g1 b=P6 (P6 i)/\gc b=P6 P7:=λb z=>by
    have q1:=bA (e3 b z);refine⟨q1,(ev.out b).mp ?_⟩;rw[Kc q1]
    cases q2:mN ras i with
    |none=>rfl
    |some j=>exact absurd (eY (gX q2)) ni
   refine⟨w,Fi,e2,λb z=>?_,e4.go (λb o hb e=>ev.keep b o (λj q=>?_) e) λb o e n z=>?_⟩
   ·obtain⟨l1,l2⟩:=lab b z;refine bX (by rw[oN l2];exact l1) λz2=>?_;rw[(ev.tmp b z2).1] at l2;cases l2
   ·obtain⟨k,q1,q2⟩:=sR q;rcases hb with hb|hb
    ·exact hb ((am b).mpr (.inl (by rw[Sg,q1];simp)))
    ·rw[(lab b hb).1] at q1;cases q1;exact absurd (eY (gX q2)) ni
   ·have nF:g1 b=P7:=by
     cases q1:g1 b with
     |none=>rfl
     |some x=>exact absurd ((am b).mpr (.inl (by rw[Sg,q1];simp))) n
    obtain⟨f1,f2⟩:=froz b o e nF;rcases(am b).mp z with z|z
    ·exact z f1
    ·exact f2 z
  ·-- one that was
   obtain⟨w,Fj,e2,e3,e4⟩:=sec.slot j sl eo;refine⟨w,Fj,hY j i sl w ej eo e2,λb z=>?_,e4.go (λ_ _ _ e=>e) λb o e n z=>?_⟩
   ·have q1:=bA (e3 b z);refine bX (z8 q1 ej) λz2=>?_;rw[(ev.tmp b z2).1] at q1;cases q1
   ·rcases(am b).mp z with z|z
    ·exact n ((am b).mpr (.inl (gcS b z)))
    ·exact n ((am b).mpr (.inr z))
 ·rcases(am b).mp z with z|z
  ·exact sec.mu b ((am b).mpr (.inl (gcS b z)))
  ·exact sec.mu b ((am b).mpr (.inr z))
 ·have k2:∀b o,H2 b=P6 o->¬Sx gc Fr b->¬Sx (di g1 gc ras) Fr b:=λb o _ n z=>n (z.imp (gcS b) id)
  cases kd with
  |sh=>exact⟨rv.1,rv.2.go λb o n e=>⟨e,k2 b o e n⟩⟩
  |fr k=>exact Tr.go (λ_ _ _ e=>e) k2 rv
  |bo i k=>cases hbo
theorem z9{Q:VK}(h:DW (P6 B) (P6 (ras,Z))=P6 (kd,d,Z2))(a:Evo g H g1 H1 F)(se:SE K (g1.plus F) Z Y H1)(r:VRA K H1 g1 F Y ras vs F)(q:∀v g' H' F',Evo g H g' H' F'->SE K (g'.plus F') Z2 Y H'->VR1 K H' g' F' kd d v F'->Q v H'):z7 K B vs H1 Q E:=by
 unfold DW at h;dsimp only at h;split at h
 ·rename_i hn;split at h
  ·rename_i ks hh;split at h
   ·rename_i kd' d' outs hB;split at h
    ·cases h
    ·rename_i hc;cases h
     have hbo:aX kd=Qb:=by
      cases e:aX kd with
      |false=>rfl
      |true=>exact absurd (.inl e) hc
     have hol:outs.length=ras.length:=Classical.byContradiction λz=>hc (.inr z);refine⟨ks,g1.re (mN ras),kd,d,outs,Hr hn hh (λb z=>(a.tmp b z).1) se r,hB,λv gc H2 Fr ev sec rv=>?_⟩;obtain⟨_,gv⟩:=r.get
     obtain⟨c1,c2,c3⟩:=lK hn (by rw[MB];exact hol) hbo a se (λj i sl w ej _ ew=>by
      obtain⟨y,ey,m⟩:=gv j _ ej;have m:Y[i]?=P6 (P6 y):=m;rw[MF,ey] at ew;cases ew;exact m) ev sec rv
     exact q v _ H2 Fr c1 c2 c3
   ·cases h
  ·cases h
 ·cases h
end
end J
namespace J
open PySem PySem.Spec L2
noncomputable def clr(ps:List (Nat×D))(Z:Ro):Ro:=ps.foldl (λZ p=>Z.set p.1 P7) Z
noncomputable def xf(cap:List (Option Nat))(ps:List (Nat×D)):Bool:=ps.all λp=>match cap[p.1]? with|some P7=>P8|_=>Qb
noncomputable def fy(cap:List (Option Nat))(tg:IT)(ft:Ro->Option (Bool×Ro))(fe:Ro->MR)(d:D)(Z0:Ro):Option (Option KD×Ro):=match pQ tg d with
 |some ps=>if bI ps Z0=P8/\xf cap ps=P8 then(match ft (setAll ps Z0) with
  |some (P8,Zt)=>(match fe Zt with|some (kd,d,Z1)=>P6 (P6 (cP kd d,d),clr ps Z1)|none=>P7)
  |some (Qb,Zt)=>P6 (P7,clr ps Zt)
  |none=>P7) else P7
 |none=>P7
noncomputable def aE(r:Ow)(f:D->Ro->Option (Option KD×Ro)):List D->Ro->Option (List D×Ro)
 |[],Z=>P6 ([],Z)
 |d::ds,Z=>match f d Z with
  |some (P6 kd,Z1)=>if bB r kd=P8 then(match aE r f ds Z1 with|some (ys,Z2)=>P6 (kd.2::ys,Z2)|none=>P7) else P7
  |some (P7,Z1)=>aE r f ds Z1
  |none=>P7
theorem fZ:∀{a b:List D} {Z Z':Ro} {ys:List D},aE r f (a++b) Z=P6 (ys,Z')->∃x Z1 y,aE r f a Z=P6 (x,Z1)/\aE r f b Z1=P6 (y,Z')/\ys=x++y
 |[],b,Z,Z',ys,h=>⟨[],Z,ys,rfl,h,rfl⟩
 |d::a,b,Z,Z',ys,h=>by
  rw[NM] at h;unfold aE at h;split at h
  ·rename_i kd Z1 e1;split at h
   ·rename_i hf;split at h
    ·rename_i zs Z2 e2;cases h;obtain⟨x,Z3,y,h1,h2,rfl⟩:=fZ e2;exact⟨kd.2::x,Z3,y,by simp[aE,e1,h1,hf],h2,rfl⟩
    ·cases h
   ·cases h
  ·rename_i Z1 e1;obtain⟨x,Z3,y,h1,h2,rfl⟩:=fZ h;exact⟨x,Z3,y,by simp[aE,e1,h1],h2,rfl⟩
  ·cases h
theorem cz:∀{a:List D} {d:D} {x y:List D} {Z Z1 Z2:Ro},aE r f a Z=P6 (x,Z1)->aE r f [d] Z1=P6 (y,Z2)->aE r f (a++[d]) Z=P6 (x++y,Z2)
 |[],d,x,y,Z,Z1,Z2,h,h1=>by cases h;exact h1
 |e::a,d,x,y,Z,Z1,Z2,h,h1=>by
  unfold aE at h;rw[NM];unfold aE;split at h
  ·rename_i kd Z3 e1;split at h
   ·rename_i hf;split at h
    ·rename_i zs Z4 e2;cases h;rw[cz e2 h1];simp[hf]
    ·cases h
   ·cases h
  ·rename_i Z3 e1;exact cz h h1
  ·cases h
theorem oO{f:D->Ro->Option (Option KD×Ro)}{ds ys:List D}(h:aE r f ds Z=P6 (ys,Z')){i:Nat}{d:D}(e:ds[i]?=P6 d){x:List D}{Zi:Ro}(hx:aE r f (ds.take i) Z=P6 (x,Zi)) :
  (∃Z1,f d Zi=P6 (P7,Z1)/\aE r f (ds.take (i+1)) Z=P6 (x,Z1))\/∃kd Z1,f d Zi=P6 (P6 kd,Z1)/\bB r kd=P8/\aE r f (ds.take (i+1)) Z=P6 (x++[kd.2],Z1):=by
 have hs:ds=ds.take i++(d::ds.drop (i+1)):=by
  obtain⟨hl,rfl⟩:=MJ.mp e;rw[<- M6 hl,NE]
 have ht:ds.take (i+1)=ds.take i++[d]:=by rw[NK,e];rfl
 rw[hs] at h;obtain⟨x',Z1,y,h1,h2,_⟩:=fZ h;rw[hx] at h1;cases h1;unfold aE at h2;rw[ht];split at h2
 ·rename_i kd Z2 e1;split at h2
  ·rename_i hf;exact .inr ⟨kd,Z2,e1,hf,cz hx (by simp[aE,e1,hf])⟩
  ·cases h2
 ·rename_i Z2 e1;exact .inl ⟨Z2,e1,by simpa using cz hx (y:=[]) (by simp[aE,e1])⟩
 ·cases h2
theorem f6:∀{ds ys:List D} {Z Z':Ro},aE r f ds Z=P6 (ys,Z')->ys.length<=ds.length
 |[],ys,Z,Z',h=>by cases h;exact MH _
 |d::ds,ys,Z,Z',h=>by
  unfold aE at h;split at h
  ·rename_i kd Z1 e1;split at h
   ·split at h
    ·rename_i zs Z2 e2;cases h;have:=f6 e2;simp;lia
    ·cases h
   ·cases h
  ·rename_i Z1 e1;have:=f6 h;simp;lia
  ·cases h
noncomputable abbrev IR:=Option (List Nat×List D×Ro)
noncomputable def gY(X:Cx)(f:Ro->IR)(tg iter:P9):Prop:=∀Z bs ds Z1,f Z=P6 (bs,ds,Z1)->∀g Y H R,SE X.K g Z Y H->
 (∀J s g1 H1,Evo g H g1 H1 (λ_=>False)->SE X.K g1 Z1 Y H1->gM X.K J s ds->s.P X.K g1 H1->s.from g1 H1 bs->R J H1)->wI X tg iter Y H R
noncomputable def DX(a:Option (List Nat×List D))(Z:Ro):IR:=match a with|some (bs,ds)=>P6 (bs,ds,Z)|none=>P7
theorem SndI.m{f:Ro->Option (List Nat×List D)}(h:SndI X f tg iter):gY X (λZ=>DX (f Z) Z) tg iter:=by
 intro Z bs ds Z1 hf g Y H R se q;dsimp only[DX] at hf;split at hf
 ·rename_i bs' ds' e;cases hf;refine h Z bs ds e g Y H R se λJ s H1 s1 jt sp sf=>q J s g H1 (de s1 (λ_ z=>z.elim) λ_ z=>z.elim) (se.same s1) jt sp sf.from_H
 ·cases hf
noncomputable def gZ(cap:List (Option Nat)):List RA:=cap.map λo=>match o with|some i=>.ref i|none=>.val .sh .non
noncomputable def eZ(r:Ow)(it:IR)(f:D->Ro->Option (Option KD×Ro))(cap:List (Option Nat)):MR:=match it with
 |some (bs,ds,Z)=>if bs=[]/\ds.length<=100000 then(match aE r f ds (a9 Z cap) with|some (ys,Zc)=>if Zc.length=cap.length then P6 (.fr (.own [] r),.lst ys,df (gZ cap) Zc Z) else P7|none=>P7) else P7
 |none=>P7
theorem iJ:∀cap:List (Option Nat),cy (gZ cap)=cap.filterMap id
 |[]=>rfl
 |none::r=>by
  have:=iJ r;simp only[gZ,MU,cy] at this⊢;simpa using this
 |some i::r=>by
  have:=iJ r;simp only[gZ,MU,cy] at this⊢;simpa using this
theorem Aa(cap:List (Option Nat))(i:Nat):mN (gZ cap) i=iC cap i:=by
 unfold mN iC gZ;rw[N5];congr 1;funext o
 cases o with
 |none=>rfl
 |some k=>simp[Function.comp]
theorem SE.clr{H:Hp}:∀{ps:List (Nat×D)} {Z:Ro} {Y:L2.St},SE K g Z Y H->SE K g (clr ps Z) Y H
 |[],Z,Y,h=>h
 |p::ps,Z,Y,h=>by
  show SE K g (J.clr ps (Z.set p.1 P7)) Y H;refine SE.clr ⟨λi sl e=>?_,h.mu,by simp[h.len]⟩;by_cases hi:i=p.1
  ·subst hi
   have hlt:p.1<Z.length:=by
    have:=(MJ.mp e).1;simpa using this
   rw[MW hlt] at e;cases e
  ·rw[MV (Ne.symm hi)] at e;exact h.slot i sl e
theorem jC:∀{ps:List (Nat×D)} {vs:List (Nat×V)} {Y:L2.St} {j:Nat},RpP K H S ps vs->(∀p∈ps,p.1≠j)->(gQ vs Y)[j]?=Y[j]?
 |[],vs,Y,j,h,_=>by rw[(show vs=[] from h)];rfl
 |(i,d)::ps,vs,Y,j,h,hn=>by
  obtain⟨v,ws,rfl,_,h2⟩:=h;show(gQ ws (Y.set i (P6 v)))[j]?=_;rw[jC h2 λp hp=>hn p (MS _ hp),MV (hn (i,d) M1)]
section
variable {X:Cx} {U:eQ} {c:Cz}
theorem Evo.drop{F F2:Pr}(a:Evo g H g' H' F)(h:∀b,F2 b->F b):Evo g H g' H' F2:=⟨a.keep,a.out,a.new,λb z=>a.tmp b (h b z),a.dom⟩
theorem SE.drop{g:Gh}{F F2:Pr}(se:SE K (g.plus F) Z Y H)(h:∀b,F2 b->F b)(hg:∀b,F b->g b=P7):SE K (g.plus F2) Z Y H:=by
 have sub:∀b,Sg (g.plus F2) b->Sg (g.plus F) b:=λb z=>(am b).mpr (((am b).mp z).imp id (h b));refine⟨λi sl e=>?_,λb z=>se.mu b (sub b z),se.len⟩;obtain⟨v,F0,e1,e2,e3⟩:=se.slot i sl e;refine⟨v,F0,e1,λb z=>?_,e3.go (λ_ _ _ e=>e) λb o _ n z=>n (sub b z)⟩;have q:=bA (e2 b z);exact bX q λz2=>by rw[hg b (h b z2)] at q;cases q
theorem Evo.upd{H H':Hp}(a:Evo g H g' H' F)(hp:H p=P7):Evo g H g' (upd H' p o) F:=by
 refine⟨λb o' n e=>?_,a.out,a.new,a.tmp,λb o' e=>?_⟩
 ·rw[ad (λz=>by rw[z,hp] at e;cases e)];exact a.keep b o' n e
 ·obtain⟨o1,e1⟩:=a.dom b o' e;exact⟨o1,by rw[ad (λz=>by rw[z,hp] at e;cases e)];exact e1⟩
theorem kr(a:Evo g H g1 H1 (λ_=>False))(b:Evo g1 H1 g2 H2 F2):Evo g H g2 H2 F2:=by
 have t:=a.trans (F1:=λ_=>False) (g2:=g2) (H2:=H2) (F2:=F2) (by rw[aR λ_ z=>z];exact b);have e1:g2.minus (λ_=>False)=g2:=by funext c;exact bw λz=>z
 rw[e1] at t;exact t.drop λc z=>.inr z
noncomputable def kt(X:Cx)(f:Ro->Option (Bool×Ro))(ifs:List P9):Prop:=∀Z b Z',f Z=P6 (b,Z')->∀g Y H Q,SE X.K g Z Y H->(∀g' H',Evo g H g' H' (λ_=>False)->SE X.K g' Z' Y H'->Q b H')->DF X ifs Y H Q
theorem xg:kt X (λZ=>P6 (P8,Z)) []:=λZ b Z' h g Y H Q se q=>by cases h;exact mI rY (q g H (.refl g H) se)
theorem DY{e:P9}(h:fL X f e):kt X f [e]:=λZ b Z' hb g Y H Q se q=>mI (rZ gG) (h Z b Z' hb g Y H Q se q)
theorem sS{K:Mz}{g' gi gt:Gh}{H1 H2 H3:Hp}{D:Qc}{Fi:Pr}{us:List V}{yi:List J.D}{r:Ow}(ev2:Evo g' H1 gi H2 (λb=>b=D\/Fi b))(nFD:¬Fi D)(gD:H2 D=P6 (.lst us))(tr:TrL K H2 (Sx gi λb=>b=D\/Fi b) yi [] r us Fi)(evt:Evo (gi.plus λb=>b=D\/Fi b) H2 gt H3 (λ_=>False)) :
  ∃gi',Evo g' H1 gi' H3 (λb=>b=D\/Fi b)/\(gi'.plus λb=>b=D\/Fi b)=gt/\H3 D=P6 (.lst us)/\TrL K H3 (Sx gi' λb=>b=D\/Fi b) yi [] r us Fi:=by
 have gDo:(gi.plus λb=>b=D\/Fi b) D=P6 P7:=aO (.inl rfl);have tot:=(ev2.trans evt).drop (F2:=λb=>b=D\/Fi b) λb z=>.inl z;refine⟨gt.minus (λb=>b=D\/Fi b),tot,?_,evt.keep D _ (λi q1=>by rw[gDo] at q1;cases q1) gD,?_⟩
 ·have e:=gW evt;rw[aR λ_ z=>z] at e;have e2:(λc=>(c=D\/Fi c)\/False)=λb=>b=D\/Fi b:=by funext b;simp
  rw[e2] at e;exact e
 ·refine tr.go (λb o hb e=>?_) λb o e n z=>?_
  ·refine evt.keep b o (λi q1=>?_) e;rcases hb with hb|hb
   ·exact hb (.inl (by rw[bA q1];simp))
   ·rw[aO (.inr hb)] at q1;cases q1
  ·have nb:¬(b=D\/Fi b):=λz=>n (.inr z)
   have gn:(gi.plus λb=>b=D\/Fi b) b=P7:=by
    rw[bM nb]
    cases q1:gi b with
    |none=>rfl
    |some x=>exact absurd (.inl (by rw[q1];simp)) n
   obtain⟨f1,f2⟩:=evt.froz e gn;rcases z with z|z
   ·rw[bw nb] at z;exact z f1
   ·exact nb z
theorem sT(O:ao X U c){r:Ow}{fi:Ro->IR}{ft:Ro->Option (Bool×Ro)}{fe:Ro->MR}{elt tg iter:P9}{ifs:List P9}{scope:Qo}{t:IT}{n:Nat}(hck:aW c scope=P8)(hi:gY X fi tg iter)
  (htg:mH ⟨eL scope c.sc,ac scope,eR scope⟩ n tg=P6 t)
  (hft:∀C s H ex,kt (aj X (ac scope) scope C s H ex) ft ifs) (hfe:∀C s H ex,bd (aj X (ac scope) scope C s H ex) fe elt)
  {Z:Ro} {kd:Kd} {d:D} {Z':Ro} (h:eZ r (fi Z) (fy (aq c scope) t ft fe) (aq c scope)=P6 (kd,d,Z')) {g:Gh} {Y:L2.St} {H:Hp} {Q:VK} (se:SE X.K g Z Y H) (q:∀v g' H' F,Evo g H g' H' F->SE X.K (g'.plus F) Z' Y H'->VR1 X.K H' g' F kd d v F->Q v H') :
  ir (wI X tg iter) (λv Y H Q=>∀C s H0 ex,wG (aj X (ac scope) scope C s H0 ex) tg v Y H Q) (λY H Q=>∀C s H0 ex,DF (aj X (ac scope) scope C s H0 ex) ifs Y H Q) (λY H Q=>∀C s H0 ex,wE (aj X (ac scope) scope C s H0 ex) elt Y H Q) (aq c scope) Y H Q:=by
 have hcap:kg (aq c scope)=P8:=by
  simp only[aW,MA] at hck;exact hck.1.2
 unfold eZ at h;split at h
 ·rename_i bs ds Z0 hit;split at h
  ·rename_i hlen;obtain⟨rfl,hlen⟩:=hlen;split at h
   ·rename_i ys Ze hm;split at h
    ·rename_i hel;cases h;have CO:=cr O hck;refine hi Z [] ds Z0 hit g Y H _ se λjj src g1 H1 ev1 se0 jt sp sf D hD=>?_;replace q:∀v g' H' F,Evo g1 H1 g' H' F->SE X.K (g'.plus F) (df (gZ (aq c scope)) Ze Z0) Y H'->VR1 X.K H' g' F (.fr (.own [] r)) (.lst ys) v F->Q v H':=λv g' H' F e s r=>q v g' H' F (kr ev1 e) s r;clear se ev1;generalize g1=g at *;generalize Z0=Z at *;have se1:SE X.K (g.re (iC (aq c scope))) (a9 Z (aq c scope)) (cu Y (aq c scope)) H1:=se0.cap hcap;generalize hg':g.re (iC (aq c scope))=g' at se1;have gS:∀b,Sg g' b↔Sg g b:=λb=>by rw[<- hg'];exact jm b
     generalize hZ:a9 Z (aq c scope)=Zc at se1 hm
     refine⟨λi m Y' H'=>m=ds.length-i/\i<=ds.length/\∃(gi:Gh) (Fi:Pr) (us:List V) (yi:List J.D) (Zi:Ro),aE r (fy (aq c scope) t ft fe) (ds.take i) Zc=P6 (yi,Zi)/\Evo g' H1 gi H' (λb=>b=D\/Fi b)/\¬Fi D/\SE X.K (gi.plus λb=>b=D\/Fi b) Zi Y' H'/\
       (∀(j i:Nat),(aq c scope)[j]?=P6 (P6 i)->Y'[j]?=(cu Y (aq c scope))[j]?)/\H' D=P6 (.lst us)/\TrL X.K H' (Sx gi λb=>b=D\/Fi b) yi [] r us Fi,
      ⟨ds.length,by simp,M4 _,g',λ_=>False,[],[],Zc,by simp[aE],?_,λz=>z,?_,λj i _=>rfl,ai,by unfold TrL;exact⟨rfl,λ_ z=>z⟩⟩,?_⟩
     ·have gD:g' D=P7:=ee se1.mu hD;refine⟨λb o n e=>ak hD b o e,λ_=>Iff.rfl,λb i e=>.inl ⟨i,e⟩,λb z=>?_,λb o e=>⟨o,ak hD b o e⟩⟩;rcases z with z|z
      ·subst z;exact⟨gD,.inr hD⟩
      ·exact z.elim
     ·exact se1.plus (ak hD) (λb z=>z.elim (λz=>z▸hD) λz=>z.elim) λb z=>z.elim (λz=>⟨.lst [],z▸ai,λxs h=>by cases h⟩) λz=>z.elim
     rintro i m Y' H' ⟨rfl,hi',gi,Fi,us,yi,Zi,hyi,evi,nFD,se',hY',gD,tr⟩
     have hFg:∀b,(b=D\/Fi b)->gi b=P7:=λb z=>(evi.tmp b z).1
     have sp':src.P X.K (gi.plus λb=>b=D\/Fi b) H':=by
      have fz:∀b o,H1 b=P6 o->¬Sg g b->H' b=P6 o/\¬Sg (gi.plus λb=>b=D\/Fi b) b:=λb o e n=>by
       have n':g' b=P7:=by
        cases q1:g' b with
        |none=>rfl
        |some x=>exact absurd ((gS b).mp (by rw[Sg,q1];simp)) n
       obtain⟨f1,f2⟩:=evi.froz e n';refine⟨evi.keep b o (λi q1=>by rw[n'] at q1;cases q1) e,λz=>?_⟩;rcases(am b).mp z with z|z
       ·exact z f1
       ·exact f2 z
      refine Src.mono (g:=g) (H:=H1) (λb o e n=>(fz b o e n).2) (λb o hb e=>?_) (λa e=>sf.from_t e) sp;rcases hb with hb|hb
      ·exact(fz b o e hb).1
      ·rcases sf.from_l hb with sf|⟨i,hm',_⟩
       ·exact(fz b o e (by rw[Sg,sf];simp)).1
       ·cases hm'
     obtain⟨j1,j2⟩:=jt i _ H' sp' se'.mu;by_cases hlt:i<ds.length
     ·have hd:ds[i]?=P6 ds[i]:=MK hlt;obtain⟨go,yl⟩:=j2 _ hd;refine .inr ⟨go,λx H2 hy C s0 H0 ex=>?_⟩;obtain⟨s2,rx⟩:=yl x H2 hy;have st:=oO hm hd hyi
      have stuck:∃o,fy (aq c scope) t ft fe ds[i] Zi=P6 o:=by
       rcases st with⟨Z1,e,_⟩|⟨kd,Z1,e,_⟩
       ·exact⟨_,e⟩
       ·exact⟨_,e⟩
      obtain⟨o0,ho0⟩:=stuck;have he:=ho0;unfold fy at he;split at he
      ·rename_i ps hps;split at he
       ·rename_i hno;obtain⟨hno,hnc⟩:=hno
        have hcj:∀(j i:Nat),(aq c scope)[j]?=P6 (P6 i)->∀p∈ps,p.1≠j:=λj i e p hp z=>by
         have:=NW.mp hnc p hp;rw[z,e] at this;cases this
        refine sd (oI (CO C s0 H0 ex) n htg) (gR hps rx λvs hvs C1 s01 H01 ex1=>?_);have t1:=SE.setAll hvs (se'.same s2);have ev2:Evo g' H1 gi H2 (λb=>b=D\/Fi b):=⟨λb o n e=>s2 _ _ (evi.keep b o n e),evi.out,evi.new,evi.tmp,λb o e=>let ⟨o',q1⟩:=evi.dom b o e;⟨o',s2 _ _ q1⟩⟩;have tr2:TrL X.K H2 (Sx gi λb=>b=D\/Fi b) yi [] r us Fi:=tr.go (λb o _ e=>s2 _ _ e) λ_ _ _ n=>n;split at he
        ·rename_i Zt hT;refine hft C1 s01 H01 ex1 _ P8 Zt hT _ _ _ _ t1 λgt H3 evt set=>vY λC2 s02 H02 ex2=>?_;obtain⟨gi2,ev3,hgp,gD3,tr3⟩:=sS ev2 nFD (s2 _ _ gD) tr2 evt;rw[<- hgp] at set
         have hul0:us.length<=i:=by
          rw[tr.len];exact M0 (f6 hyi) (by rw[M8];lia)
         split at he
         ·rename_i ky y Z1 hke;cases he
          have st2:bB r (cP ky y,y)=P8/\aE r (fy (aq c scope) t ft fe) (ds.take (i+1)) Zc=P6 (yi++[y],clr ps Z1):=by
           rcases st with⟨Z2,e,_⟩|⟨kd,Z2,e,e2,e3⟩
           ·rw[ho0] at e;cases e
           ·rw[ho0] at e;cases e;exact⟨e2,e3⟩
          refine hfe C2 s02 H02 ex2 _ ky y Z1 hke _ _ H3 _ set λvy g2 H4 Fy ev4 se4 r4=>?_;have r4':=VR1.im (kd:=ky) se4.mu r4;have gDo:(gi2.plus λb=>b=D\/Fi b) D=P6 P7:=aO (.inl rfl);have gD4:H4 D=P6 (.lst us):=ev4.keep D _ (λi q1=>by rw[gDo] at q1;cases q1) gD3
          have nFyD:∀b,(b=D\/Fi b)->¬Fy b:=λb z z2=>by
           have:=(ev4.out b).mp (aO z);rw[(ev4.tmp b z2).1] at this;cases this
          have tot:=ev3.trans ev4;have mm:MuOk H4 (Sx g2 Fy):=λb z=>se4.mu b ((am b).mpr z);obtain⟨F2,a1,a2⟩:=VR1.fit (p:=(cP ky y,y)) st2.1 mm (λb z=>(ev4.tmp b z).1) (λb z=>z) r4';have hul:=hul0;have kD:∀b o,b≠D->H4 b=P6 o->upd H4 D (.lst (us++[vy])) b=P6 o:=λb o n e=>by rw[ad n];exact e
          have mD:∀b,(b=D\/Fi b)->(g2.minus λb=>b=D\/Fi b) b=P7:=λb z=>gU z;have hgn:∀b,((b=D\/Fi b)\/Fy b)->(g2.minus λb=>b=D\/Fi b) b=P7:=λb z=>(tot.tmp b z).1;have sub:∀b,(b=D\/(Fi b\/F2 b))->((b=D\/Fi b)\/Fy b):=λb z=>z.elim (λz=>.inl (.inl z)) λz=>z.elim (λz=>.inl (.inr z)) λz=>.inr (a1 b z);refine⟨us,gD4,M9 hul (MG hlt (aF hlen)),ds.length-(i+1),by lia,rfl,hlt,g2.minus (λb=>b=D\/Fi b),λb=>Fi b\/F2 b,us++[vy],yi++[y],clr ps Z1,st2.2,(tot.drop sub).upd hD,λz=>z.elim nFD λz=>nFyD D (.inl rfl) (a1 D z),?_,λj i e=>(jC hvs (hcj j i e)).trans (hY' j i e),ai,?_⟩
          ·refine SE.upd (SE.clr (SE.drop (by rw[gW ev4];exact se4) sub hgn)) (aO (.inl rfl)) (λxs h=>by cases h)
          ·refine TrL.snoc (tr3.go (λb o hb e=>?_) λb o e n z=>?_) ((a2 (Sx (g2.minus λb=>b=D\/Fi b) λb=>b=D\/(Fi b\/F2 b)) λb z=>?_).go (λb o hb e=>kD b o (λz=>?_) e) λb o e n z=>n z) λb z1 z2=>nFyD b (.inr z1) (a1 b z2)
           ·have nb:b≠D:=λz=>by
             subst z;exact hb.elim (λz=>z (.inr (.inl rfl))) nFD
            refine kD b o nb (ev4.keep b o (λi q1=>?_) e);rcases hb with hb|hb
            ·exact hb (.inl (by rw[bA q1];simp))
            ·rw[aO (.inr hb)] at q1;cases q1
           ·have nb:¬(b=D\/Fi b):=λz=>n (.inr z)
            have gn:(gi2.plus λb=>b=D\/Fi b) b=P7:=by
             rw[bM nb]
             cases q1:gi2 b with
             |none=>rfl
             |some x=>exact absurd (.inl (by rw[q1];simp)) n
            obtain⟨f1,f2⟩:=ev4.froz e gn;rcases z with z|z
            ·rw[bw nb] at z;exact z f1
            ·rcases sub b z with z|z
             ·exact nb z
             ·exact f2 z
           ·rcases z with z|z
            ·by_cases hb:b=D\/Fi b
             ·rw[gU hb] at z;exact absurd rfl z
             ·rw[bw hb] at z;exact .inr (.inl z)
            ·rcases z with z|z|z
             ·right;left;rw[(ev4.out b).mp (aO (.inl z))];simp
             ·right;left;rw[(ev4.out b).mp (aO (.inr z))];simp
             ·exact .inr (.inr (.inl z))
           ·subst z;exact hb.elim (λz=>z (.inr (.inl rfl))) λz=>nFyD b (.inl rfl) (a1 b z)
         ·cases he
        ·rename_i Zt hT;cases he
         have st2:aE r (fy (aq c scope) t ft fe) (ds.take (i+1)) Zc=P6 (yi,clr ps Zt):=by
          rcases st with⟨Z1,e,e2⟩|⟨kd,Z1,e,_⟩
          ·rw[ho0] at e;cases e;exact e2
          ·rw[ho0] at e;cases e
         refine hft C1 s01 H01 ex1 _ Qb Zt hT _ _ _ _ t1 λgt H3 evt set=>vX ?_;obtain⟨gi2,ev3,hgp,gD3,tr3⟩:=sS ev2 nFD (s2 _ _ gD) tr2 evt;rw[<- hgp] at set;exact⟨ds.length-(i+1),by lia,rfl,hlt,gi2,Fi,us,yi,clr ps Zt,st2,ev3,nFD,SE.clr set,λj i e=>(jC hvs (hcj j i e)).trans (hY' j i e),gD3,tr3⟩
        ·cases he
       ·cases he
      ·cases he
     ·have e:i=ds.length:=by lia
      subst e;rw[Nk,hm] at hyi;cases hyi;refine .inl ⟨j1 (MH _),?_⟩;have hrn:(cy (gZ (aq c scope))).Nodup:=by rw[iJ];simpa[kg] using hcap
      have hre:g.re (mN (gZ (aq c scope)))=g':=by
       rw[<- hg'];congr 1;funext i;exact Aa _ _
      have rv:VR1 X.K H' gi (λb=>b=D\/Fi b) (.fr (.own [] r)) (.lst ys) (.ref D) (λb=>b=D\/Fi b):=by
       show Tr _ _ _ _ _ _ _;unfold Tr
       exact⟨D,_,us,Fi,rfl,gD,rfl,λ_=>nFD,(λh=>nomatch h),λb=>⟨λz=>z.imp (λz=>⟨rfl,z⟩) id,λz=>z.imp (λz=>z.2) id⟩,tr⟩
      obtain⟨c1,c2,c3⟩:=lK (K:=X.K) (g:=g) (H:=H1) (g1:=g) (H1:=H1) (F:=λ_=>False) (Z:=Z) (Y:=Y) (ras:=gZ (aq c scope)) (Zc:=Ze) (Yc:=Y') hrn (by rw[hel];simp[gZ]) rfl (.refl g H1) (by rw[aR λ_ z=>z];exact se0)
       (λj i sl w ej eo ew=>by
        unfold gZ at ej;rw[MF] at ej
        cases q1:(aq c scope)[j]? with
        |none=>rw[q1] at ej;cases ej
        |some o=>
         rw[q1] at ej
         cases o with
         |none=>cases ej
         |some i'=>
          cases ej;rw[hY' j i q1] at ew;unfold cu at ew;rw[MF,q1] at ew;have ew':(Y[i]?).join=P6 w:=by simpa using ew
          cases q2:Y[i]? with
          |none=>rw[q2] at ew';cases ew'
          |some w'=>rw[q2] at ew';have:w'=P6 w:=ew';rw[this]) (by rw[hre];exact evi) se' rv
      exact q _ _ H' _ c1 c2 c3
    ·cases h
   ·cases h
  ·cases h
 ·cases h
theorem sU(O:ao X U c){r:Ow}{fi:Ro->IR}{ft:Ro->Option (Bool×Ro)}{fe:Ro->MR}{elt tg iter:P9}{ifs:List P9}{scope:Qo}{pos:Pos}{t:IT}{n:Nat}(hck:aW c scope=P8)(hns:c9 iter=P8)(hi:gY X fi tg iter)
  (htg:mH ⟨eL scope c.sc,ac scope,eR scope⟩ n tg=P6 t)
  (hft:∀C s H ex,kt (aj X (ac scope) scope C s H ex) ft ifs) (hfe:∀C s H ex,bd (aj X (ac scope) scope C s H ex) fe elt) :
  bd X (λZ=>eZ r (fi Z) (fy (aq c scope) t ft fe) (aq c scope)) (.ListComp elt [⟨tg,iter,ifs,0⟩] scope pos):=by
 intro Z kd d Z' h g Y H Q se q
 exact au (oe (N':=ac scope) (cap:=aq c scope) O.calm (c8 O hck) uJ
  (λC s H0 ex pins s' Y' H' v u Q' I r hh=>uK pins s' Y' H' v u Q' I r (hh C s H0 ex)) (λC s H0 ex pins s' Y' H' Q' I hh=>hh C s H0 ex pins s' I) (λC s H0 ex pins s' Y' H' Q' I hh=>hh C s H0 ex pins s' I) (cW hns)) (sT O hck hi htg hft hfe h se q)
end
end J
namespace J
open PySem PySem.Spec L2
noncomputable def w2(X:Cx)(a b:P9)(Y:L2.St)(H:Hp)(R:List V->Hp->Prop):Prop:=wE X a Y H λx H1=>wE X b Y H1 λy H2=>R [x,y] H2
noncomputable def lL(X:Cx)(f:Ro->Option (List KD×Ro))(a b:P9):Prop:=∀Z kds Z',f Z=P6 (kds,Z')->∀g Y H Q,SE X.K g Z Y H->
 (∀vs g' H' F,Evo g H g' H' F->SE X.K (g'.plus F) Z' Y H'->VRL X.K H' g' F kds vs F->Q vs H')->w2 X a b Y H Q
noncomputable def Strict2(X:Cx)(f:List KD->Option KD)(a b node:P9):Prop:=∀kds kd d,f kds=P6 (kd,d)->∀Y H Q,w2 X a b Y H (LG X kds kd d Q)->wE X node Y H Q
section
variable {X:Cx} {U:eQ} {c:Cz}
theorem Strict2.m{f:List KD->Option KD}{fa:Ro->Option (List KD×Ro)}(h:Strict2 X f a b node)(ha:lL X fa a b):bd X (λZ=>(fa Z).bind λp=>(f p.1).map λq=>(q.1,q.2,p.2)) node:=by
 intro Z kd d Z' hd g Y H Q se q;dsimp only at hd
 cases e:fa Z with
 |none=>rw[e] at hd;cases hd
 |some p=>
  obtain⟨kds,Z1⟩:=p;rw[e] at hd;dsimp only[Nm] at hd
  cases e2:f kds with
  |none=>rw[e2] at hd;cases hd
  |some r=>
   rw[e2] at hd;cases hd;refine h kds r.1 r.2 e2 Y H Q (ha Z kds _ e g Y H _ se λvs g1 H1 F ev se1 r1=>⟨g1,k8 H1 F,qI se1 λb z=>(ev.tmp b z).1,ko,r1.off,λv H2 s2 r2=>?_⟩);obtain⟨F2,b1,b2⟩:=r2;obtain⟨c1,c2⟩:=qJ ev se1 s2 b1 b2.dom;exact q v g1 H2 F2 c1 c2 b2
theorem VR.one{v:V}(h:VR K g H0 H kd d v):VRs K g H0 H [(kd,d)] [v]:=by
 obtain⟨F,h1,h2⟩:=h;exact⟨F,h1,v,[],F,λ_=>False,rfl,λb=>⟨.inl,λz=>z.elim id λz=>z.elim⟩,λ_ _ z=>z,h2,rfl,λ_ z=>z⟩
theorem DZ{fa:Ro->MR}{fb:Ro->Option KD}(ha:bd X fa a)(hb:SndE X fb b):lL X (λZ=>eX (fa Z) λZ=>eT (fb Z) (P6 [])) a b:=by
 intro Z kds Z' h g Y H Q se q;dsimp only[eX] at h;split at h
 ·rename_i kd d Z1 e1;split at h
  ·rename_i kds' e2;cases h;unfold eT at e2;split at e2
   ·rename_i x xs ex exs;cases e2;cases exs;obtain⟨kb,db⟩:=x;refine ha Z kd d Z' e1 g Y H _ se λv g1 H1 F1 ev1 se1 r1=>hb Z' kb db ex (g1.plus F1) Y H1 _ se1 λw H2 s2 r2=>?_;obtain⟨F',c1,c2,c3⟩:=sO (kds:=[(kb,db)]) (vs:=[w]) ev1 se1 r1 s2 r2.one;exact q [v,w] g1 H2 F' c1 c2 c3
   ·cases e2
  ·cases h
 ·cases h
theorem Ab{fa fb:Ro->MR}(ha:bd X fa a)(hb:bd X fb b):lL X (λZ=>eW (fa Z) λZ=>eX (fb Z) λ_=>P6 []) a b:=by
 intro Z kds Z' h g Y H Q se q;dsimp only[eW] at h;split at h
 ·rename_i kd d Z1 e1;split at h
  ·cases h
  ·rename_i hbo;split at h
   ·rename_i kds' Z2 e2;cases h;unfold eX at e2;split at e2
    ·rename_i kb db Z3 e3;cases e2;refine ha Z kd d Z1 e1 g Y H _ se λv g1 H1 F1 ev1 se1 r1=>hb Z1 kb db Z' e3 (g1.plus F1) Y H1 _ se1 λw g2 H2 F2 ev2 se2 r2=>?_;have r2':VRL X.K H2 g2 F2 [(kb,db)] [w] F2:=⟨w,[],F2,λ_=>False,rfl,λb=>⟨.inl,λz=>z.elim id λz=>z.elim⟩,λ_ _ z=>z,r2,rfl,λ_ z=>z⟩;obtain⟨c1,c2,c3⟩:=oM (by simpa using hbo) ev1 (r1.im se1.mu) ev2 se2 r2';exact q [v,w] _ H2 _ c1 c2 c3
    ·cases e2
   ·cases h
 ·cases h
noncomputable def f2(f:KD->KD->Option KD):List KD->Option KD
 |[x,y]=>f x y
 |_=>P7
theorem n_bin:Strict2 X (f2 (eJ op)) a b (.BinOp a op b pos):=by
 intro kds kd d h Y H Q hA
 match kds,h with
 |[x,y],h=>
  refine au (Bl (wq op) av av) (dB hA λvx H1 h1=>dB h1 λvy H2 ⟨g,H0,m,s,r,q⟩=>?_);obtain⟨v,v',e,r1,r2⟩:=r.two;cases e;exact⟨g,H0,x,y,kd,d,m,s,r1,r2,h,λv H' s' r'=>q v H' s' (r'.older s)⟩
theorem Ht(O:ao X U c){op:Qu}{a b:P9}{pos:Pos}(hm:Qs op b=Qb):Strict2 X (f2 λx y=>bV (aT op x.2 y.2)) a b (.Compare a [op] [b] pos):=by
 intro kds kd d h Y H Q hA
 match kds,h with
 |[x,y],h=>
  have h:bV (aT op x.2 y.2)=P6 (kd,d):=h
  cases hc:aT op x.2 y.2 with
  |none=>rw[hc] at h;cases h
  |some r0=>
   rw[hc] at h;cases h;refine au (rQ (mw O.tab.units op) av av hm) (dB hA λvx H1 h1=>dB h1 λvy H2 ⟨g,H0,m,s,r,q⟩=>?_);obtain⟨v,v',e,r1,r2⟩:=r.two;cases e;exact⟨x.2,y.2,r0,r1.rd,r2.rd,hc,q _ H2 (Same.refl H2) Bq⟩
theorem D0(O:ao X U c){op:Qu}{a b:P9}{pos:Pos}{fa:Ro->Option (List KD×Ro)}(hm:Qs op b=Qb)(ha:lL X fa a b):fL X (λZ=>(fa Z).bind λp=>(match p.1 with|[x,y]=>(aT op x.2 y.2).map λb=>(b,p.2)|_=>P7)) (.Compare a [op] [b] pos):=by
 intro Z bb Z' h g Y H Q se q;dsimp only at h
 cases e:fa Z with
 |none=>rw[e] at h;cases h
 |some p=>
  obtain⟨kds,Z1⟩:=p;rw[e] at h;dsimp only[Nm] at h;split at h
  ·rename_i x y;obtain⟨r0,hc,e2⟩:=aL h;cases e2;have hh:w2 X a b Y H (λvs H2=>∀v w,vs=[v,w]->Df X.K op v w H2 λz H3=>∃k,z=.bl k/\Q k H3):=ha Z _ _ e g Y H _ se (λvs g1 H1 F ev se1 r=>?_)
   ·refine r9 (rR (mw O.tab.units op) av av hm) ?_;show wE X a Y H λvx H1=>wE X b Y H1 λvy H2=>Df X.K op vx vy H2 λz H3=>∃k,z=.bl k/\Q k H3;exact dB hh λvx H1 h1=>dB h1 λvy H2 h2=>h2 vx vy rfl
   intro v w evs;subst evs;obtain⟨v',w',e3,r1,r2⟩:=r.off.two;cases e3;have cl:=qJ (F2:=λ_=>False) ev se1 (Same.refl H1) (λb z=>z.elim) (λb z=>z.elim);exact⟨x.2,y.2,bb,r1.rd,r2.rd,hc,bb,rfl,q g1 H1 cl.1 (by have:=cl.2;rw[aR λ_ z=>z] at this;exact this)⟩
  ·cases h
noncomputable def IZ:KD->KD->Option KD:=λx y=>sr (P6 x) (P6 y)
theorem Ke(O:ao X U c){a b:P9}{pos:Pos}(hp:cK b=P8):Strict2 X (f2 IZ) a b (.Subscript a b pos):=by
 intro kds kd d h Y H Q hA
 match kds,h with
 |[x,y],h0=>
  have h:sr (P6 x) (P6 y)=P6 (kd,d):=h0;clear h0;obtain⟨kx,dx⟩:=x;obtain⟨ky,dy⟩:=y
  have mono:∀{R:V->V->Hp->Prop},(∀vx vy H2 g H0,MuOk H0 (Sg g)->Same H0 H2->VR X.K g H0 H2 kx dx vx->VR X.K g H0 H2 ky dy vy->(∀v H',Same H2 H'->VR X.K g H0 H' kd d v->Q v H')->R vx vy H2)->wE X a Y H λvx H1=>wE X b Y H1 λvy H2=>R vx vy H2:=λk=>
   dB hA λvx H1 h1=>dB h1 λvy H2 ⟨g,H0,m,s,r,q⟩=>by
    obtain⟨v,v',e,r1,r2⟩:=r.two;cases e;exact k vx vy H2 g H0 m s r1 r2 q
  rcases ss h with⟨i,e,hh⟩|⟨p,e,hh⟩
  ·cases(show dy=_ from e);refine au (rU mf av av (bO hp)) (mono λvx vy H2 g H0 m s rx ry q=>?_);obtain rfl:=ry.rd.int;exact su hh rx λv r=>q v H2 (Same.refl H2) r
  ·cases(show dx=_ from e);exact au (mj (by have:=O.tab.units;lia) av av (bO hp)) (mono λvx vy H2 g H0 m s rx ry q=>ox hh rx ry λv r=>q v H2 (Same.refl H2) r)
theorem n_tup{n:Nat}:StrictOk X (λkds=>gJ k (P6 kds)) es (.Tuple es n pos):=by
 intro kds kd d h Y H Q hA;dsimp only[gJ] at h;split at h
 ·split at h
  ·rename_i hz;cases h;refine au (l7 cH) (bh hA λvs H1 ⟨g,H0,m,s1,r1,q⟩=>⟨by rw[r1.len];exact aF hz.2,λp hp=>?_⟩);exact q _ _ (ak hp) (r1.tupO hz.1 m s1 hp)
  ·cases h
 ·split at h
  ·rename_i hz;cases h;refine au (l7 cH) (bh hA λvs H1 ⟨g,H0,m,s1,r1,q⟩=>⟨by rw[r1.len];exact aF hz.2,λp hp=>?_⟩);exact q _ _ (ak hp) ((GE (m.same s1) hp (r1.sh hz.1 m s1)).older s1)
  ·cases h
theorem Kf(O:ao X U c){x:Str}{B:Fn}{e:P9}{es:List P9}{p pos:Pos}(hB:U.fn x=P6 B)(hg:fJ c.sc x=P8)(n1:ah e=P8)(n2:es.all ah=P8):StrictOk X (qB B) (e::es) (.Call (.Name x p) (e::es) [] pos):=by
 intro kds kd d h Y H Q hA;refine au (Br (t:=wA X (e::es)) (λ_ _ _ _=>bh) (O.tab.fn x B hB) (ce O hg) cH (ag n1) (aU n2)) (bh hA λvs H1 ⟨g,H0,m,s1,r1,q⟩=>?_);exact mG X.K h m s1 r1 q
theorem Kg(O:ao X U c){x:Str}{B:Fm}{e:P9}{es:List P9}{p pos:Pos}{fa:Ro->Option (List RA×Ro)}(hB:U.fm x=P6 λK=>z7 K B)(hg:fJ c.sc x=P8)(n1:ah e=P8)(n2:es.all ah=P8)(ha:i9 X fa (e::es)) :
  bd X (λZ=>DW (P6 B) (fa Z)) (.Call (.Name x p) (e::es) [] pos):=by
 intro Z kd d Z' h g Y H Q se q;obtain⟨n,fa',fd,ps,F,hr,hm,hk,hb,hdb⟩:=O.tab.fm x _ hB;dsimp only at h
 cases hf:fa Z with
 |none=>rw[hf] at h;cases h
 |some pr=>
  obtain⟨ras,Z1⟩:=pr;rw[hf] at h;refine au (rS (E:=E0) F hr (ce O hg) hm hk hb .nil nZ cH hdb (ag n1) (aU n2)) (ha Z ras Z1 hf g Y H _ se λvs g1 H1 Fv ev se1 r1=>?_);rw[NQ];exact z9 h ev se1 r1 q
noncomputable def uS(i:Nat)(Z:Ro):MR:=match Z[i]? with
 |some (P6 ⟨Qb,k,d⟩)=>if qk k=P8 then P6 (.sh,d,Z) else P6 (.fr k,d,Z.set i P7)
 |_=>P7
noncomputable def uT(i:Nat)(Z:Ro):MR:=match Z[i]? with
 |some (P6 ⟨Qb,k,d⟩)=>P6 (.sh,d,Z.set i (P6 ⟨Qb,.fz,d⟩))
 |_=>P7
open Classical in
noncomputable def Gh.off(g:Gh)(i:Nat):Gh:=λb=>if g b=P6 (P6 i) then P7 else g b
theorem ja{g:Gh}{i:Nat}(h:Sg (g.off i) b):Sg g b/\g b≠P6 (P6 i):=by
 by_cases n:g b=P6 (P6 i)
 ·exact absurd (by unfold Gh.off;rw[if_pos n]) h
 ·refine⟨λz=>h ?_,n⟩;unfold Gh.off;rw[if_neg n];exact z
theorem xh{g:Gh}{i:Nat}(h:g b≠P6 (P6 i)):g.off i b=g b:=by unfold Gh.off;rw[if_neg h]
theorem xi{g:Gh}{i:Nat}(h:g b=P6 (P6 i)):g.off i b=P7:=by unfold Gh.off;rw[if_pos h]
theorem ku{g:Gh}{i:Nat}(h:g.off i b=P6 x):g b=P6 x/\x≠P6 i:=by
 unfold Gh.off at h;split at h
 ·cases h
 ·rename_i n;exact⟨h,λz=>n (by rw[h,z])⟩
theorem jD{g:Gh}{i:Nat}{F:Pr}(hF:∀b,F b->g b=P6 (P6 i)):Evo g H (g.off i) H F:=by
 refine⟨λ_ _ _ e=>e,λb=>⟨λe=>?_,λe=>(ku e).1⟩,λb j e=>.inl ⟨j,(ku e).1⟩,λb z=>⟨xi (hF b z),.inl ⟨i,hF b z⟩⟩,λ_ o e=>⟨o,e⟩⟩;rw[xh (by rw[e];simp)];exact e
theorem mP{g:Gh}{i:Nat}{F:Pr}{Z Z':Ro}{Y:L2.St}(se:SE K g Z Y H)(hF:∀b,F b->g b=P6 (P6 i))(hl:Z'.length=Z.length)(hs:∀(j:Nat) sl,Z'[j]?=P6 (P6 sl)->(j≠i/\Z[j]?=P6 (P6 sl))\/(∃v,Y[j]?=P6 (P6 v)/\sl.k=.fz/\Rp K H (Sg ((g.off i).plus F)) sl.d v)):SE K ((g.off i).plus F) Z' Y H:=by
 have sub:∀b,Sg ((g.off i).plus F) b->Sg g b:=λb z=>((am b).mp z).elim (λz=>(ja z).1) λz=>by rw[Sg,hF b z];simp
 refine⟨λj sl e=>?_,λb z=>se.mu b (sub b z),by rw[hl];exact se.len⟩;rcases hs j sl e with⟨hj,e1⟩|⟨v,e1,e2,e3⟩
 ·obtain⟨v,F0,q1,q2,q3⟩:=se.slot j sl e1;refine⟨v,F0,q1,λb z=>?_,q3.go (λ_ _ _ e=>e) λb o _ n z=>n (sub b z)⟩;have q4:=q2 b z;refine bX ?_ λz2=>by rw[hF b z2] at q4;cases q4;exact hj rfl
  rw[xh (by rw[q4];intro z;cases z;exact hj rfl)];exact q4
 ·obtain⟨lk,k,d⟩:=sl;have e2:k=.fz:=e2;subst e2;exact⟨v,λ_=>False,e1,λb z=>z.elim,.fz e3⟩
theorem g6(O:ao X U c){x:Str}{i:Nat}(hc:eS c x=P6 i)(pos:Pos){Y:L2.St}{H:Hp}{v:V}{Q:VK}(e:Y[i]?=P6 (P6 v))(q:Q v H):wE X (.Name x pos) Y H Q:=by
 unfold eS at hc;split at hc
 ·rename_i j hj;split at hc
  ·rename_i hv;cases hc;simp only[MA,mz,OR] at hv;exact au (pT (i:=i) (by rw[O.N];exact aK hj) (by rw[O.sc];exact my hv.1) hv.2.1 hv.2.2) ⟨v,e,q⟩
  ·cases hc
 ·cases hc
theorem By(O:ao X U c){x:Str}{i:Nat}(hc:eS c x=P6 i)(pos:Pos):bd X (uS i) (.Name x pos):=by
 intro Z kd d Z' h g Y H Q se q;unfold uS at h;split at h
 ·rename_i k d' e;obtain⟨v,F0,e1,e2,e3⟩:=se.slot i _ e;split at h
  ·rename_i hk;cases h;have hk':=jx hk;subst hk';refine g6 O hc pos e1 (q v g H (λ_=>False) (.refl g H) (by rw[aR λ_ z=>z];exact se) ⟨λ_ z=>z,?_⟩);exact e3.fz_inv.2.weak λb z=>z.elim id λz=>z.elim
  ·cases h;refine g6 O hc pos e1 (q v (g.off i) H F0 (jD e2) (mP se e2 (by simp) λj sl e4=>?_) ?_)
   ·by_cases hj:j=i
    ·subst hj
     have hlt:j<Z.length:=by
      have:=(MJ.mp e4).1;simpa using this
     rw[MW hlt] at e4;cases e4
    ·rw[MV (Ne.symm hj)] at e4;exact .inl ⟨hj,e4⟩
   ·show Tr _ _ _ _ _ _ _;exact e3.go (λ_ _ _ e=>e) λb o _ n z=>n (z.elim (λz=>(ja z).1) λz=>by rw[Sg,e2 b z];simp)
 ·cases h
theorem Hu(O:ao X U c){x:Str}{i:Nat}(hc:eS c x=P6 i)(pos:Pos):bd X (uT i) (.Name x pos):=by
 intro Z kd d Z' h g Y H Q se q;unfold uT at h;split at h
 ·rename_i k d' e;cases h;obtain⟨v,F0,e1,e2,e3⟩:=se.slot i _ e;have r:Rp X.K H (Sg ((g.off i).plus λ_=>False)) d v:=e3.rp λb z=>((am b).mp z).elim (λz=>⟨(ja z).1,λz2=>(ja z).2 (e2 b z2)⟩) λz=>z.elim;refine g6 O hc pos e1 (q v (g.off i) H (λ_=>False) (jD λ_ z=>z.elim) (mP se (λ_ z=>z.elim) (by simp) λj sl e4=>?_) ⟨λ_ z=>z,?_⟩)
  ·by_cases hj:j=i
   ·subst hj
    have hlt:j<Z.length:=by
     have:=(MJ.mp e4).1;simpa using this
    rw[MW hlt] at e4;cases e4;exact .inr ⟨v,e1,rfl,r⟩
   ·rw[MV (Ne.symm hj)] at e4;exact .inl ⟨hj,e4⟩
  ·exact r.weak λb z=>(am b).mpr z
 ·cases h
theorem uU{g g1:Gh}(ev:Evo g H g1 H1 F)(se:SE K (g1.plus F) Z1 Y H1):Evo g H g1 H1 (λ_=>False)/\SE K g1 Z1 Y H1:=by
 refine⟨ev.drop λ_ z=>z.elim,?_⟩;have:=se.drop (F2:=λ_=>False) (λ_ z=>z.elim) λb z=>(ev.tmp b z).1;rw[aR λ_ z=>z] at this;exact this
noncomputable def Bz(g:Option KD->Option (List Nat×List D))(a:MR):IR:=match a with
 |some (kd,d,Z1)=>DX (g (P6 (cP kd d,d))) Z1
 |none=>P7
theorem D2{g:Option KD->Option (List Nat×List D)}(h:Bz g a=P6 (bs,ds,Z1)):∃kd d,a=P6 (kd,d,Z1)/\g (P6 (cP kd d,d))=P6 (bs,ds):=by
 unfold Bz at h;split at h
 ·rename_i kd d Z2;unfold DX at h;split at h
  ·rename_i e;cases h;exact⟨kd,d,rfl,e⟩
  ·cases h
 ·cases h
theorem Hv(O:ao X U c){fa:Ro->MR}{tg e:P9}{p pos:Pos}(hg:fJ c.sc "range" = P8)(hn:ah e=P8)(ha:bd X fa e):gY X (λZ=>Bz (gO (P6 (.sh,.int 0))) (fa Z)) tg (.Call (.Name "range" p) [e] [] pos):=by
 intro Z bs ds Z1 h g Y H R se q;obtain⟨kd,d,ea,h⟩:=D2 h;unfold gO at h;split at h
 ·rename_i k1 i k2 j e1 e2;cases e1;cases e2;split at h
  ·rename_i hr;simp only[d8,MA,decide_eq_true_eq] at hr;cases h;refine gH (li (ce O hg) (O.tab.bl _ (by simp[ax])) (bg av dG (ag hn)) (ag hn)) (ha Z _ _ _ ea g Y H _ se λv g1 H1 F ev se1 vr=>?_);obtain rfl:=vr.rd.int;obtain⟨ev2,se2⟩:=uU ev se1;refine⟨j,rfl,hr.1.1.2,hr.1.2,q _ .non g1 H1 ev2 se2 ?_ trivial trivial⟩;unfold gN;rw[PD];exact Dz 0 _
  ·cases h
 ·cases h
end
end J
namespace J
open PySem PySem.Spec L2
section
variable {K:Mz} {H:Hp} {S:Pr}
theorem TrL.focus:∀{ds:List D} {es:List Ow} {r:Ow} {xs:List V} {F:Pr} {j:Nat} {d:D},TrL K H S ds es r xs F->ds[j]?=P6 d->∃(x:V) (Fj Fr:Pr),xs[j]?=P6 x/\(∀b,F b↔Fj b\/Fr b)/\(∀b,Fj b->¬Fr b)/\Tr K H S d (es.getD j r) x Fj/\
  ∀(H':Hp) (S':Pr) (d':D) (Fj':Pr),(∀b o,(¬S b\/Fr b)->H b=P6 o->H' b=P6 o)->(∀b o,H b=P6 o->¬S b->¬S' b)->Tr K H' S' d' (es.getD j r) x Fj'->(∀b,Fj' b->¬Fr b)->TrL K H' S' (ds.set j d') es r xs (λb=>Fj' b\/Fr b)
 |[],_,_,_,_,_,_,h,e=>by simp at e
 |d0::ds,es,r,xs,F,0,d,h,e=>by
  unfold TrL at h;obtain⟨y,ys,F1,F2,rfl,hF,dj,h1,h2⟩:=h;simp at e;subst e
  refine⟨y,F1,F2,rfl,hF,dj,by cases es<;>simpa using h1,λH' S' d' Fj' k1 k2 t dj'=>?_⟩
  show TrL K H' S' (d'::ds) es r (y::ys) _;unfold TrL
  exact⟨y,ys,Fj',F2,rfl,λb=>Iff.rfl,dj',by cases es<;>simpa using t,h2.go k1 k2⟩
 |d0::ds,es,r,xs,F,j+1,d,h,e=>by
  unfold TrL at h;obtain⟨y,ys,F1,F2,rfl,hF,dj,h1,h2⟩:=h
  obtain⟨x,Fj,Fr,e1,e2,e3,e4,e5⟩:=TrL.focus h2 (by simpa using e)
  have eg:es.tail.getD j r=es.getD (j+1) r:=by cases es<;>simp
  rw[eg] at e4;refine⟨x,Fj,λb=>F1 b\/Fr b,by simpa using e1,λb=>?_,λb z1 z2=>?_,e4,λH' S' d' Fj' k1 k2 t dj'=>?_⟩
  ·rw[hF b,e2 b];exact⟨λz=>z.elim (λz=>.inr (.inl z)) λz=>z.imp id .inr,λz=>z.elim (λz=>.inr (.inl z)) λz=>z.imp id .inr⟩
  ·rcases z2 with z2|z2
   ·exact dj b z2 ((e2 b).mpr (.inl z1))
   ·exact e3 b z1 z2
  ·show TrL K H' S' (d0::ds.set j d') es r (y::ys) _;unfold TrL;refine⟨y,ys,F1,λb=>Fj' b\/Fr b,rfl,λb=>⟨λz=>z.elim (λz=>.inr (.inl z)) λz=>z.imp id .inr,λz=>z.elim (λz=>.inr (.inl z)) λz=>z.imp id .inr⟩,λb z1 z2=>?_,h1.go (λb o hb e=>k1 b o (hb.imp id .inl) e) k2,e5 H' S' d' Fj' (λb o hb e=>k1 b o (hb.imp id .inr) e) k2 (by rw[eg];exact t) λb z1 z2=>dj' b z1 (.inr z2)⟩;rcases z2 with z2|z2
   ·exact dj' b z2 (.inl z1)
   ·exact dj b z1 ((e2 b).mpr (.inr z2))
noncomputable def FP(K:Mz)(H:Hp)(S:Pr)(k:Ow)(v:V)(F:Pr)(k1:Ow)(d1:D)(v1:V)(up:D->D):Prop:=∃(F1 Fr:Pr),(∀b,F b↔F1 b\/Fr b)/\(∀b,F1 b->¬Fr b)/\Tr K H S d1 k1 v1 F1/\
  ∀(H':Hp) (S':Pr) (d1':D) (F1':Pr),(∀b o,(¬S b\/Fr b)->H b=P6 o->H' b=P6 o)->(∀b o,H b=P6 o->¬S b->¬S' b)->Tr K H' S' d1' k1 v1 F1'->(∀b,F1' b->¬Fr b)->Tr K H' S' (up d1') k v (λb=>F1' b\/Fr b)
theorem FP.root(h:Tr K H S d k v F):FP K H S k v F k d v id:=by
 refine⟨F,λ_=>False,λb=>⟨.inl,λz=>z.elim id λz=>z.elim⟩,λ_ _ z=>z,h,λH' S' d1' F1' k1 k2 t dj=>?_⟩;have eF:(λb=>F1' b\/False)=F1':=by funext b;exact propext ⟨λz=>z.elim id λz=>z.elim,.inl⟩
 rw[eF];exact t
theorem FP.same(h:FP K H S k v F k1 d1 v1 up)(s:Same H H2):FP K H2 S k v F k1 d1 v1 up:=by
 obtain⟨F1,Fr,h1,h2,h3,h4⟩:=h;exact⟨F1,Fr,h1,h2,h3.go (λb o _ e=>s b o e) λ_ _ _ n=>n,λH' S' d1' F1' k1 k2 t dj=>h4 H' S' d1' F1' (λb o hb e=>k1 b o hb (s b o e)) (λb o e n=>k2 b o (s b o e) n) t dj⟩
theorem FP.step{es:List Ow}{ds:List D}{up:D->D}{j:Nat}(h:FP K H S k v F (.own es r) (.nd hd ds) v1 up)(hj:ds[j]?=P6 d):∃a o xs x,v1=.ref a/\H a=P6 o/\du K o hd xs/\xs.length=ds.length/\xs[j]?=P6 x/\FP K H S k v F (es.getD j r) d x (λz=>up (.nd hd (ds.set j z))):=by
 obtain⟨F1,Fr,h1,h2,h3,h4⟩:=h;unfold Tr at h3;obtain⟨a,o,xs,F',rfl,q1,q2,n1,n2,hF,t⟩:=h3
 obtain⟨x,Fj,Fq,e1,e2,e3,e4,e5⟩:=t.focus hj
 refine⟨a,o,xs,x,rfl,q1,q2,t.len,e1,Fj,λb=>(hd.mu=P8/\b=a)\/Fq b\/Fr b,λb=>?_,λb z1 z2=>?_,e4,λH' S' d1' F1' k1 k2 t1 dj'=>?_⟩
 ·rw[h1 b,hF b,e2 b];exact⟨λz=>z.elim (λz=>z.elim (λz=>.inr (.inl z)) λz=>z.imp id λz=>.inr (.inl z)) λz=>.inr (.inr (.inr z)),λz=>z.elim (λz=>.inl (.inr (.inl z))) λz=>z.elim (λz=>.inl (.inl z)) λz=>z.elim (λz=>.inl (.inr (.inr z))) .inr⟩
 ·rcases z2 with⟨hm,rfl⟩|z2|z2
  ·exact n1 hm ((e2 b).mpr (.inl z1))
  ·exact e3 b z1 z2
  ·exact h2 b ((hF b).mpr (.inr ((e2 b).mpr (.inl z1)))) z2
 ·have t3:=e5 H' S' d1' F1' (λb o hb e=>k1 b o (hb.imp id λz=>.inr (.inl z)) e) k2 t1 λb z1 z2=>dj' b z1 (.inr (.inl z2))
  have ha:H' a=P6 o:=by
   cases hm:hd.mu with
   |true=>exact k1 a o (.inr (.inl ⟨hm,rfl⟩)) q1
   |false=>exact k1 a o (.inl (n2 hm)) q1
  have tn:Tr K H' S' (.nd hd (ds.set j d1')) (.own es r) (.ref a) (λb=>(hd.mu=P8/\b=a)\/(F1' b\/Fq b)):=by
   unfold Tr;exact⟨a,o,xs,λb=>F1' b\/Fq b,rfl,ha,q2,λhm z=>z.elim (λz=>dj' a z (.inl ⟨hm,rfl⟩)) λz=>n1 hm ((e2 a).mpr (.inr z)),λhm=>k2 a o q1 (n2 hm),λb=>Iff.rfl,t3⟩
  have t4:=h4 H' S' _ _ (λb o hb e=>k1 b o (hb.imp id λz=>.inr (.inr z)) e) k2 tn λb z1 z2=>by
   rcases z1 with⟨hm,rfl⟩|z1|z1
   ·exact h2 b ((hF b).mpr (.inl ⟨hm,rfl⟩)) z2
   ·exact dj' b z1 (.inr (.inr z2))
   ·exact h2 b ((hF b).mpr (.inr ((e2 b).mpr (.inr z1)))) z2
  have eF:(λb=>((hd.mu=P8/\b=a)\/(F1' b\/Fq b))\/Fr b)=λb=>F1' b\/((hd.mu=P8/\b=a)\/Fq b\/Fr b):=by
   funext b;exact propext ⟨λz=>z.elim (λz=>z.elim (λz=>.inr (.inl z)) λz=>z.imp id λz=>.inr (.inl z)) λz=>.inr (.inr (.inr z)),λz=>z.elim (λz=>.inl (.inr (.inl z))) λz=>z.elim (λz=>.inl (.inl z)) λz=>z.elim (λz=>.inl (.inr (.inr z))) .inr⟩
  rw[eF] at t4;exact t4
end
noncomputable def BA(hd:Hd)(n:Nat)(x:D):Option Nat:=match hd with
 |.lst=>(match x with|.int z=>jv n z|_=>P7)
 |.tup=>(match x with|.int z=>jv n z|_=>P7)
 |.dic t ks=>(match j0 x with|some k=>if iy t k=P8 then aI ks k else P7|none=>P7)
 |.obj _ _=>P7
noncomputable def xj(p:Option (Ow×D×(D->D)))(x:Option KD):Option (Ow×D×(D->D)):=match p,x with
 |some (.own es r,.nd hd ds,up),P6 (_,dx)=>(match BA hd ds.length dx with
  |some j=>(match ds[j]? with|some d=>P6 (es.getD j r,d,λz=>up (.nd hd (ds.set j z)))|none=>P7)
  |none=>P7)
 |_,_=>P7
noncomputable def xk(f:Str)(p:Option (Ow×D×(D->D))):Option (Ow×D×(D->D)):=match p with
 |some (.own es r,.nd (.obj c ns) ds,up)=>(match aN f ns with
  |some j=>(match ds[j]? with|some d=>P6 (es.getD j r,d,λz=>up (.nd (.obj c ns) (ds.set j z)))|none=>P7)
  |none=>P7)
 |_=>P7
noncomputable def oP(o:Option (Option Sl)):Option (Ow×D×(D->D)):=match o with
 |some (P6 ⟨Qb,k,d⟩)=>P6 (k,d,id)
 |_=>P7
noncomputable def mQ(X:Cx)(i:Nat)(f:Ro->Option (Ow×D×(D->D)))(e:P9):Prop:=∀Z k1 d1 up,f Z=P6 (k1,d1,up)->∀g Y H Q,SE X.K g Z Y H->
 (∀v1 H' v F k d,Same H H'->Z[i]?=P6 (P6 ⟨Qb,k,d⟩)->Y[i]?=P6 (P6 v)->(∀b,F b->g b=P6 (P6 i))->FP X.K H' (Sg g) k v F k1 d1 v1 up->Q v1 H')->wE X e Y H Q
section
variable {X:Cx} {U:eQ} {c:Cz}
theorem D3(O:ao X U c){x:Str}{i:Nat}(hc:eS c x=P6 i)(pos:Pos):mQ X i (λZ=>oP Z[i]?) (.Name x pos):=by
 intro Z k1 d1 up h g Y H Q se q;dsimp only[oP] at h;split at h
 ·rename_i k d e;cases h;obtain⟨v,F,e1,e2,e3⟩:=se.slot i _ e;exact g6 O hc pos e1 (q v H v F k1 d1 (Same.refl H) e e1 e2 (.root e3))
 ·cases h
theorem D4(O:ao X U c){i:Nat}{fp:Ro->Option (Ow×D×(D->D))}{fb:Ro->Option KD}{a b:P9}{pos:Pos}(ha:mQ X i fp a)(hb:SndE X fb b)(hp:cK b=P8):mQ X i (λZ=>xj (fp Z) (fb Z)) (.Subscript a b pos):=by
 intro Z k1 d1 up h g Y H Q se q;dsimp only[xj] at h;split at h
 ·rename_i es r hd ds up0 kx dx ep ex;split at h
  ·rename_i j hj;split at h
   ·rename_i dj ej;cases h
    cases hd with
    |lst=>
     refine au (rU mf av av (bO hp)) (ha Z _ _ _ ep g Y H _ se λv1 H1 v F k d s1 e1 e2 e3 fp1=>hb Z _ _ ex g Y H1 _ (se.same s1) λy H2 s2 r2=>?_)
     cases dx with
     |int z=>
      obtain rfl:=r2.rd.int;obtain⟨a',o,xs,x,rfl,q1,q2,l,ex',fp2⟩:=(fp1.same s2).step ej;cases(show o=_ from q2);exact .inl ⟨a',xs,z,x,rfl,rfl,.of q1,by unfold L2.l9;rw[l,(show jv ds.length z=P6 j from hj)];exact ex',q x H2 v F k d (s1.trans s2) e1 e2 e3 fp2⟩
     |_=>cases hj
    |tup=>
     refine au (rU mf av av (bO hp)) (ha Z _ _ _ ep g Y H _ se λv1 H1 v F k d s1 e1 e2 e3 fp1=>hb Z _ _ ex g Y H1 _ (se.same s1) λy H2 s2 r2=>?_)
     cases dx with
     |int z=>
      obtain rfl:=r2.rd.int;obtain⟨a',o,xs,x,rfl,q1,q2,l,ex',fp2⟩:=(fp1.same s2).step ej;cases(show o=_ from q2);exact .inr (.inl ⟨a',xs,z,x,rfl,rfl,.of q1,by unfold L2.l9;rw[l,(show jv ds.length z=P6 j from hj)];exact ex',q x H2 v F k d (s1.trans s2) e1 e2 e3 fp2⟩)
     |_=>cases hj
    |dic t ks=>
     simp only[BA] at hj;split at hj
     ·rename_i kk hk;split at hj
      ·rename_i hf;refine au (mj (by have:=O.tab.units;lia) av av (bO hp)) (ha Z _ _ _ ep g Y H _ se λv1 H1 v F k d s1 e1 e2 e3 fp1=>hb Z _ _ ex g Y H1 _ (se.same s1) λy H2 s2 r2=>?_);obtain⟨a',o,xs,x,rfl,q1,q2,l,ex',fp2⟩:=(fp1.same s2).step ej;have dg:=sj q1 q2 hk r2.rd hf;rw[hj,Nm,ex'] at dg;exact⟨a',x,rfl,dg,q x H2 v F k d (s1.trans s2) e1 e2 e3 fp2⟩
      ·cases hj
     ·cases hj
    |obj c ns=>cases hj
   ·cases h
  ·cases h
 ·cases h
end
section
variable {X:Cx}
theorem Hw{i:Nat}{fp:Ro->Option (Ow×D×(D->D))}{f:Str}(hb:attributeBase a f X.env (eval a X.env)=eval a X.env)(ha:mQ X i fp a):mQ X i (λZ=>xk f (fp Z)) (.Attribute a f pos):=by
 intro Z k1 d1 up h g Y H Q se q;dsimp only[xk] at h;split at h
 ·rename_i es r c ns ds up0 ep;split at h
  ·rename_i j hj;split at h
   ·rename_i dj ej;cases h;refine au (vO av hb) (ha Z _ _ _ ep g Y H _ se λv1 H1 v F k d s1 e1 e2 e3 fp1=>?_);obtain⟨a',o,xs,x,rfl,q1,q2,l,ex',fp2⟩:=fp1.step ej;obtain⟨C,dx,_,⟨cl,na⟩,rfl,_⟩:=q2;exact⟨a',C,dx,_,x,rfl,q1,cl,na f (Nf (aK hj)),qt hj ex',q x H1 v F k d s1 e1 e2 e3 fp2⟩
   ·cases h
  ·cases h
 ·cases h
end
open Classical in
noncomputable def Gh.give(g:Gh)(F:Pr)(i:Nat):Gh:=λb=>if F b then P6 (P6 i) else g b
section
variable {K:Mz} {H:Hp} {g:Gh} {F:Pr} {Z:Ro} {Y:L2.St}
theorem g7{F2:Pr}{i:Nat}(h:F2 b):g.give F2 i b=P6 (P6 i):=by unfold Gh.give;rw[if_pos h]
theorem bm{F2:Pr}{i:Nat}(h:¬F2 b):g.give F2 i b=g b:=by unfold Gh.give;rw[if_neg h]
theorem give_S{F2:Pr}{i:Nat}:Sg (g.give F2 i) b↔Sg g b\/F2 b:=by
 by_cases h:F2 b
 ·exact⟨λ_=>.inr h,λ_=>by rw[Sg,g7 h];simp⟩
 ·exact⟨λz=>.inl (by rw[Sg,bm h] at z;exact z),λz=>z.elim (λz=>by rw[Sg,bm h];exact z) λz=>absurd z h⟩
structure mR(K:Mz)(H:Hp)(g:Gh)(F:Pr)(Z:Ro)(Y:L2.St)(i:Nat)(k:Ow)(es:List Ow)(r:Ow)(hd:Hd)(ds:List D)(up:D->D)(a:Addr)(o:HO)(xs:List V)(F':Pr):Prop where
 at_:H a=P6 o
 ok:du K o hd xs
 kids:TrL K H (Sg (g.plus F)) ds es r xs F'
 lab:∀b,F' b->g b=P6 (P6 i)
 nin:¬F' a
 own:g a=P6 (P6 i)
 put:∀(o':HO) (hd':Hd) (ds':List D) (xs':List V) (F2 F3:Pr),hd'.mu=P8->du K o' hd' xs'->(∀xs,o'≠.tup xs)->(∀b,F2 b->F b)->(∀b,F3 b->F' b\/F2 b)->TrL K H (Sg (g.give F2 i)) ds' es r xs' F3->
  SE K (g.give F2 i) (Z.set i (P6 ⟨Qb,k,up (.nd hd' ds')⟩)) Y (upd H a o')
theorem FP.node{i:Nat}{Fi:Pr}{hd:Hd}(se:SE K (g.plus F) Z Y H)(hg:∀b,F b->g b=P7)(e:Z[i]?=P6 (P6 ⟨Qb,k,d⟩))(hv:Y[i]?=P6 (P6 v))(lb:∀b,Fi b->(g.plus F) b=P6 (P6 i))(fp:FP K H (Sg (g.plus F)) k v Fi (.own es r) (.nd hd ds) v1 up)(hm:hd.mu=P8):∃a o xs F',v1=.ref a/\mR K H g F Z Y i k es r hd ds up a o xs F':=by
 obtain⟨F1,Fr,h1,h2,h3,h4⟩:=fp;unfold Tr at h3;obtain⟨a,o,xs,F',rfl,q1,q2,n1,n2,hF,t⟩:=h3;have gl:∀b,Fi b->g b=P6 (P6 i):=λb z=>bA (lb b z);have ga:g a=P6 (P6 i):=gl a ((h1 a).mpr (.inl ((hF a).mpr (.inl ⟨hm,rfl⟩))));have gF:∀b,F' b->g b=P6 (P6 i):=λb z=>gl b ((h1 b).mpr (.inl ((hF b).mpr (.inr z))));refine⟨a,o,xs,F',rfl,q1,q2,t,gF,n1 hm,ga,λo' hd' ds' xs' F2 F3 hm' ok' nt s2 s3 t'=>?_⟩;have sub:∀b,Sg (g.give F2 i) b->Sg (g.plus F) b:=λb z=>(am b).mpr ((give_S.mp z).imp id (s2 b));have kb:∀b o2,b≠a->H b=P6 o2->upd H a o' b=P6 o2:=λb o2 n e=>by rw[ad n];exact e
 have nF2:∀b,F2 b->g b=P7:=λb z=>hg b (s2 b z);have nF3a:¬F3 a:=λz=>(s3 a z).elim (n1 hm) λz=>by rw[nF2 a z] at ga;cases ga
 refine⟨λj sl ej=>?_,λb z=>?_,by simp[se.len]⟩
 ·by_cases hj:j=i
  ·subst hj
   have hlt:j<Z.length:=by
    have:=(MJ.mp ej).1;simpa using this
   rw[MW hlt] at ej;cases ej
   have tn:Tr K (upd H a o') (Sg (g.give F2 j)) (.nd hd' ds') (.own es r) (.ref a) (λb=>b=a\/F3 b):=by
    unfold Tr;refine⟨a,o',xs',F3,rfl,ai,ok',λ_=>nF3a,λh=>by (rw[hm'] at h;cases h),λb=>⟨λz=>z.imp (λz=>⟨hm',z⟩) id,λz=>z.imp (λz=>z.2) id⟩,t'.go (λb o2 hb e=>kb b o2 (λz=>?_) e) λ_ _ _ n=>n⟩;subst z;rcases hb with hb|hb
    ·exact hb (give_S.mpr (.inl (by rw[Sg,ga];simp)))
    ·exact nF3a hb
   refine⟨v,_,hv,λb z=>?_,h4 (upd H a o') (Sg (g.give F2 j)) _ _ (λb o2 hb e=>kb b o2 (λz=>?_) e) (λb o2 _ n z=>n (sub b z)) tn λb z1 z2=>?_⟩
   ·rcases z with(rfl|z)|z
    ·rw[bm (λz=>by rw[nF2 b z] at ga;cases ga)];exact ga
    ·by_cases z2:F2 b
     ·exact g7 z2
     ·rw[bm z2];exact(s3 b z).elim (gF b) λz=>absurd z z2
    ·have:=gl b ((h1 b).mpr (.inr z));rw[bm (λz=>by rw[nF2 b z] at this;cases this)];exact this
   ·subst z;rcases hb with hb|hb
    ·exact hb ((am b).mpr (.inl (by rw[Sg,ga];simp)))
    ·exact h2 b ((hF b).mpr (.inl ⟨hm,rfl⟩)) hb
   ·rcases z1 with rfl|z1
    ·exact h2 b ((hF b).mpr (.inl ⟨hm,rfl⟩)) z2
    ·rcases s3 b z1 with z|z
     ·exact h2 b ((hF b).mpr (.inr z)) z2
     ·have:=gl b ((h1 b).mpr (.inr z2));rw[nF2 b z] at this;cases this
  ·rw[MV (Ne.symm hj)] at ej;obtain⟨w,Fj,e1,e2,e3⟩:=se.slot j sl ej;have gj:∀b,Fj b->g b=P6 (P6 j):=λb z=>bA (e2 b z);refine⟨w,Fj,e1,λb z=>?_,e3.go (λb o2 hb e=>kb b o2 (λz=>?_) e) λb o2 _ n z=>n (sub b z)⟩
   ·have:=gj b z;rw[bm (λz=>by rw[nF2 b z] at this;cases this)];exact this
   ·subst z;rcases hb with hb|hb
    ·exact hb ((am b).mpr (.inl (by rw[Sg,ga];simp)))
    ·rw[gj b hb] at ga;cases ga;exact hj rfl
 ·by_cases hb:b=a
  ·exact⟨o',by rw[hb];exact ai,nt⟩
  ·obtain⟨o2,e2,n⟩:=se.mu b (sub b z);exact⟨o2,kb b o2 hb e2,n⟩
theorem Evo.give{i:Nat}{F2:Pr}(ev:Evo g0 H0 g H F)(s2:∀b,F2 b->F b)(ga:g a=P6 (P6 i)):Evo g0 H0 (g.give F2 i) (L2.upd H a o') (λ_=>False):=by
 have nF2:∀b,F2 b->g b=P7:=λb z=>(ev.tmp b (s2 b z)).1;refine⟨λb o n e=>?_,λb=>⟨λe=>?_,λe=>?_⟩,λb j e=>?_,λ_ z=>z.elim,λb o e=>?_⟩
 ·rw[ad (λz=>?_)]
  ·exact ev.keep b o n e
  ·subst z;rcases ev.new b i ga with⟨j,q⟩|q
   ·exact n j q
   ·rw[e] at q;cases q
 ·have:=(ev.out b).mp e;rw[bm (λz=>by rw[nF2 b z] at this;cases this)];exact this
 ·by_cases z:F2 b
  ·rw[g7 z] at e;cases e
  ·rw[bm z] at e;exact(ev.out b).mpr e
 ·by_cases z:F2 b
  ·exact(ev.tmp b (s2 b z)).2
  ·rw[bm z] at e;exact ev.new b j e
 ·by_cases hb:b=a
  ·exact⟨o',by rw[hb];exact ai⟩
  ·obtain⟨o2,q⟩:=ev.dom b o e;exact⟨o2,by rw[ad hb];exact q⟩
end
end J
namespace L2
open PySem PySem.Spec PyProof.Rows
section
variable {X:Cx}
end
end L2
namespace J
open PySem PySem.Spec L2
noncomputable def oQ(m:Str)(es:List Ow)(r:Ow)(ds:List D)(as:List KD):Option (D×List D):=
 if m="append" then(match as with|[x]=>if es.length<=ds.length/\bB r x=P8/\ds.length<100000 then P6 (.non,ds++[x.2]) else P7|_=>P7)
 else if m="extend" then(match as with|[(k,.nd .lst ys)]=>if lF (.own es r)=P8/\i3 k ys=P8/\aX k=Qb/\ds.length+ys.length<=100000 then P6 (.non,ds++ys) else P7|_=>P7)
 else P7
noncomputable def D5(m:Str):V->List V->Hp->VK->Prop:=
 if m="append" then rW else if m="extend" then rX else λ_ _ _ _=>False
section
variable {K:Mz} {H:Hp} {g g0:Gh} {H0:Hp} {F F':Pr} {Z:Ro} {Y:L2.St} {i:Nat} {k:Ow} {es:List Ow} {r:Ow} {ds:List D} {up:D->D} {a:Qc} {o:HO} {xs:List V}
theorem Ac:g.give (λ_=>False) i=g:=by funext b;exact bm λz=>z
theorem TrL.snoc2:∀{ds:List D} {es:List Ow} {r:Ow} {us:List V} {F F2:Pr} {d:D} {v:V},es.length<=ds.length->TrL K H S ds es r us F->Tr K H S d r v F2->(∀b,F b->¬F2 b)->TrL K H S (ds++[d]) es r (us++[v]) (λb=>F b\/F2 b)
 |[],es,r,us,F,F2,d,v,hl,h,t,dj=>by
  have:es=[]:=O2.mp (Nat.le_zero.mp hl);subst this;exact TrL.snoc h t dj
 |e::ds,es,r,us,F,F2,d,v,hl,h,t,dj=>by
  unfold TrL at h;obtain⟨y,ys,F1,F3,rfl,hF,dj1,h1,h2⟩:=h;show TrL K H S (e::(ds++[d])) es r (y::(ys++[v])) _;unfold TrL
  refine⟨y,ys++[v],F1,λb=>F3 b\/F2 b,rfl,λb=>?_,λb z1 z2=>?_,h1,TrL.snoc2 (by cases es<;>simp at hl⊢;lia) h2 t λb z=>dj b ((hF b).mpr (.inr z))⟩
  ·show F b\/F2 b↔F1 b\/F3 b\/F2 b;rw[hF b,or_assoc]
  ·rcases z2 with z2|z2
   ·exact dj1 b z1 z2
   ·exact dj b ((hF b).mpr (.inl z1)) z2
theorem TrL.ofFlat:∀{ds:List D} {es:List Ow} {xs:List V},(∀e∈es,e=.fz)->RpL K H S ds xs->TrL K H S ds es .fz xs λ_=>False
 |[],_,_,_,h=>by unfold TrL;exact⟨h.nil_inv,λ_ z=>z⟩
 |d::ds,es,_,he,h=>by
  obtain⟨y,ys,rfl,r,t⟩:=h.cons_inv;unfold TrL
  refine⟨y,ys,_,_,rfl,λb=>⟨.inl,λz=>z.elim id id⟩,λ_ z=>z.elim,?_,TrL.ofFlat (λe q=>he e (by cases es with|nil=>cases q|cons a r=>exact .tail _ q)) t⟩
  have e:es.headD .fz=.fz:=by
   cases es with
   |nil=>rfl
   |cons a r=>exact he a (.head _)
  rw[e];exact Tr.fz r
theorem xl{m:Str}{Q:VK}(h:oQ m es r ds as=P6 (d',ds'))(nd:mR K H g F Z Y i k es r .lst ds up a o xs F')(ev:Evo g0 H0 g H F)(se:SE K (g.plus F) Z Y H)(ra:VRL K H g F as vs F)(q:∀v g' H' Fv,Evo g0 H0 g' H' Fv->SE K (g'.plus Fv) (Z.set i (P6 ⟨Qb,k,up (.lst ds')⟩)) Y H'->VR1 K H' g' Fv .sh d' v Fv->Q v H'):D5 m (.ref a) vs H Q:=by
 have ho:o=.lst xs:=nd.ok;subst ho;have hF:∀b,F b->g b=P7:=λb z=>(ev.tmp b z).1;have mm:MuOk H (Sx g F):=λb z=>se.mu b ((am b).mpr z);have sx:∀b,Sg (g.plus F) b↔Sx g F b:=λb=>am b
 -- behind the change
 have fin:∀{xs':List V} {F2 F3:Pr} {v:V},(∀b,F2 b->F b)->(∀b,F3 b->F' b\/F2 b)->TrL K H (Sg (g.give F2 i)) ds' es r xs' F3->Rp K (upd H a (.lst xs')) (Sg (g.give F2 i)) d' v->Q v (upd H a (.lst xs')):=λ{xs' F2 F3 v} s2 s3 t rv=>by
  refine q v (g.give F2 i) _ (λ_=>False) (ev.give s2 nd.own) ?_ ⟨λ_ z=>z,rv.weak λb z=>z.elim id λz=>z.elim⟩;rw[aR λ_ z=>z];exact nd.put (.lst xs') .lst ds' xs' F2 F3 rfl rfl (λ_ h=>by cases h) s2 s3 t
 have old:∀{F2:Pr},(∀b,F2 b->F b)->∀b o,H b=P6 o->¬Sg (g.plus F) b->¬Sg (g.give F2 i) b:=λs2 b o _ n z=>n ((am b).mpr ((give_S.mp z).imp id (s2 b)))
 have flat:lF (.own es r)=P8->(∀e∈es,e=.fz)/\r=.fz/\RpL K H (Sg g) ds xs:=λhf=>by
  obtain⟨he,hr⟩:=sg hf;refine⟨he,hr,?_⟩;have:=nd.kids;rw[hr] at this;exact(this.flat he).2.weak λb z=>(am b).mpr (.inl z)
 have rpU:∀{d:D} {v:V} {xs':List V},Rp K H (Sg g) d v->Rp K (upd H a (.lst xs')) (Sg g) d v:=λr=>r.go λb o n e=>⟨by rw[ad (λz=>n (by rw[z,Sg,nd.own];simp))];exact e,n⟩;unfold oQ at h;unfold D5;split at h
 ·rename_i hm;rw[if_pos hm];split at h
  ·rename_i x;split at h
   ·rename_i hc;cases h;obtain⟨y,ys,F1,F2',rfl,hF1,dj,r1,rfl,hn⟩:=ra;have e1:∀b,F b↔F1 b:=λb=>⟨λz=>((hF1 b).mp z).elim id λz=>absurd z (hn b),λz=>(hF1 b).mpr (.inl z)⟩;obtain⟨F2,a1,a2⟩:=VR1.fit hc.2.1 mm (λb z=>hF b ((e1 b).mpr z)) (λb z=>(e1 b).mpr z) r1;refine⟨a,xs,y,rfl,rfl,nd.at_,by rw[nd.kids.len];exact MG hc.2.2 (aF (MH _)),?_⟩;refine fin (F2:=F2) (F3:=λb=>F' b\/F2 b) (λb z=>(e1 b).mpr (a1 b z)) (λb z=>z) (TrL.snoc2 hc.1 (nd.kids.go (λ_ _ _ e=>e) (old λb z=>(e1 b).mpr (a1 b z))) (a2 _ λb z=>?_) λb z1 z2=>?_) (by unfold Rp;rfl)
    ·rcases give_S.mp z with z|z
     ·exact .inr (.inl z)
     ·exact .inr (.inr (.inl z))
    ·have:=nd.lab b z1;rw[hF b ((e1 b).mpr (a1 b z2))] at this;cases this
   ·cases h
  ·cases h
 ·rename_i hm;rw[if_neg hm];split at h
  ·rename_i hm2;rw[if_pos hm2];split at h
   ·rename_i kk ys;split at h
    ·rename_i hc;cases h;obtain⟨he,hr,rl⟩:=flat hc.1;subst hr;obtain⟨v,rfl,rv⟩:=ra.off.one;obtain⟨b,o,zs,rfl,gb,qb,rb⟩:=rv.items hc.2.1 (qI se hF) ko;cases(show o=_ from qb);refine⟨a,b,xs,zs,rfl,rfl,nd.at_,gb,by rw[rl.len,rb.len];exact aF hc.2.2.2,?_⟩;exact fin (F2:=λ_=>False) (F3:=λ_=>False) (λ_ z=>z.elim) (λ_ z=>z.elim) (by rw[Ac];exact .ofFlat he (rl.append rb)) (by unfold Rp;rfl)
    ·cases h
   ·cases h
  ·cases h
end
noncomputable def mNames:List Str:=["append","extend"]
noncomputable def qL(m:Str)(i:Nat)(p:Option (Ow×D×(D->D)))(as:Option (List KD))(Z:Ro):MR:=match p,as with
 |some (.own es r,.nd .lst ds,up),P6 as=>(match oQ m es r ds as,Z[i]? with
  |some (d',ds'),P6 (P6 ⟨Qb,k,_⟩)=>P6 (.sh,d',Z.set i (P6 ⟨Qb,k,up (.lst ds')⟩))
  |_,_=>P7)
 |_,_=>P7
section
variable {X:Cx} {U:eQ} {c:Cz}
theorem D6{m:Str}(hm:m∈mNames):∃id,Slot "list" m id/\typeOf (.builtin id)=pure (.type "method_descriptor")/\Gk X id (D5 m):=by
 simp only[mNames,ML,Nb,or_false] at hm;rcases hm with rfl|rfl
 ·exact⟨_,PySem.F.slot_list_append,PySem.F.type_list_append,lu⟩
 ·exact⟨_,PySem.F.slot_list_extend,PySem.F.type_list_extend,uC⟩
theorem D7{i:Nat}{m:Str}{b e:P9}{ap cp:Pos}{fp:Ro->Option (Ow×D×(D->D))}{fa:Ro->Option KD}(hm:m∈mNames)(hp:mQ X i fp b)(ha:SndE X fa e)(hb:j7 b=P8)(hn:ah e=P8)(hl:(ap.endLine==cp.line)=P8):bd X (λZ=>qL m i (fp Z) (eT (fa Z) (P6 [])) Z) (.Call (.Attribute b m ap) [e] [] cp):=by
 intro Z kd d Z' h g Y H Q se q;dsimp only[qL] at h;split at h
 ·rename_i es r ds up as ep ea;split at h
  ·rename_i d' ds' k dd em ei;cases h;obtain⟨mid,s1,s2,s3⟩:=D6 (X:=X) hm;refine au (Gr PySem.F.plainAttrs_list s1 s2 s3 av (bg av dG (ag hn)) (mC hb) (qy hn) hl (ag hn) rfl) (hp Z _ _ _ ep g Y H _ se λv1 H1 v F k0 d0 sm e1 e2 e3 f1=>?_);rw[ei] at e1;cases e1;unfold eT at ea;split at ea
   ·rename_i x xs' ex exs;cases exs;cases ea;obtain⟨kx,dx⟩:=x;have eg:g.plus (λ_=>False)=g:=aR λ_ z=>z
    have sq:∃xs,SqL X.K H1 (match v1 with|.ref a=>a|_=>0) xs/\∃a,v1=.ref a:=by
     obtain⟨a,o,xs,F',rfl,nd⟩:=FP.node (F:=λ_=>False) (by rw[eg];exact se.same sm) (λ_ z=>z.elim) ei e2 (by rw[eg];exact e3) (by rw[eg];exact f1) rfl;have ho:o=.lst xs:=nd.ok;subst ho;exact⟨xs,.of nd.at_,a,rfl⟩
    obtain⟨xs0,sq1,a0,rfl⟩:=sq;refine⟨.inl ⟨rfl,xs0,sq1⟩,ha Z kx dx ex g Y H1 _ (se.same sm) λy H2 s2' r2=>?_⟩;obtain⟨Fy,y1,y2⟩:=r2;have sy:=(se.same sm).plus s2' y1 y2.dom;have hgy:∀b,Fy b->g b=P7:=λb z=>ee (se.same sm).mu (y1 b z);have f2':=f1.same s2'
    have f3:FP X.K H2 (Sg (g.plus Fy)) k v F (.own es r) (.lst ds) (.ref a0) up:=by
     obtain⟨F1,Fr,q1,q2,q3,q4⟩:=f1;have k2:∀b o,H1 b=P6 o->¬Sg g b->¬Sg (g.plus Fy) b:=λb o e n z=>((am b).mp z).elim n λz=>by rw[y1 b z] at e;cases e
     refine⟨F1,Fr,q1,q2,q3.go (λb o _ e=>s2' b o e) k2,λH' S' d1' F1' t1 t2 t3 t4=>q4 H' S' d1' F1' (λb o hb e=>t1 b o (hb.imp (λn=>k2 b o e n) id) (s2' b o e)) (λb o e n=>t2 b o (s2' b o e) (k2 b o e n)) t3 t4⟩
    obtain⟨a,o,xs,F',e4,nd⟩:=FP.node (F:=Fy) sy hgy ei e2 (λb z=>bX (e3 b z) λz2=>by have:=e3 b z;rw[hgy b z2] at this;cases this) f3 rfl;cases e4;exact xl em nd (de (sm.trans s2') (λb z=>sm.free (y1 b z)) hgy) sy ⟨y,[],Fy,λ_=>False,rfl,λb=>⟨.inl,λz=>z.elim id λz=>z.elim⟩,λ_ _ z=>z,y2,rfl,λ_ z=>z⟩ q
   ·cases ea
  ·cases h
 ·cases h
end
end J
namespace J
open PySem PySem.Spec L2
section
variable {X:Cx} {U:eQ} {c:Cz}
end
end J
namespace J
open PySem PySem.Spec L2
noncomputable abbrev ii:Pr:=λ_=>False
noncomputable def frzI(i:Nat)(Z:Ro):Ro:=match Z[i]? with
 |some (P6 ⟨Qb,.own _ _,.nd hd ds⟩)=>if hd.mu=P8 then Z.set i (P6 ⟨Qb,.own [] .fz,.nd hd ds⟩) else Z
 |_=>Z
noncomputable def frzN:List Nat->Ro->Ro
 |[],Z=>Z
 |i::is,Z=>frzN is (if 1000<=i then frzI (i-1000) Z else match Z[i]? with|some (P6 ⟨Qb,k,d⟩)=>Z.set i (P6 ⟨Qb,.fz,d⟩)|_=>Z)
open Classical in
theorem SE.frzI(i:Nat)(se:SE K g Z Y H):∃g',SE K g' (frzI i Z) Y H/\Evo g H g' H ii:=by
 unfold J.frzI;split
 ·rename_i es r hd ds e;split
  ·rename_i hm;obtain⟨v,F0,e1,e2,e3⟩:=se.slot i _ e;have e3:Tr K H (Sg g) (.nd hd ds) (.own es r) v F0:=e3;unfold Tr at e3;obtain⟨a,o,xs,F',rfl,q1,q2,n1,n2,hF,t⟩:=e3;have lab:∀b,F' b->g b=P6 (P6 i):=λb z=>e2 b ((hF b).mpr (.inr z));have la:g a=P6 (P6 i):=e2 a ((hF a).mpr (.inl ⟨hm,rfl⟩))
   let g':Gh:=λb=>if F' b then P7 else g b
   have g1:∀b,¬F' b->g' b=g b:=λb h=>if_neg h;have g2:∀b,F' b->g' b=P7:=λb h=>if_pos h
   have sub:∀b,Sg g' b->Sg g b/\¬F' b:=λb z=>by
    by_cases h:F' b
    ·exact absurd (g2 b h) z
    ·exact⟨by rw[Sg,<- g1 b h];exact z,h⟩
   refine⟨g',⟨λj sl ej=>?_,λb z=>se.mu b (sub b z).1,by rw[N1];exact se.len⟩,⟨λ_ _ _ e=>e,λb=>⟨λz=>?_,λz=>?_⟩,λb j z=>.inl ⟨j,?_⟩,λ_ z=>z.elim,λ_ o e=>⟨o,e⟩⟩⟩
   ·by_cases hj:j=i
    ·subst hj;have hlt:j<Z.length:=by have:=(MJ.mp ej).1;simpa using this
     rw[MW hlt] at ej;cases ej;refine⟨.ref a,λb=>b=a,e1,λb z=>by rw[z,g1 a (n1 hm)];exact la,?_⟩;show Tr K H (Sg g') (.nd hd ds) (.own [] .fz) (.ref a) _;unfold Tr;exact⟨a,o,xs,λ_=>False,rfl,q1,q2,λ_ z=>z,(λh=>by rw[hm] at h;cases h),λb=>⟨λz=>.inl ⟨hm,z⟩,λz=>z.elim (λz=>z.2) λz=>z.elim⟩,.ofFz (t.rp sub)⟩
    ·rw[MV (Ne.symm hj)] at ej;obtain⟨v,Fj,k1,k2,k3⟩:=se.slot j sl ej;refine⟨v,Fj,k1,λb z=>?_,k3.go (λ_ _ _ e=>e) λb o _ n z=>n (sub b z).1⟩;have:=k2 b z;rw[g1 b λh=>by rw[lab b h] at this;cases this;exact hj rfl];exact this
   ·rw[g1 b λh=>by rw[lab b h] at z;cases z];exact z
   ·by_cases h:F' b
    ·rw[g2 b h] at z;cases z
    ·rw[g1 b h] at z;exact z
   ·by_cases h:F' b
    ·rw[g2 b h] at z;cases z
    ·rw[g1 b h] at z;exact z
  ·exact⟨g,se,.refl g H⟩
 ·exact⟨g,se,.refl g H⟩
theorem SE.frz1{g:Gh}{Z:Ro}{i:Nat}(se:SE K g Z Y H)(e:Z[i]?=P6 (P6 ⟨Qb,k,d⟩)):SE K (g.off i) (Z.set i (P6 ⟨Qb,.fz,d⟩)) Y H/\Evo g H (g.off i) H ii:=by
 obtain⟨v,F0,e1,e2,e3⟩:=se.slot i _ e;have r:Rp K H (Sg ((g.off i).plus ii)) d v:=e3.rp λb z=>((am b).mp z).elim (λz=>⟨(ja z).1,λz2=>(ja z).2 (e2 b z2)⟩) λz=>z.elim
 have:=mP (Z':=Z.set i (P6 ⟨Qb,.fz,d⟩)) (F:=ii) se (λ_ z=>z.elim) (by simp) λj sl e4=>(by
  by_cases hj:j=i
  ·subst hj
   have hlt:j<Z.length:=by
    have:=(MJ.mp e4).1;simpa using this
   rw[MW hlt] at e4;cases e4;exact .inr ⟨v,e1,rfl,r⟩
  ·rw[MV (Ne.symm hj)] at e4;exact .inl ⟨hj,e4⟩)
 rw[aR λ_ z=>z] at this;exact⟨this,jD λ_ z=>z.elim⟩
theorem SE.frzN{H:Hp}:∀(is:List Nat) {g:Gh} {Z:Ro},SE K g Z Y H->∃g',SE K g' (frzN is Z) Y H/\Evo g H g' H ii
 |[],g,Z,se=>⟨g,se,.refl g H⟩
 |i::is,g,Z,se=>by
  unfold J.frzN;by_cases hi:1000<=i
  ·rw[if_pos hi];obtain⟨g1,s1,e1⟩:=se.frzI (i-1000);obtain⟨g2,s2,e2⟩:=SE.frzN is s1;exact⟨g2,s2,kr e1 e2⟩
  rw[if_neg hi];split
  ·rename_i k d e;obtain⟨s1,e1⟩:=se.frz1 e;obtain⟨g2,s2,e2⟩:=SE.frzN is s1;exact⟨g2,s2,kr e1 e2⟩
  ·exact SE.frzN is se
inductive BP where
 |nm (i:Nat)
 |ix (b:BP) (e:IE)
 |fld (b:BP) (f:Str)
noncomputable def BP.slot:BP->Nat
 |.nm i=>i
 |.ix b _=>b.slot
 |.fld b _=>b.slot
noncomputable def sV(U:Nat->Option Fn):BP->Ro->Option (Ow×D×(D->D))
 |.nm i,Z=>oP Z[i]?
 |.ix b e,Z=>xj (sV U b Z) (aa U e Z)
 |.fld b f,Z=>xk f (sV U b Z)
mutual
inductive ME where
 |p (e:IE)
 |mv (i:Nat)
 |fz (i:Nat)
 |io (f:Nat) (as:MAs)
 |fn (f:Nat) (as:iK)
 |blt (x:Str) (as:iK)
 |tup (k:Ow) (as:iK)
 |lst (k:Ow) (as:iK)
 |bin (op:Qv) (as:iK)
 |cmp (op:Qu) (as:iK)
 |ix (as:iK)
 |slh (as:iK)
 |ifx (t:MT) (a b:ME)
 |comp (r:Ow) (cap:List (Option Nat)) (tg:IT) (it:MI) (ts:MO) (elt:ME)
 |mut (m:Str) (b:BP) (as:IEs)
 |mutM (m:Str) (i:Nat) (a:ME)
 |mutMs (m:Str) (i:Nat) (as:iK)
 |sdf (i:Nat) (k b:IE)
inductive MI where
 |p (it:II)
 |e (a:ME)
 |enm (a:ME)
 |rng (a:ME)
inductive MAs where
 |nil
 |ref (i:Nat) (r:MAs)
 |val (a:ME) (r:MAs)
inductive iK where
 |fin (a:ME) (r:IEs)
 |cons (a:ME) (r:iK)
inductive MT where
 |p (e:IE)
 |cmp (op:Qu) (as:iK)
 |not (t:MT)
 |bool (op:BoolOp) (ts:I0)
 |tru (a:ME)
 |vw (is:List Nat) (e:IE)
inductive I0 where
 |one (t:MT)
 |cons (t:MT) (r:I0)
inductive MO where
 |non
 |som (t:MT)
end
noncomputable def oS(f:List KD->Option KD)(a:Option (List KD×Ro)):MR:=match a with
 |some (kds,Z)=>(match f kds with|some (kd,d)=>P6 (kd,d,Z)|none=>P7)
 |none=>P7
noncomputable def BB(op:Qu)(a:Option (List KD×Ro)):Option (Bool×Ro):=match a with
 |some ([x,y],Z)=>(match aT op x.2 y.2 with|some b=>P6 (b,Z)|none=>P7)
 |_=>P7
noncomputable def Ja(a:Option KD)(Z:Ro):MR:=match a with|some (kd,d)=>P6 (kd,d,Z)|none=>P7
noncomputable def Kh(a:Option Bool)(Z:Ro):Option (Bool×Ro):=match a with|some b=>P6 (b,Z)|none=>P7
noncomputable def D8(op:BoolOp)(a:Option (Bool×Ro))(r:Ro->Option (Bool×Ro)):Option (Bool×Ro):=match a with
 |some (x,Z)=>if(op==.And)=x then r Z else P6 (x,Z)
 |none=>P7
structure GG where
 fn:Nat->Option Fn
 fm:Nat->Option Fm
mutual
noncomputable def aH(U:GG):ME->Ro->MR
 |.p e,Z=>Ja (aa U.fn e Z) Z
 |.mv i,Z=>uS i Z
 |.fz i,Z=>uT i Z
 |.io f as,Z=>DW (U.fm f) (cQ U as Z)
 |.fn f as,Z=>(match U.fn f with|some B=>oS (qB B) (aS U as Z)|none=>P7)
 |.blt x as,Z=>oS (eK x) (aS U as Z)
 |.tup k as,Z=>oS (λkds=>gJ k (P6 kds)) (aS U as Z)
 |.lst k as,Z=>P7
 |.bin op as,Z=>oS (f2 (eJ op)) (aS U as Z)
 |.cmp op as,Z=>oS (f2 λx y=>bV (aT op x.2 y.2)) (aS U as Z)
 |.ix as,Z=>oS (f2 IZ) (aS U as Z)
 |.slh as,Z=>P7
 |.ifx t a b,Z=>P7
 |.comp r cap tg it ts elt,Z=>eZ r (cA U it Z) (fy cap tg (mS U ts) (aH U elt)) cap
 |.mut m b as,Z=>qL m b.slot (sV U.fn b Z) (aJ U.fn as Z) Z
 |.mutM m i a,Z=>P7
 |.mutMs m i as,Z=>P7
 |.sdf i k b,Z=>P7
noncomputable def cA(U:GG):MI->Ro->IR
 |.p it,Z=>DX (bR U.fn it Z) Z
 |.e a,Z=>P7
 |.enm a,Z=>P7
 |.rng a,Z=>Bz (gO (P6 (.sh,.int 0))) (aH U a Z)
noncomputable def cQ(U:GG):MAs->Ro->Option (List RA×Ro)
 |.nil,Z=>P6 ([],Z)
 |.ref i r,Z=>sP i Z[i]? (cQ U r Z)
 |.val a r,Z=>sQ (aH U a Z) (cQ U r)
noncomputable def aS(U:GG):iK->Ro->Option (List KD×Ro)
 |.fin a r,Z=>eX (aH U a Z) (aJ U.fn r)
 |.cons a r,Z=>eW (aH U a Z) (aS U r)
noncomputable def bp(U:GG):MT->Ro->Option (Bool×Ro)
 |.p e,Z=>Kh (aC U.fn e Z) Z
 |.vw is e,Z=>P7
 |.cmp op as,Z=>BB op (aS U as Z)
 |.not t,Z=>P7
 |.bool op ts,Z=>P7
 |.tru a,Z=>P7
noncomputable def BC(U:GG)(op:BoolOp):I0->Ro->Option (Bool×Ro)
 |.one t,Z=>bp U t Z
 |.cons t r,Z=>D8 op (bp U t Z) (BC U op r)
noncomputable def mS(U:GG):MO->Ro->Option (Bool×Ro)
 |.non,Z=>P6 (P8,Z)
 |.som t,Z=>bp U t Z
end
section
theorem xm{U:GG}:aH U (.p e) Z=Ja (aa U.fn e Z) Z:=rfl
theorem D9:aH U (.mv i) Z=uS i Z:=rfl
theorem Ea:aH U (.fz i) Z=uT i Z:=rfl
theorem qM{U:GG}:aH U (.io f as) Z=DW (U.fm f) (cQ U as Z):=rfl
theorem qN{U:GG}:aH U (.fn f as) Z=(match U.fn f with|some B=>oS (qB B) (aS U as Z)|none=>P7):=rfl
theorem Ad:aH U (.blt x as) Z=oS (eK x) (aS U as Z):=rfl
theorem Ae:aH U (.tup k as) Z=oS (λkds=>gJ k (P6 kds)) (aS U as Z):=rfl
theorem Af:aH U (.bin op as) Z=oS (f2 (eJ op)) (aS U as Z):=rfl
theorem Ag:aH U (.cmp op as) Z=oS (f2 λx y=>bV (aT op x.2 y.2)) (aS U as Z):=rfl
theorem Eb:aH U (.ix as) Z=oS (f2 IZ) (aS U as Z):=rfl
theorem oR:aH U (.comp r cap tg it ts elt) Z=eZ r (cA U it Z) (fy cap tg (mS U ts) (aH U elt)) cap:=rfl
theorem mT{U:GG}:aH U (.mut m b as) Z=qL m b.slot (sV U.fn b Z) (aJ U.fn as Z) Z:=rfl
end
theorem f7{f:Ro->MR}(h:∀Z,f Z=P7):bd X f e:=λZ kd d Z' hh=>by rw[h] at hh;cases hh
theorem oT{f:Ro->Option (Bool×Ro)}(h:∀Z,f Z=P7):fL X f e:=λZ kd d hh=>by rw[h] at hh;cases hh
theorem sW{f:Ro->IR}(h:∀Z,f Z=P7):gY X f tg e:=λZ bs ds Z' hh=>by rw[h] at hh;cases hh
noncomputable def mU(f:P9->Option ME)(g:P9->Option IE):List P9->Option iK
 |[]=>P7
 |e::es=>if ah e then(match dC g es with
  |some r=>(f e).map λa=>.fin a r
  |none=>(match f e,mU f g es with|some a,P6 r=>P6 (.cons a r)|_,_=>P7)) else P7
noncomputable def BD(c:Cz)(f:P9->Option ME):List Bool->List P9->Option MAs
 |_,[]=>P6 .nil
 |true::fl,.Name x _::es=>(match eS c x,BD c f fl es with|some i,P6 r=>P6 (.ref i r)|_,_=>P7)
 |fl,e::es=>if ah e then(match f e,BD c f fl.tail es with|some a,P6 r=>P6 (.val a r)|_,_=>P7) else P7
noncomputable def xn(c:Cz)(f:P9->Option ME)(it:Option II)(tg iter:P9):Option MI:=match it with
 |some it=>P6 (.p it)
 |none=>match iter with
  |.Call (.Name x _) [a] [] _=>
   if x="range" then(if fJ c.sc "range" && ah a then(f a).map .rng else P7)
   else if x="enumerate" then(if fJ c.sc "enumerate" && ah a&&j8 tg then(f a).map .enm else P7)
   else(f iter).map .e
  |_=>(f iter).map .e
noncomputable def Ki(f:P9->Option MT):List P9->Option I0
 |[]=>P7
 |[e]=>(f e).map .one
 |e::es=>match f e,Ki f es with|some a,P6 r=>P6 (.cons a r)|_,_=>P7
noncomputable def Ec(c:Cz)(f:P9->Option IE):Nat->P9->Option BP
 |0,_=>P7
 |n+1,e=>match e with
  |.Name x _=>(eS c x).map .nm
  |.Subscript a b _=>if cK b then(match Ec c f n a,f b with|some p,P6 e=>P6 (.ix p e)|_,_=>P7) else P7
  |.Attribute a z _=>if j7 a then(Ec c f n a).map λp=>.fld p z else P7
  |_=>P7
noncomputable def Kj(m:Str)(b:P9)(ap cp:Pos):Bool:=mNames.contains m&&j7 b&&(ap.endLine==cp.line)
noncomputable def Kk(fns:Nms)(c:Cz)(x:Str)(p:Pos):Option ME:=match fns.md p.line p.col with
 |none=>P7
 |some P8=>(eS c x).map .mv
 |some Qb=>(eS c x).map .fz
noncomputable def Kl(fns:Nms)(c:Cz)(fM:P9->Option ME)(fE:P9->Option IE)(x:Str)(as:List P9):Option ME:=match as with
 |[]=>P7
 |a::es=>if fJ c.sc x&&(a::es).all ah then(match aN x fns.fns with
  |some i=>(match fns.io i with
   |some fl=>(BD c fM fl (a::es)).map (.io i)
   |none=>(mU fM fE (a::es)).map (.fn i))
  |none=>(mU fM fE (a::es)).map (.blt x)) else P7
noncomputable def Km(c:Cz)(fM:P9->Option ME)(fE:P9->Option IE)(b:P9)(m:Str)(ap cp:Pos)(as:List P9):Option ME:=match as with
 |[]=>P7
 |e::es=>match es with
  |_::_=>P7
  |[]=>if Kj m b ap cp&&ah e then(match fE e with
   |some e'=>(Ec c fE 6 b).map λp=>.mut m p (.cons e' .nil)
   |none=>(match b with|.Name x _=>(match eS c x,fM e with|some i,P6 a=>P6 (.mutM m i a)|_,_=>P7)|_=>P7)) else P7
noncomputable def Ko(fns:Nms)(c:Cz)(fM:P9->Option ME)(fE:P9->Option IE)(g:P9)(as:List P9)(ks:List Keyword)(cp:Pos):Option ME:=match ks with
 |_::_=>P7
 |[]=>match g with
  |.Name x _=>Kl fns c fM fE x as
  |.Attribute b m ap=>Km c fM fE b m ap cp as
  |_=>P7
noncomputable def uV{α:Type}(k:Qu->iK->α)(fM:P9->Option ME)(fE:P9->Option IE)(a:P9)(ops:List Qu)(bs:List P9):Option α:=match ops with
 |[]=>P7
 |op::ops=>match ops with
  |_::_=>P7
  |[]=>match bs with
   |[]=>P7
   |b::bs=>match bs with
    |_::_=>P7
    |[]=>if Qs op b then P7 else(mU fM fE [a,b]).map (k op)
noncomputable def jE(f:P9->Option MT):List P9->Option MO
 |[]=>P6 .non
 |[e]=>(f e).map .som
 |_=>P7
noncomputable def uW(fns:Nms)(c:Cz)(fM:Cz->P9->Option ME)(fE:Cz->P9->Option IE)(fT:Cz->P9->Option MT)(elt:P9)(gs:List Comprehension)(scope:Qo)(p:Pos):Option ME:=match gs with
 |[]=>P7
 |g::gs=>match gs with
  |_::_=>P7
  |[]=>if g.is_async=0 then(if c9 g.iter&&aW c scope then(match mH ⟨eL scope c.sc,ac scope,eR scope⟩ 4 g.target,xn c (fM c) (DI c (fE c) g.target g.iter) g.target g.iter,jE (fT ⟨eL scope c.sc,ac scope,eR scope⟩) g.ifs,fM ⟨eL scope c.sc,ac scope,eR scope⟩ elt with
    |some t,P6 it,P6 ts,P6 el=>P6 (.comp ((fns.an p.line p.col).getD .fz) (aq c scope) t it ts el)|_,_,_,_=>P7) else P7) else P7
noncomputable def Ed:P9->Option P9
 |.Slice P7 (P6 hi) P7 _=>P6 hi
 |_=>P7
theorem Ah(h:Ed b=P6 hi):∃p,b=.Slice P7 (P6 hi) P7 p:=by
 unfold Ed at h;split at h
 ·cases h;exact⟨_,rfl⟩
 ·cases h
mutual
noncomputable def cM(fns:Nms):Nat->Cz->P9->Option ME
 |0,_,_=>P7
 |n+1,c,e=>match cE fns n c e with
  |some ie=>P6 (.p ie)
  |none=>match e with
   |.Name x p=>Kk fns c x p
   |.Call g as ks cp=>Ko fns c (cM fns n c) (cE fns n c) g as ks cp
   |.Tuple es _ p=>(mU (cM fns n c) (cE fns n c) es).map (.tup (fns.kT p))
   |.List es p=>(mU (cM fns n c) (cE fns n c) es).map (.lst (fns.kL p))
   |.BinOp a op b _=>(mU (cM fns n c) (cE fns n c) [a,b]).map (.bin op)
   |.Compare a ops bs _=>uV ME.cmp (cM fns n c) (cE fns n c) a ops bs
   |.Subscript a b _=>if cK b then(mU (cM fns n c) (cE fns n c) [a,b]).map .ix else(match Ed b with|some hi=>(mU (cM fns n c) (cE fns n c) [a,hi]).map .slh|none=>P7)
   |.IfExp t a b _=>match vz fns n c t,cM fns n c a,cM fns n c b with|some t,P6 a,P6 b=>P6 (.ifx t a b)|_,_,_=>P7
   |.ListComp elt gs scope p=>uW fns c (cM fns n) (cE fns n) (vz fns n) elt gs scope p
   |_=>P7
noncomputable def vz(fns:Nms):Nat->Cz->P9->Option MT
 |0,_,_=>P7
 |n+1,c,e=>match cT fns n c e with
  |some ie=>(match fns.vw e.pos.line e.pos.col with|[]=>P6 (.p ie)|i::is=>P6 (.vw (i::is) ie))
  |none=>match e with
   |.Compare a ops bs _=>uV MT.cmp (cM fns n c) (cE fns n c) a ops bs
   |.UnaryOp op a _=>(match op with|.Not=>(vz fns n c a).map .not|_=>P7)
   |.BoolOp op es _=>(Ki (vz fns n c) es).map (.bool op)
   |.Call f as ks p=>(cM fns n c (.Call f as ks p)).map .tru
   |.Subscript a b p=>(cM fns n c (.Subscript a b p)).map .tru
   |.Name x p=>(cM fns n c (.Name x p)).map .tru
   |.Constant k j p=>(cM fns n c (.Constant k j p)).map .tru
   |_=>P7
end
noncomputable def jo(fns:Nms)(U:GG):Str->Option (Mz->Sp):=λx=>(aN x fns.fns).bind λi=>(U.fm i).map λB=>λK=>z7 K B
noncomputable abbrev bx(fns:Nms)(U:GG):eQ:=bY fns U.fn (jo fns U)
section
variable {X:Cx} {c:Cz} (fns:Nms) (U:GG)
theorem qO(O:ao X (bY fns U.fn fm) c){f:P9->Option ME}{fe:P9->Option IE}(hf:∀e a,f e=P6 a->bd X (aH U a) e)(hE:∀e ie,fe e=P6 ie->SndE X (aa U.fn ie) e){tg iter:P9}{it:MI}(h:xn c f (DI c fe tg iter) tg iter=P6 it):gY X (cA U it) tg iter:=by
 have pl:∀{it:MI},(f iter).map MI.e=P6 it->gY X (cA U it) tg iter:=λh=>by
  obtain⟨a,ha,rfl⟩:=aL h
  first|(refine sW λZ=>?_;rw[cA];done)|(rw[show cA U (.e a)=λZ=>Bz oE (aH U a Z) by funext Z;rw[cA]];exact s_imE (hf _ _ ha))
 unfold xn at h;split at h
 ·rename_i it' hit;cases h
  first|(refine sW λZ=>?_;rw[cA];done)|(rw[show cA U (.p it')=λZ=>DX (bR U.fn it' Z) Z by funext Z;rw[cA]];exact(sI fns U.fn O hE hit).m)
 ·split at h
  ·rename_i x p a pos _;split at h
   ·rename_i hx;subst hx;split at h
    ·rename_i hg;rw[MA] at hg;obtain⟨a',ha,rfl⟩:=aL h
     first|(refine sW λZ=>?_;rw[cA];done)|(rw[show cA U (.rng a')=λZ=>Bz (gO (P6 (.sh,.int 0))) (aH U a' Z) by funext Z;rw[cA]];exact Hv O hg.1 hg.2 (hf _ _ ha))
    ·cases h
   ·split at h
    ·rename_i hx;subst hx;split at h
     ·rename_i hg;rw[MA,MA] at hg;obtain⟨a',ha,rfl⟩:=aL h
      first|(refine sW λZ=>?_;rw[cA];done)|(rw[show cA U (.enm a')=λZ=>Bz uQ (aH U a' Z) by funext Z;rw[cA]];exact s_imEnm O hg.1.1 hg.1.2 hg.2 (hf _ _ ha))
     ·cases h
    ·exact pl h
  ·exact pl h
theorem dE(f:List KD->Option KD)(fa:Ro->Option (List KD×Ro)):(λZ=>oS f (fa Z))=λZ=>(fa Z).bind λp=>(f p.1).map λq=>(q.1,q.2,p.2):=by
 funext Z;unfold oS
 cases fa Z with
 |none=>rfl
 |some p=>
  obtain⟨kds,Z'⟩:=p;dsimp only[Nm]
  cases f kds with
  |none=>rfl
  |some q=>rfl
theorem Ee(h:SndE X (aa U.fn ie) e):bd X (aH U (.p ie)) e:=by
 have:=h.m
 rw[show(λZ=>(aa U.fn ie Z).map λp=>(p.1,p.2,Z))=aH U (.p ie) by funext Z;rw[xm];unfold Ja;cases aa U.fn ie Z<;>rfl] at this
 exact this
theorem oU{f:P9->Option ME}{g:P9->Option IE}(hf:∀e a,f e=P6 a->bd X (aH U a) e)(hg:∀e a,g e=P6 a->SndE X (aa U.fn a) e):∀{es:List P9} {as:iK},mU f g es=P6 as->lJ X (aS U as) es
 |[],as,h=>by cases h
 |e::es,as,h=>by
  unfold mU at h;split at h
  ·rename_i hn;split at h
   ·rename_i r hr;obtain⟨a,ha,rfl⟩:=aL h
    rw[show aS U (.fin a r)=λZ=>eX (aH U a Z) (aJ U.fn r) by funext Z;conv=>lhs;rw[aS]]
    exact xc hn (hf _ _ ha) (dD U.fn hg hr).1
   ·split at h
    ·rename_i a r ha hr;cases h
     rw[show aS U (.cons a r)=λZ=>eW (aH U a Z) (aS U r) by funext Z;conv=>lhs;rw[aS]]
     exact sN hn (hf _ _ ha) (oU hf hg hr)
    ·cases h
  ·cases h
theorem lM{f:P9->Option ME}{g:P9->Option IE}(hf:∀e a,f e=P6 a->bd X (aH U a) e)(hg:∀e a,g e=P6 a->SndE X (aa U.fn a) e){a b:P9}{as:iK}(h:mU f g [a,b]=P6 as):lL X (aS U as) a b:=by
 unfold mU at h;split at h
 ·rename_i hn;split at h
  ·rename_i r hr;obtain⟨a',ha,rfl⟩:=aL h;unfold dC dC at hr;split at hr
   ·split at hr
    ·rename_i b' r' hb' hr';cases hr;cases hr'
     rw[show aS U (.fin a' (.cons b' .nil))=λZ=>eX (aH U a' Z) λZ=>eT (aa U.fn b' Z) (P6 []) by
      funext Z;simp only[aS,aJ]
      try rfl]
     exact DZ (hf _ _ ha) (hg _ _ hb')
    ·cases hr
   ·cases hr
  ·split at h
   ·rename_i a' r ha hr;cases h;unfold mU at hr;split at hr
    ·split at hr
     ·rename_i r' hr';cases hr';obtain⟨b',hb,rfl⟩:=aL hr
      rw[show aS U (.cons a' (.fin b' .nil))=λZ=>eW (aH U a' Z) λZ=>eX (aH U b' Z) λ_=>P6 [] by
       funext Z;simp only[aS,aJ]
       try rfl]
      exact Ab (hf _ _ ha) (hf _ _ hb)
     ·rename_i q;exact absurd q (by simp[dC])
    ·cases hr
   ·cases h
 ·cases h
theorem Ef(O:ao X Ut c){f:P9->Option ME}(hf:∀e a,f e=P6 a->bd X (aH U a) e):∀{fl:List Bool} {es:List P9} {as:MAs},BD c f fl es=P6 as->i9 X (cQ U as) es
 |fl,[],as,h=>by
  have:as=.nil:=by
   unfold BD at h;cases h;rfl
  subst this;rw[show cQ U .nil=λZ=>P6 ([],Z) by funext Z;rw[cQ]];exact Hn
 |fl,e::es,as,h=>by
  have val:∀{fl':List Bool} {as:MAs},(if ah e then(match f e,BD c f fl' es with|some a,P6 r=>P6 (MAs.val a r)|_,_=>P7) else P7)=P6 as->i9 X (cQ U as) (e::es):=λh=>by
   split at h
   ·rename_i hn;split at h
    ·rename_i a r ha hr;cases h
     rw[show cQ U (.val a r)=λZ=>sQ (aH U a Z) (cQ U r) by funext Z;conv=>lhs;rw[cQ]]
     exact Hq hn (hf _ _ ha) (Ef O hf hr)
    ·cases h
   ·cases h
  unfold BD at h;split at h
  ·rename_i q;cases q
  ·rename_i fl' x p es' q;cases q;split at h
   ·rename_i i r hi hr;cases h
    rw[show cQ U (.ref i r)=λZ=>sP i Z[i]? (cQ U r Z) by funext Z;conv=>lhs;rw[cQ]]
    exact Ho O hi (Ef O hf hr)
   ·cases h
  ·rename_i fl' e' es' q;cases q;exact val h
theorem bq(a:Evo g H g1 H1 (λ_=>False))(b:Evo g1 H1 g2 H2 F2):Evo g H g2 H2 F2:=by
 have t:=a.trans (F1:=λ_=>False) (g2:=g2) (H2:=H2) (F2:=F2) (by rw[aR λ_ z=>z];exact b);have e1:g2.minus (λ_=>False)=g2:=by funext c;exact bw λz=>z
 rw[e1] at t;exact t.drop λc z=>.inr z
theorem xo(O:ao X Ut c){f:P9->Option IE}(hf:∀e a,f e=P6 a->SndE X (aa U.fn a) e):∀(n:Nat) {e:P9} {b:BP},Ec c f n e=P6 b->mQ X b.slot (sV U.fn b) e
 |0,e,b,h=>by cases h
 |n+1,e,b,h=>by
  unfold Ec at h;split at h
  ·rename_i x p;obtain⟨i,hi,rfl⟩:=aL h;exact D3 O hi p
  ·rename_i a b' p;split at h
   ·rename_i hp;split at h
    ·rename_i q e' hq he;cases h;exact D4 O (xo O hf n hq) (hf _ _ he) hp
    ·cases h
   ·cases h
  ·rename_i a z p;split at h
   ·rename_i hb;obtain⟨q,hq,rfl⟩:=aL h;exact Hw (mC hb) (xo O hf n hq)
   ·cases h
  ·cases h
theorem Eg{m:Str}{ap cp:Pos}(h:Kj m b ap cp=P8):m∈mNames/\j7 b=P8/\(ap.endLine==cp.line)=P8:=by
 simp only[Kj,MA] at h;exact⟨by simpa using h.1.1,h.1.2,h.2⟩
theorem Kp{x:Str}(O:ao X (bx fns U) c)(h:Kk fns c x p=P6 a):bd X (aH U a) (.Name x p):=by
 unfold Kk at h;split at h
 ·cases h
 ·obtain⟨i,hi,rfl⟩:=aL h
  first|(exact f7 λ_=>rfl)|(rw[show aH U (.mv i)=uS i from funext λ_=>rfl];exact By O hi p)
 ·obtain⟨i,hi,rfl⟩:=aL h
  first|(exact f7 λ_=>rfl)|(rw[show aH U (.fz i)=uT i from funext λ_=>rfl];exact Hu O hi p)
theorem Hx(O:ao X (bx fns U) c){fM:P9->Option ME}(hM:∀e a,fM e=P6 a->bd X (aH U a) e){x:Str}{p pos:Pos}{a':P9}{es:List P9}{fl:List Bool}{i:Nat}{a:ME}(h:(BD c fM fl (a'::es)).map (.io i)=P6 a)(h1:fJ c.sc x=P8)(h2:ah a'=P8)(h3:es.all ah=P8)(hi:aN x fns.fns=P6 i):bd X (aH U a) (.Call (.Name x p) (a'::es) [] pos):=by
 obtain⟨as,ha,rfl⟩:=aL h
 first
  |(exact f7 λ_=>rfl)
  |(cases hB:U.fm i with
   |none=>
    intro Z kd d Z' hh;rw[qM,hB] at hh;cases hh
   |some B=>
    rw[show aH U (.io i as)=λZ=>DW (P6 B) (cQ U as Z) by funext Z;rw[qM,hB]];refine Kg O (B:=B) ?_ h1 h2 h3 (Ef U O hM ha);show jo fns U x=_;unfold jo;rw[hi,Nm,hB];rfl)
theorem Kq(O:ao X (bx fns U) c){fM:P9->Option ME}{fE:P9->Option IE}(hM:∀e a,fM e=P6 a->bd X (aH U a) e)(hE:∀e ie,fE e=P6 ie->SndE X (aa U.fn ie) e){x:Str}{p:Pos}{as:List P9}{pos:Pos}{a:ME}(h:Kl fns c fM fE x as=P6 a):bd X (aH U a) (.Call (.Name x p) as [] pos):=by
 cases as with
 |nil=>cases h
 |cons a' es=>
  dsimp only[Kl] at h;split at h
  ·rename_i hg;rw[MA,Nu,MA] at hg;split at h
   ·rename_i i hi;split at h
    ·rename_i fl hfl;exact Hx fns U O hM h hg.1 hg.2.1 hg.2.2 hi
    ·obtain⟨as,ha,rfl⟩:=aL h
     first
     |(exact f7 λ_=>rfl)
     |cases hB:U.fn i with
      |none=>
       intro Z kd d Z' hh;rw[qN,hB] at hh;cases hh
      |some B=>
       rw[show aH U (.fn i as)=λZ=>oS (qB B) (aS U as Z) by funext Z;rw[qN,hB],dE];refine(Kf O (B:=B) ?_ hg.1 hg.2.1 hg.2.2).m (oU U hM hE ha);show(aN x fns.fns).bind U.fn=_;rw[hi];exact hB
   ·obtain⟨as,ha,rfl⟩:=aL h
    first|(exact f7 λ_=>rfl)|(rw[show aH U (.blt x as)=λZ=>oS (eK x) (aS U as Z) by exact funext λ_=>rfl,dE];exact(oC O x a' es p pos (ce O hg.1) hg.2.1 hg.2.2).m (oU U hM hE ha))
  ·cases h
theorem Kr(O:ao X (bx fns U) c){fM:P9->Option ME}{fE:P9->Option IE}(hM:∀e a,fM e=P6 a->bd X (aH U a) e)(hE:∀e ie,fE e=P6 ie->SndE X (aa U.fn ie) e){b:P9}{m:Str}{ap cp:Pos}{as:List P9}{a:ME}(h:Km c fM fE b m ap cp as=P6 a):bd X (aH U a) (.Call (.Attribute b m ap) as [] cp):=by
 cases as with
 |nil=>cases h
 |cons e es=>cases es with
  |cons _ _=>cases h
  |nil=>
   dsimp only[Km] at h;split at h
   ·rename_i hk;rw[MA] at hk;obtain⟨h1,h2,h3⟩:=Eg hk.1;split at h
    ·rename_i e' he;obtain⟨p,hp,rfl⟩:=aL h
     first|(exact f7 λ_=>rfl)|(rw[show ∀m,aH U (.mut m p (.cons e' .nil))=λZ=>qL m p.slot (sV U.fn p Z) (eT (aa U.fn e' Z) (P6 [])) Z by intro m;funext Z;rw[mT,aJ,aJ]];exact D7 h1 (xo U O hE _ hp) (hE _ _ he) h2 hk.2 h3)
    ·split at h
     ·split at h
      ·rename_i i a' hi ha;cases h
       first|(exact f7 λ_=>rfl)|(rw[show ∀m,aH U (.mutM m i a')=λZ=>oMutM m i Z[i]? (aH U a' Z) by intro m;exact funext λ_=>rfl];exact s_mutM O h1 hi (hM _ _ ha) h2 hk.2 h3)
      ·cases h
     ·cases h
   ·cases h
theorem Ks(O:ao X (bx fns U) c){fM:P9->Option ME}{fE:P9->Option IE}(hM:∀e a,fM e=P6 a->bd X (aH U a) e)(hE:∀e ie,fE e=P6 ie->SndE X (aa U.fn ie) e){g:P9}{as:List P9}{ks:List Keyword}{pos:Pos}{a:ME}(h:Ko fns c fM fE g as ks pos=P6 a):bd X (aH U a) (.Call g as ks pos):=by
 cases ks with
 |cons _ _=>cases h
 |nil=>
  dsimp only[Ko] at h;split at h
  ·exact Kq fns U O hM hE h
  ·exact Kr fns U O hM hE h
  ·cases h
theorem sX{α:Type}{k:Qu->iK->α}{fM:P9->Option ME}{fE:P9->Option IE}{a:P9}{ops:List Qu}{bs:List P9}{r:α}(h:uV k fM fE a ops bs=P6 r):∃op b as,ops=[op]/\bs=[b]/\Qs op b=Qb/\mU fM fE [a,b]=P6 as/\r=k op as:=by
 cases ops with
 |nil=>cases h
 |cons op ops=>cases ops with
  |cons _ _=>cases h
  |nil=>cases bs with
   |nil=>cases h
   |cons b bs=>cases bs with
    |cons _ _=>cases h
    |nil=>
     dsimp only[uV] at h;split at h
     ·cases h
     ·rename_i hm;obtain⟨as,ha,rfl⟩:=aL h;exact⟨op,b,as,rfl,rfl,by simpa using hm,ha,rfl⟩
theorem sY{fM:Cz->P9->Option ME}{fE:Cz->P9->Option IE}{fT:Cz->P9->Option MT}{p:Pos}(h:uW fns c fM fE fT elt gs scope p=P6 a):∃tg iter ifs t it ts el,gs=[⟨tg,iter,ifs,0⟩]/\c9 iter=P8/\aW c scope=P8/\mH ⟨eL scope c.sc,ac scope,eR scope⟩ 4 tg=P6 t/\xn c (fM c) (DI c (fE c) tg iter) tg iter=P6 it/\jE (fT ⟨eL scope c.sc,ac scope,eR scope⟩) ifs=P6 ts/\fM ⟨eL scope c.sc,ac scope,eR scope⟩ elt=P6 el/\a=.comp ((fns.an p.line p.col).getD .fz) (aq c scope) t it ts el:=by
 cases gs with
 |nil=>cases h
 |cons g gs=>cases gs with
  |cons _ _=>cases h
  |nil=>
   dsimp only[uW] at h;split at h
   ·rename_i h0;split at h
    ·rename_i hn;rw[MA] at hn;split at h
     ·rename_i t it ts el ht hit hts hel;cases h
      cases g with
      |mk tg iter ifs as=>
       subst h0;exact⟨tg,iter,ifs,t,it,ts,el,rfl,hn.1,hn.2,ht,hit,hts,hel,rfl⟩
     ·cases h
    ·cases h
   ·cases h
theorem Eh(O:ao X Ut c){op:Qu}{as:iK}{x b:P9}{p:Pos}(hm:Qs op b=Qb)(h:lL X (aS U as) x b):fL X (bp U (.cmp op as)) (.Compare x [op] [b] p):=by
  first
    |(refine oT λZ=>?_;rw[bp];done)
    | (have:=D0 (pos:=p) O hm h
       have e:bp U (.cmp op as)=λZ=>((aS U as Z).bind λp=>(match p.1 with|[x,y]=>(aT op x.2 y.2).map λb=>(b,p.2)|_=>P7)):=by
         funext Z;rw[bp];unfold BB
         cases aS U as Z with
         |none=>rfl
         |some p=>
           obtain⟨kds,Z'⟩:=p;dsimp only[Nm]
           match kds with
           |[]=>rfl
           |[_]=>rfl
           |[x,y]=>dsimp only;cases aT op x.2 y.2<;>rfl
           |_::_::_::_=>rfl
       rw[e];exact this)
theorem fW{f:P9->Option ME}(hM:∀e a,f e=P6 a->bd X (aH U a) e){e:P9}{t:MT}(h:(f e).map MT.tru=P6 t)(hp:∀whole,isTrue e X.env whole=(do let v <- whole;standAt e.pos;holding [v] (truthy v))):fL X (bp U t) e:=by
 obtain⟨a',ha,rfl⟩:=aL h
 first|(refine oT λZ=>?_;rw[bp];done)|(rw[show bp U (.tru a')=λZ=>oTTru (aH U a' Z) by funext Z;conv=>lhs;rw[bp]];exact t_truM (hM _ _ ha) hp)
theorem oV{f:P9->Option MT}(hf:∀e t,f e=P6 t->fL X (bp U t) e){o:List P9}{io:MO}(h:jE f o=P6 io):kt X (mS U io) o:=by
 unfold jE at h;split at h
 ·cases h;have e:mS U .non=λZ=>P6 (P8,Z):=by funext Z;rw[mS]
  rw[e];exact xg
 ·obtain⟨a,ha,rfl⟩:=aL h;have e:mS U (.som a)=bp U a:=by funext Z;rw[mS]
  rw[e];exact DY (hf _ _ ha)
 ·cases h
theorem fN:∀n:Nat,(∀X c,ao X (bx fns U) c->∀e a,cM fns n c e=P6 a->bd X (aH U a) e)/\(∀X c,ao X (bx fns U) c->∀e t,vz fns n c e=P6 t->fL X (bp U t) e)
 |0=>⟨λX c O e a h=>by (cases(show(P7:Option ME)=P6 a from h)),λX c O e a h=>by (cases(show(P7:Option MT)=P6 a from h))⟩
 |n+1=>by
  obtain⟨ihM,ihT⟩:=fN n;have pure:=cx (fm:=jo fns U) fns U.fn n;refine⟨λX c O e a h=>?_,λX c O e a h=>?_⟩
  ·have hE:=pure.1 X c O;have hM:=ihM X c O;have hT:=ihT X c O
   replace h:(match cE fns n c e with|some ie=>P6 (ME.p ie)|none=>_)=P6 a:=h
   split at h
   ·rename_i ie hi;cases h;exact Ee U (hE _ _ hi)
   ·cases e with
    |Name x p=>exact Kp fns U O h
    |Call g as ks pos=>exact Ks fns U O hM hE h
    |Tuple es k p=>
     obtain⟨as,ha,rfl⟩:=aL (show(mU (cM fns n c) (cE fns n c) es).map (.tup (fns.kT p))=P6 a from h)
     first|(exact f7 λ_=>rfl)|(rw[show ∀k,aH U (.tup k as)=λZ=>oS (λkds=>gJ k (P6 kds)) (aS U as Z) by intro k;exact funext λ_=>rfl,dE];exact n_tup.m (oU U hM hE ha))
    |List es p=>
     obtain⟨as,ha,rfl⟩:=aL (show(mU (cM fns n c) (cE fns n c) es).map (.lst (fns.kL p))=P6 a from h)
     first|(exact f7 λ_=>rfl)|(rw[show ∀k,aH U (.lst k as)=λZ=>oS (λkds=>uO k (P6 kds)) (aS U as Z) by intro k;exact funext λ_=>rfl,dE];exact n_lst.m (oU U hM hE ha))
    |BinOp x op y p=>
     obtain⟨as,ha,rfl⟩:=aL (show(mU (cM fns n c) (cE fns n c) [x,y]).map (.bin op)=P6 a from h)
     first|(exact f7 λ_=>rfl)|(rw[show ∀op,aH U (.bin op as)=λZ=>oS (f2 (eJ op)) (aS U as Z) by intro k;exact funext λ_=>rfl,dE];exact n_bin.m (lM U hM hE ha))
    |Compare x ops bs p=>
     obtain⟨op,b,as,rfl,rfl,hm,ha,rfl⟩:=sX (show uV ME.cmp (cM fns n c) (cE fns n c) x ops bs=P6 a from h)
     first|(exact f7 λ_=>rfl)|(rw[show ∀op,aH U (.cmp op as)=λZ=>oS (f2 λx y=>bV (aT op x.2 y.2)) (aS U as Z) by intro k;exact funext λ_=>rfl,dE];exact(Ht O hm).m (lM U hM hE ha))
    |Subscript x b p=>
     dsimp only at h;split at h
     ·rename_i hp;obtain⟨as,ha,rfl⟩:=aL h
      first|(exact f7 λ_=>rfl)|(rw[show aH U (.ix as)=λZ=>oS (f2 IZ) (aS U as Z) by exact funext λ_=>rfl,dE];exact(Ke O hp).m (lM U hM hE ha))
     ·split at h
      ·rename_i hi hhi;obtain⟨p2,rfl⟩:=Ah hhi;obtain⟨as,ha,rfl⟩:=aL h
       first|(exact f7 λ_=>rfl)|(rw[show aH U (.slh as)=λZ=>oS (f2 fSlh) (aS U as Z) by exact funext λ_=>rfl,dE];exact n_slh.m (lM U hM hE ha))
      ·cases h
    |IfExp t x b p=>
     dsimp only at h;split at h
     ·rename_i t' a' b' ht ha hb;cases h
      first|(exact f7 λ_=>rfl)|(rw[show aH U (.ifx t' a' b')=λZ=>oIfM (bp U t' Z) (aH U a') (aH U b') by exact funext λ_=>rfl];exact s_ifM (hT _ _ ht) (hM _ _ ha) (hM _ _ hb))
     ·cases h
    |ListComp elt gs scope p=>
     obtain⟨tg,iter,ifs,t,it,ts,el,rfl,hn1,hn2,ht,hit,hts,hel,rfl⟩:=sY fns (show uW fns c (cM fns n) (cE fns n) (vz fns n) elt gs scope p=P6 a from h);have CO:=cr O hn2
     first|(exact f7 λ_=>rfl)|(rw[show ∀r cap,aH U (.comp r cap t it ts el)=λZ=>eZ r (cA U it Z) (fy cap t (mS U ts) (aH U el)) cap by intro r cap;exact funext λ_=>rfl];exact sU O hn2 hn1 (qO fns U O hM hE hit) ht (λC s H ex=>oV U (ihT _ _ (CO C s H ex)) hts) (λC s H ex=>ihM _ _ (CO C s H ex) _ _ hel))
    |_=>cases h
  ·have hE:=pure.1 X c O;have hM:=ihM X c O;have hT:=ihT X c O
   replace h:(match cT fns n c e with|some ie=>(match fns.vw e.pos.line e.pos.col with|[]=>P6 (MT.p ie)|i::is=>P6 (MT.vw (i::is) ie))|none=>_)=P6 a:=h
   split at h
   ·rename_i ie hi;split at h
    ·cases h;have:=(pure.2 X c O _ _ hi).m
     rw[show(λZ=>(aC U.fn ie Z).map λp=>(p,Z))=bp U (.p ie) by funext Z;rw[bp];unfold Kh;cases aC U.fn ie Z<;>rfl] at this
     exact this
    ·rename_i i is _;cases h
     first|(refine oT λZ=>?_;rw[bp];done)|(rw[show bp U (.vw (i::is) ie)=λZ=>Kh (aC U.fn ie (frzN (i::is) Z)) Z by funext Z;rw[bp]];exact t_vw (pure.2 X c O _ _ hi))
   ·cases e with
    |Compare x ops bs p=>
     obtain⟨op,b,as,rfl,rfl,hm,ha,rfl⟩:=sX (show uV MT.cmp (cM fns n c) (cE fns n c) x ops bs=P6 a from h);exact Eh U O hm (lM U hM hE ha)
    |UnaryOp op x p=>cases op with
     |Not=>
      obtain⟨t,ht,rfl⟩:=aL (show(vz fns n c x).map .not=P6 a from h)
      first|(refine oT λZ=>?_;rw[bp];done)|(rw[show bp U (.not t)=λZ=>match bp U t Z with|some (b,Z')=>P6 (!b,Z')|none=>P7 by funext Z;conv=>lhs;rw[bp]];exact t_notM (hT _ _ ht))
     |_=>cases h
    |BoolOp op es p=>
     obtain⟨ts,ht,rfl⟩:=aL (show(Ki (vz fns n c) es).map (.bool op)=P6 a from h)
     first|(refine oT λZ=>?_;rw[bp];done)|(rw[show ∀op,bp U (.bool op ts)=BC U op ts by intro op;funext Z;conv=>lhs;rw[bp]];exact λZ b Z' h g Y H Q se q=>λpins s I=>w_boolM U hT _ _ ht Z b Z' h g Y H Q se q _ pins s I)
    |Call f as ks p=>exact fW U hM (show(cM fns n c (.Call f as ks p)).map .tru=P6 a from h) (λ_=>rfl)
    |Subscript x b p=>exact fW U hM (show(cM fns n c (.Subscript x b p)).map .tru=P6 a from h) (λ_=>rfl)
    |Name x p=>exact fW U hM (show(cM fns n c (.Name x p)).map .tru=P6 a from h) (λ_=>rfl)
    |Constant k j p=>exact fW U hM (show(cM fns n c (.Constant k j p)).map .tru=P6 a from h) (λ_=>rfl)
    |_=>cases h
end
end J
namespace J
open PySem PySem.Spec L2
inductive Res where
 |nx (Z:Ro)|rt (kd:Kd) (d:D) (Z:Ro)|ct (Z:Ro)|bk (Z:Ro)
noncomputable def PinOk(pn:List Nat)(Y Y':L2.St):Prop:=∀i∈pn,Y'[i]?=Y[i]?
noncomputable def EndM(K:Mz)(pn:List Nat)(g:Gh)(H:Hp)(Y:L2.St)(Dn:ik):Res->Prop
 |.nx Z'=>∀Y' g' H',Evo g H g' H' ii->SE K g' Z' Y' H'->PinOk pn Y Y'->Dn.nx Y' H'
 |.rt kd d Z'=>∀v Y' g' H' F,Evo g H g' H' F->SE K (g'.plus F) Z' Y' H'->PinOk pn Y Y'->VR1 K H' g' F kd d v F->Dn.rt v H'
 |.ct Z'=>∀Y' g' H',Evo g H g' H' ii->SE K g' Z' Y' H'->PinOk pn Y Y'->Dn.ct Y' H'
 |.bk Z'=>∀Y' g' H',Evo g H g' H' ii->SE K g' Z' Y' H'->PinOk pn Y Y'->Dn.bk Y' H'
noncomputable def BE(X:Cx)(st:List Ql):TS:=λDn Y H=>∀pins s,Inv X pins Y H s->Qf (Qg X.prog X.w) X.A (execs st X.env) (SP X pins Dn) X.xe s
noncomputable def Jb(X:Cx)(st:Ql):TS:=λDn Y H=>∀pins s,Inv X pins Y H s->Qf (Qg X.prog X.w) X.A (exec st X.env) (SP X pins Dn) X.xe s
theorem fP:PSs X st (BE X st):=λpins s Y H D I h=>h pins s I
theorem Hy:PS X st (Jb X st):=λpins s Y H D I h=>h pins s I
theorem cg{t:TS}(p:PS X st t){Dn:ik}{Y:L2.St}{H:Hp}(h:t Dn Y H):Jb X st Dn Y H:=λpins s I=>p pins s Y H Dn I h
theorem qP{t:TS}(p:PSs X st t){Dn:ik}{Y:L2.St}{H:Hp}(h:t Dn Y H):BE X st Dn Y H:=λpins s I=>p pins s Y H Dn I h
noncomputable def cR(X:Cx)(pn:List Nat)(f:Ro->Option Res)(st:Ql):Prop:=∀Z r,f Z=P6 r->∀g Y H Dn,SE X.K g Z Y H->EndM X.K pn g H Y Dn r->Jb X st Dn Y H
noncomputable def bZ(X:Cx)(pn:List Nat)(f:Ro->Option Res)(st:List Ql):Prop:=∀Z r,f Z=P6 r->∀g Y H Dn,SE X.K g Z Y H->EndM X.K pn g H Y Dn r->BE X st Dn Y H
section
variable {K:Mz} {H H' H1:Hp} {g g' g1:Gh} {F F1 F2:Pr} {Z:Ro} {Y Y' Y1:L2.St} {pn:List Nat}
theorem PinOk.refl:PinOk pn Y Y:=λ_ _=>rfl
theorem PinOk.trans(a:PinOk pn Y Y1)(b:PinOk pn Y1 Y2):PinOk pn Y Y2:=λi h=>(b i h).trans (a i h)
theorem PinOk.set{i:Nat}(h:i∉pn):PinOk pn Y (Y.set i v):=λj hj=>MV λz=>h (by rw[z];exact hj)
theorem EndM.from(h:EndM K pn g H Y Dn r)(ev:Evo g H g1 H1 ii)(pk:PinOk pn Y Y1):EndM K pn g1 H1 Y1 Dn r:=by
 cases r with
 |nx Z'=>exact λY' g' H' e s p=>h Y' g' H' (bq ev e) s (pk.trans p)
 |rt kd d Z'=>exact λv Y' g' H' F e s p r=>h v Y' g' H' F (bq ev e) s (pk.trans p) r
 |ct Z'=>exact λY' g' H' e s p=>h Y' g' H' (bq ev e) s (pk.trans p)
 |bk Z'=>exact λY' g' H' e s p=>h Y' g' H' (bq ev e) s (pk.trans p)
theorem Hz{i:Nat}{S:Pr}(ev:Evo g H g1 H1 F)(se:SE K (g1.plus F) Z Y H1)(hF:∀b,F b↔F1 b\/F2 b)(dj:∀b,F1 b->¬F2 b)(hS:∀b,Sx g1 F b->S b)(t:Tr K H1 S d k v F1) :
  Evo g H (g1.give F1 i) H1 F2/\SE K ((g1.give F1 i).plus F2) (Z.set i (P6 ⟨Qb,k,d⟩)) (Y.set i (P6 v)) H1/\∀b,Sx (g1.give F1 i) F2 b↔Sx g1 F b:=by
 have n1:∀b,F1 b->g1 b=P7:=λb z=>(ev.tmp b ((hF b).mpr (.inl z))).1
 have hs:∀b,Sx (g1.give F1 i) F2 b↔Sx g1 F b:=λb=>by
  unfold Sx;rw[hF b];constructor
  ·rintro (z|z)
   ·exact(give_S.mp z).imp id .inl
   ·exact .inr (.inr z)
  ·rintro (z|z|z)
   ·exact .inl (give_S.mpr (.inl z))
   ·exact .inl (give_S.mpr (.inr z))
   ·exact .inr z
 have hp:∀b,Sg ((g1.give F1 i).plus F2) b↔Sx g1 F b:=λb=>(am b).trans (hs b);have sub:∀b,Sg ((g1.give F1 i).plus F2) b->Sg (g1.plus F) b:=λb z=>(am b).mpr ((hp b).mp z);refine⟨⟨ev.keep,λb=>⟨λe=>?_,λe=>?_⟩,λb j e=>?_,λb z=>?_,ev.dom⟩,⟨λj sl e=>?_,λb z=>se.mu b (sub b z),by simp[se.len]⟩,hs⟩
 ·have:=(ev.out b).mp e;rw[bm (λz=>by rw[n1 b z] at this;cases this)];exact this
 ·by_cases z:F1 b
  ·rw[g7 z] at e;cases e
  ·rw[bm z] at e;exact(ev.out b).mpr e
 ·by_cases z:F1 b
  ·exact(ev.tmp b ((hF b).mpr (.inl z))).2
  ·rw[bm z] at e;exact ev.new b j e
 ·have:=ev.tmp b ((hF b).mpr (.inr z));exact⟨by rw[bm λz1=>dj b z1 z];exact this.1,this.2⟩
 ·by_cases hj:j=i
  ·subst hj
   have hlt:j<Z.length:=by
    have:=(MJ.mp e).1;simpa using this
   rw[MW hlt] at e;cases e;refine⟨v,F1,MW (by rw[<- se.len];exact hlt),λb z=>bX (g7 z) (dj b z),t.go (λ_ _ _ e=>e) λb o _ n z=>n (hS b ((hp b).mp z))⟩
  ·rw[MV (Ne.symm hj)] at e⊢;obtain⟨w,Fj,e1,e2,e3⟩:=se.slot j sl e;refine⟨w,Fj,e1,λb z=>?_,e3.go (λ_ _ _ e=>e) λb o _ n z=>n (sub b z)⟩;have q:=bA (e2 b z);have nF:¬F b:=λz2=>by rw[(ev.tmp b z2).1] at q;cases q
   refine bX ?_ λz2=>nF ((hF b).mpr (.inr z2));rw[bm λz2=>nF ((hF b).mpr (.inl z2))];exact q
noncomputable def FK:Kd->Ow
 |.fr k=>k
 |_=>.fz
theorem VR1.tr(hb:aX kd=Qb)(h:VR1 K H g F kd d v F):Tr K H (Sx g F) d (FK kd) v F:=by
 cases kd with
 |sh=>
  have e:F=ii:=by funext b;exact propext ⟨h.1 b,λz=>z.elim⟩
  rw[show FK .sh=.fz from rfl];have:=Tr.fz h.2;rw[e] at this⊢;exact this
 |fr k=>exact h
 |bo i k=>cases hb
end
noncomputable def e6:P9->Bool
 |.ListComp ..|.SetComp ..|.DictComp ..=>Qb
 |_=>P8
theorem jF{n:Nat}(h:e6 e=P8):swapsWith e t n env=pure Qb:=by
 cases e<;>first|rfl|cases h
noncomputable def xp:P9->Bool
 |.Tuple ..=>Qb
 |_=>P8
theorem kz{k:Nat}{n:Nat}:swapsWithSole [.Tuple es k tp] e n env=pure Qb:=by
 cases e<;>rfl
theorem oW{k:Nat}(h:xp e=P8):swappedStores [.Tuple es k tp] e env=pure P7:=by
 cases e<;>first|rfl|cases h
noncomputable def kA(pn:List Nat)(i:Nat)(a:MR):Option Res:=match a with
 |some (kd,d,Z1)=>if aX (cP kd d)=P8\/i∈pn then P7 else P6 (.nx (Z1.set i (P6 ⟨Qb,FK (cP kd d),d⟩)))
 |none=>P7
section
variable {X:Cx} {U:eQ} {c:Cz} {pn:List Nat}
theorem g8{g g1:Gh}{Y:L2.St}{i:Nat}{Dn:ik}(h:kA pn i (P6 (kd,d,Z1))=P6 r)(q:EndM K pn g H Y Dn r)(ev:Evo g H g1 H1 F)(se:SE K (g1.plus F) Z1 Y H1)(vr:VR1 K H1 g1 F kd d v F):Dn.nx (Y.set i (P6 v)) H1:=by
 unfold kA at h;dsimp only at h;split at h
 ·cases h
 ·rename_i hb;cases h;rw[not_or] at hb;have vr1:=vr.im se.mu;obtain⟨c1,c2,_⟩:=Hz (i:=i) (F2:=ii) ev se (λb=>⟨.inl,λz=>z.elim id λz=>z.elim⟩) (λ_ _ z=>z) (λ_ z=>z) (vr1.tr (by simpa using hb.1));exact q _ _ H1 c1 (by rw[aR λ_ z=>z] at c2;exact c2) (PinOk.set hb.2)
theorem BF(O:ao X U c){f:Ro->MR}{x:Str}{i:Nat}{e:P9}{p pos:Pos}(hl:mx c x=P8)(hi:aN x c.N=P6 i)(hn:e6 e=P8)(hf:bd X f e):cR X pn (λZ=>kA pn i (f Z)) (.Assign [.Name x p] e pos):=by
 intro Z r h g Y H Dn se q;have l:=j3 O hl
 cases hf':f Z with
 |none=>dsimp only at h;rw[hf'] at h;cases h
 |some w=>
  obtain⟨kd,d,Z1⟩:=w;dsimp only at h;rw[hf'] at h;exact cg (pV (i:=i) (by rw[O.N];exact O.nd) (by rw[O.N];exact aK hi) l.1 av (jF hn) l.2) (hf Z kd d Z1 hf' g Y H _ se λv g1 H1 F ev se1 vr=>g8 h q ev se1 vr)
noncomputable def Ei:List Nat->vG
 |[]=>CD
 |i::is=>vH (gu i) (Ei is)
noncomputable def uX:List Nat->List D->List Ow->Ow->Ro->Ro
 |i::is,d::ds,es,r,Z=>uX is ds es.tail r (Z.set i (P6 ⟨Qb,es.headD r,d⟩))
 |_,_,_,_,Z=>Z
theorem kB{H H1:Hp}{Q:L2.St->Hp->Prop}:∀{is:List Nat} {ds:List D} {es:List Ow} {r:Ow} {vs:List V} {g1:Gh} {F S:Pr} {Z:Ro} {Y:L2.St},is.length=ds.length->(∀i∈is,i∉pn)->Evo g H g1 H1 F->SE K (g1.plus F) Z Y H1->(∀b,Sx g1 F b->S b)->TrL K H1 S ds es r vs F->PinOk pn Y0 Y->
  (∀g2 Y2,Evo g H g2 H1 ii->SE K g2 (uX is ds es r Z) Y2 H1->PinOk pn Y0 Y2->Q Y2 H1)->Ei is vs Y H1 Q
 |[],[],es,r,vs,g1,F,S,Z,Y,hl,hp,ev,se,hS,t,pk,q=>by
  unfold TrL at t;have e:F=ii:=by funext b;exact propext ⟨t.2 b,λz=>z.elim⟩
  subst e;exact⟨t.1,q g1 Y ev (by rw[aR λ_ z=>z] at se;exact se) pk⟩
 |[],_::_,_,_,_,_,_,_,_,_,hl,_,_,_,_,_,_,_=>by simp at hl
 |_::_,[],_,_,_,_,_,_,_,_,hl,_,_,_,_,_,_,_=>by simp at hl
 |i::is,d::ds,es,r,vs,g1,F,S,Z,Y,hl,hp,ev,se,hS,t,pk,q=>by
  unfold TrL at t;obtain⟨y,ys,F1,F2,rfl,hF,dj,t1,t2⟩:=t;obtain⟨c1,c2,c3⟩:=Hz (i:=i) ev se hF dj hS t1;exact⟨y,ys,rfl,kB (by simpa using hl) (λj hj=>hp j (MS _ hj)) c1 c2 (λb z=>hS b ((c3 b).mp z)) t2 (pk.trans (PinOk.set (hp i M1))) q⟩
noncomputable def iM(kd:Kd)(ds:List D):Option (List Ow×Ow):=match kd with
 |.sh=>P6 ([],.fz)
 |.fr (.own es r)=>P6 (es,r)
 |.fr .fz=>P6 ([],.fz)
 |.bo _ _=>if zk ds=P8 then P6 ([],.fz) else P7
theorem VR1.parts{H:Hp}{F:Pr}(hh:hd=.tup\/hd=.lst)(hk:iM kd ds=P6 (es,r))(m:MuOk H (Sx g F))(h:VR1 K H g F kd (.nd hd ds) v F):∃a o xs F',v=.ref a/\H a=P6 o/\du K o hd xs/\(∀b,F' b->F b)/\TrL K H (Sx g F) ds es r xs F':=by
 have fl:∀{d:List D} {xs:List V},RpL K H (Sx g F) d xs->TrL K H (Sx g F) d [] .fz xs ii:=λh=>.ofFlat (λe z=>by cases z) h
 cases kd with
 |sh=>
  cases hk;obtain⟨a,o,xs,rfl,_,g1,q1,rl⟩:=h.2.nd;exact⟨a,o,xs,ii,rfl,g1,q1,λ_ z=>z.elim,fl rl⟩
 |fr k=>
  cases k with
  |fz=>
   cases hk;obtain⟨a,o,xs,rfl,_,g1,q1,rl⟩:=(Tr.fz_inv h).2.nd;exact⟨a,o,xs,ii,rfl,g1,q1,λ_ z=>z.elim,fl rl⟩
  |own es' r'=>
   cases hk;have h':Tr K H (Sx g F) (.nd hd ds) (.own es r) v F:=h;unfold Tr at h';obtain⟨a,o,xs,F',rfl,g1,q1,_,_,hF,t⟩:=h';exact⟨a,o,xs,F',rfl,g1,q1,λb z=>(hF b).mpr (.inr z),t⟩
 |bo i k=>
  simp only[iM] at hk;split at hk
  ·rename_i hi;cases hk;obtain⟨a,o,xs,rfl,_,g1,q1,rl⟩:=h.rd.nd;exact⟨a,o,xs,ii,rfl,g1,q1,λ_ z=>z.elim,fl (rl.im m hi)⟩
  ·cases hk
noncomputable def xq(pn:List Nat)(is:List Nat)(a:MR):Option Res:=match a with
 |some (kd,.nd .tup ds,Z1)=>(match iM kd ds with|some (es,r)=>if is.length=ds.length/\(is.all λi=>!pn.contains i)=P8 then P6 (.nx (uX is ds es r Z1)) else P7|none=>P7)
 |some (kd,.nd .lst ds,Z1)=>(match iM kd ds with|some (es,r)=>if is.length=ds.length/\(is.all λi=>!pn.contains i)=P8 then P6 (.nx (uX is ds es r Z1)) else P7|none=>P7)
 |_=>P7
noncomputable def xr(c:Cz):List P9->Option (List Nat)
 |[]=>P6 []
 |.Name x _::r=>if mx c x then(match aN x c.N,xr c r with|some i,P6 is=>P6 (i::is)|_,_=>P7) else P7
 |_=>P7
theorem sZ(O:ao X U c):∀{es:List P9} {is:List Nat},xr c es=P6 is->CB X es (Ei is)/\(Qr es X.env).length=is.length/\(Qr es X.env).findIdx? (·.1)=P7
 |[],is,h=>by cases h;exact⟨rP,rfl,rfl⟩
 |e::es,is,h=>by
  cases e with
  |Name x p=>
   unfold xr at h;split at h
   ·rename_i hl;split at h
    ·rename_i i is' hi his;cases h;have l:=j3 O hl;obtain⟨g1,g2,g3⟩:=sZ O his;refine⟨nO (rO (i:=i) (by rw[O.N];exact O.nd) (by rw[O.N];exact aK hi) l.1 l.2) g1,?_,?_⟩
     ·show(Qr es X.env).length+1=_;rw[g2];rfl
     ·show((Qb,assign (.Name x p) X.env)::Qr es X.env).findIdx? (·.1)=P7;rw[Na];simp[g3]
    ·cases h
   ·cases h
  |_=>cases h
theorem HA(O:ao X U c){f:Ro->MR}{es:List P9}{is:List Nat}{k:Nat}{e:P9}{tp pos:Pos}(hf:bd X f e)(h1:xr c es=P6 is)(hn:xp e=P8):cR X pn (λZ=>xq pn is (f Z)) (.Assign [.Tuple es k tp] e pos):=by
 intro Z r h g Y H Dn se q;obtain⟨g1,g2,g3⟩:=sZ O h1
 have pin:(is.all λi=>!pn.contains i)=P8->∀i∈is,i∉pn:=λh i hi=>by
  have:=NW.mp h i hi;simpa using this
 dsimp only[xq] at h;split at h
 ·rename_i kd ds Z1 he;split at h
  ·rename_i ks r0 hk;split at h
   ·rename_i hl;cases h;refine cg (pU av (vI O.calm g1 g2 g3) kz (oW hn)) (hf Z _ _ _ he g Y H _ se λv g' H1 F ev se1 vr=>?_);obtain⟨a,o,xs,F',rfl,ga,qa,sF,t⟩:=vr.parts (.inl rfl) hk λb z=>se1.mu b ((am b).mpr z);cases(show o=_ from qa);refine⟨a,xs,rfl,.of ga,by rw[t.len,hl.1],kB hl.1 (pin hl.2) (ev.drop sF) (se1.drop sF λb z=>(ev.tmp b z).1) (λb z=>z.imp id (sF b)) t PinOk.refl λg2 Y2 e2 s2 p2=>q Y2 g2 H1 e2 s2 p2⟩
   ·cases h
  ·cases h
 ·rename_i kd ds Z1 he;split at h
  ·rename_i ks r0 hk;split at h
   ·rename_i hl;cases h;refine cg (pU av (C7 O.calm g1 g2 g3) kz (oW hn)) (hf Z _ _ _ he g Y H _ se λv g' H1 F ev se1 vr=>?_);obtain⟨a,o,xs,F',rfl,ga,qa,sF,t⟩:=vr.parts (.inr rfl) hk λb z=>se1.mu b ((am b).mpr z);cases(show o=_ from qa);refine⟨a,xs,rfl,.of ga,by rw[t.len,hl.1],kB hl.1 (pin hl.2) (ev.drop sF) (se1.drop sF λb z=>(ev.tmp b z).1) (λb z=>z.imp id (sF b)) t PinOk.refl λg2 Y2 e2 s2 p2=>q Y2 g2 H1 e2 s2 p2⟩
   ·cases h
  ·cases h
 ·cases h
noncomputable def uY(a:MR):Option Res:=match a with
 |some (kd,d,Z1)=>if aX (cP kd d)=P8 then P7 else P6 (.rt (cP kd d) d Z1)
 |none=>P7
theorem BG{f:Ro->MR}(hf:bd X f e):cR X pn (λZ=>uY (f Z)) (.Return (P6 e) pos):=by
 intro Z r h g Y H Dn se q;dsimp only[uY] at h;split at h
 ·rename_i kd d Z1 he;split at h
  ·cases h
  ·cases h;exact cg (CA av) (hf Z _ _ _ he g Y H _ se λv g1 H1 F ev se1 vr=>q v Y g1 H1 F ev se1 PinOk.refl (vr.im se1.mu))
 ·cases h
noncomputable def xt(a:MR):Option Res:=match a with
 |some (_,_,Z1)=>P6 (.nx Z1)
 |none=>P7
theorem HB{f:Ro->MR}(hn:e6 e=P8)(hf:bd X f e):cR X pn (λZ=>xt (f Z)) (.Expr e pos):=by
 intro Z r h g Y H Dn se q;dsimp only[xt] at h;split at h
 ·rename_i kd d Z1 he;cases h;refine cg (yV av (jF hn)) (hf Z _ _ _ he g Y H _ se λv g1 H1 F ev se1 vr=>q Y g1 H1 (ev.drop λ_ z=>z.elim) ?_ PinOk.refl);have:=se1.drop (F2:=ii) (λ_ z=>z.elim) λb z=>(ev.tmp b z).1;rw[aR λ_ z=>z] at this;exact this
 ·cases h
theorem HC{x:Str}{j:Nat}:cR X pn (λZ=>P6 (.nx Z)) (.Expr (.Constant (.str x) j pos) pos'):=by
 intro Z r h g Y H Dn se q;cases h;exact cg Cy (q Y g H (.refl g H) se PinOk.refl)
noncomputable def xu(t:Option (Bool×Ro))(a b:Ro->Option Res):Option Res:=match t with
 |some (P8,Z)=>a Z
 |some (Qb,Z)=>b Z
 |none=>P7
theorem HD{ft:Ro->Option (Bool×Ro)}(ht:fL X ft t)(ha:bZ X pn fa a)(hb:bZ X pn fb b):cR X pn (λZ=>xu (ft Z) fa fb) (.If t a b pos):=by
 intro Z r h g Y H Dn se q;dsimp only[xu] at h;split at h
 ·rename_i Z1 e;exact cg (Bk gG fP fP) (ht Z _ _ e g Y H _ se λg1 H1 ev se1=>vY (ha Z1 r h g1 Y H1 Dn se1 (q.from ev PinOk.refl)))
 ·rename_i Z1 e;exact cg (Bk gG fP fP) (ht Z _ _ e g Y H _ se λg1 H1 ev se1=>vX (hb Z1 r h g1 Y H1 Dn se1 (q.from ev PinOk.refl)))
 ·cases h
noncomputable def bH(a:Option Res)(b:Ro->Option Res):Option Res:=match a with
 |some (.nx Z)=>b Z
 |r=>r
theorem HE:bZ X pn (λZ=>P6 (.nx Z)) []:=by
 intro Z r h g Y H Dn se q;cases h;exact qP yS (q Y g H (.refl g H) se PinOk.refl)
theorem Ej{fa fb:Ro->Option Res}(ha:cR X pn fa s)(hb:bZ X pn fb st):bZ X pn (λZ=>bH (fa Z) fb) (s::st):=by
 intro Z r h g Y H Dn se q;dsimp only at h;refine qP (vF Hy fP) ?_
 cases e:fa Z with
 |none=>rw[e] at h;cases h
 |some ra=>
  rw[e] at h
  cases ra with
  |nx Z1=>exact ha Z _ e g Y H _ se λY1 g1 H1 ev se1 pk=>hb Z1 r h g1 Y1 H1 Dn se1 (q.from ev pk)
  |rt kd d Z1=>cases h;exact ha Z _ e g Y H _ se q
  |ct Z1=>cases h;exact ha Z _ e g Y H _ se q
  |bk Z1=>cases h;exact ha Z _ e g Y H _ se q
theorem Ek:cR X pn (λZ=>P6 (.nx Z)) (.Pass pos):=by
 intro Z r h g Y H Dn se q;cases h;exact cg yU (q Y g H (.refl g H) se PinOk.refl)
end
section
variable {X:Cx} {U:eQ} {c:Cz} {pn:List Nat}
end
end J
namespace J
open PySem PySem.Spec L2
open Classical in
noncomputable def Gh.lend(g:Gh)(bs:List Nat):Gh:=λb=>if ∃i∈bs,g b=P6 (P6 i) then P6 P7 else g b
open Classical in
noncomputable def Gh.unlend(g' g:Gh)(bs:List Nat):Gh:=λb=>if ∃i∈bs,g b=P6 (P6 i) then g b else g' b
noncomputable def clrN:List Nat->Ro->Ro
 |[],Z=>Z
 |i::is,Z=>clrN is (Z.set i P7)
noncomputable def yJ:List Nat->Ro->Ro->Ro
 |[],_,Z'=>Z'
 |i::is,Z,Z'=>yJ is Z (Z'.set i (Z[i]?).join)
section
variable {K:Mz} {H H' H1:Hp} {g g' g1:Gh} {F:Pr} {Z Z':Ro} {Y Y':L2.St} {bs:List Nat}
theorem qQ(b:Qc):Sg (g.lend bs) b↔Sg g b:=by
 unfold Gh.lend Sg;dsimp only;by_cases h:∃i∈bs,g b=P6 (P6 i)
 ·rw[if_pos h];obtain⟨i,_,e⟩:=h;simp[e]
 ·rw[if_neg h]
theorem jG{j:Nat}(h:g.lend bs b=P6 (P6 j)):g b=P6 (P6 j)/\j∉bs:=by
 unfold Gh.lend at h;split at h
 ·cases h
 ·rename_i n;exact⟨h,λz=>n ⟨j,z,h⟩⟩
theorem tf{i:Nat}(hi:i∈bs)(h:g b=P6 (P6 i)):g.lend bs b=P6 P7:=by
 unfold Gh.lend;rw[if_pos ⟨i,hi,h⟩]
theorem jH(h:∀i∈bs,g b≠P6 (P6 i)):g.lend bs b=g b:=by
 unfold Gh.lend;rw[if_neg λ⟨i,hi,e⟩=>h i hi e]
theorem kC:∀{is:List Nat} {Z:Ro},(clrN is Z).length=Z.length
 |[],_=>rfl
 |i::is,Z=>by unfold clrN;rw[kC];simp
theorem iN:∀{is:List Nat} {Z:Ro} {j:Nat} {sl:Sl},(clrN is Z)[j]?=P6 (P6 sl)->Z[j]?=P6 (P6 sl)/\j∉is
 |[],_,_,_,h=>⟨h,by simp⟩
 |i::is,Z,j,sl,h=>by
  unfold clrN at h;obtain⟨h1,h2⟩:=iN h
  have hne:j≠i:=λz=>by
   subst z
   have hlt:j<Z.length:=by
    have:=(MJ.mp h1).1;simpa using this
   rw[MW hlt] at h1;cases h1
  rw[MV (Ne.symm hne)] at h1;exact⟨h1,by simp[hne,h2]⟩
theorem tj:∀{is:List Nat} {Z Z':Ro},(yJ is Z Z').length=Z'.length
 |[],_,_=>rfl
 |i::is,Z,Z'=>by unfold yJ;rw[tj];simp
theorem oX:∀{is:List Nat} {Z Z':Ro} {j:Nat} {sl:Sl},(yJ is Z Z')[j]?=P6 (P6 sl)->(j∈is/\Z[j]?=P6 (P6 sl))\/(j∉is/\Z'[j]?=P6 (P6 sl))
 |[],_,_,_,_,h=>.inr ⟨by simp,h⟩
 |i::is,Z,Z',j,sl,h=>by
  unfold yJ at h;rcases oX h with⟨h1,h2⟩|⟨h1,h2⟩
  ·exact .inl ⟨MS _ h1,h2⟩
  ·by_cases hj:j=i
   ·subst hj
    have hlt:j<Z'.length:=by
     have:=(MJ.mp h2).1;simpa using this
    rw[MW hlt] at h2;refine .inl ⟨M1,?_⟩;have:(Z[j]?).join=P6 sl:=by simpa using h2
    cases q:Z[j]? with
    |none=>rw[q] at this;cases this
    |some o=>rw[q] at this;have:o=P6 sl:=this;rw[this]
   ·rw[MV (Ne.symm hj)] at h2;exact .inr ⟨by simp[hj,h1],h2⟩
theorem SE.clrN(h:SE K g Z Y H)(is:List Nat):SE K g (clrN is Z) Y H:=⟨λi sl e=>h.slot i sl (iN e).1,h.mu,by rw[kC];exact h.len⟩
theorem SE.lend(h:SE K g Z Y H)(bs:List Nat):SE K (g.lend bs) (J.clrN bs Z) Y H:=by
 refine⟨λi sl e=>?_,λb z=>h.mu b ((qQ b).mp z),by rw[kC];exact h.len⟩;obtain⟨e1,hn⟩:=iN e;obtain⟨v,F,q1,q2,q3⟩:=h.slot i sl e1;refine⟨v,F,q1,λb z=>?_,q3.go (λ_ _ _ e=>e) λb o _ n z=>n ((qQ b).mp z)⟩;have:=q2 b z;rw[jH λj hj e=>by rw[this] at e;cases e;exact hn hj];exact this
theorem lN(h:∃i∈bs,g b=P6 (P6 i)):g'.unlend g bs b=g b:=by unfold Gh.unlend;rw[if_pos h]
theorem cX(h:¬∃i∈bs,g b=P6 (P6 i)):g'.unlend g bs b=g' b:=by unfold Gh.unlend;rw[if_neg h]
theorem jb(h:SE K g Z Y H)(ev:Evo (g.lend bs) H g' H' F)(se:SE K (g'.plus F) Z' Y' H')(pk:PinOk bs Y Y') :
  Evo g H (g'.unlend g bs) H' F/\SE K ((g'.unlend g bs).plus F) (yJ bs Z Z') Y' H'/\∀b,Sg (g'.unlend g bs) b->Sg g' b:=by
 have ho:∀b,(∃i∈bs,g b=P6 (P6 i))->g' b=P6 P7:=λb ⟨i,hi,e⟩=>(ev.out b).mp (tf hi e)
 have sub:∀b,Sg (g'.unlend g bs) b->Sg g' b:=λb z=>by
  by_cases q:∃i∈bs,g b=P6 (P6 i)
  ·rw[Sg,ho b q];simp
  ·rw[Sg,cX q] at z;exact z
 have subp:∀b,Sg ((g'.unlend g bs).plus F) b->Sg (g'.plus F) b:=λb z=>(am b).mpr (((am b).mp z).imp (sub b) id);have hFn:∀b,F b->¬∃i∈bs,g b=P6 (P6 i):=λb z q=>by have:=ho b q;rw[(ev.tmp b z).1] at this;cases this
 refine⟨⟨λb o n e=>ev.keep b o (λi q=>n i (jG q).1) e,λb=>⟨λe=>?_,λe=>?_⟩,λb j e=>?_,λb z=>?_,ev.dom⟩,⟨λj sl e=>?_,λb z=>se.mu b (subp b z),by rw[tj];exact se.len⟩,sub⟩
 ·have n:¬∃i∈bs,g b=P6 (P6 i):=λ⟨i,_,q⟩=>by rw[e] at q;cases q
  rw[cX n];exact(ev.out b).mp (by rw[jH λi hi q=>n ⟨i,hi,q⟩];exact e)
 ·by_cases q:∃i∈bs,g b=P6 (P6 i)
  ·rw[lN q] at e;exact e
  ·rw[cX q] at e;have:=(ev.out b).mpr e;rw[jH λi hi z=>q ⟨i,hi,z⟩] at this;exact this
 ·by_cases q:∃i∈bs,g b=P6 (P6 i)
  ·obtain⟨i,_,q⟩:=q;exact .inl ⟨i,q⟩
  ·rw[cX q] at e;exact(ev.new b j e).imp (λ⟨j,z⟩=>⟨j,(jG z).1⟩) id
 ·have t:=ev.tmp b z;exact⟨by rw[cX (hFn b z)];exact t.1,t.2.imp (λ⟨j,z⟩=>⟨j,(jG z).1⟩) id⟩
 ·rcases oX e with⟨hj,e1⟩|⟨hj,e1⟩
  ·obtain⟨v,Fj,q1,q2,q3⟩:=h.slot j sl e1;refine⟨v,Fj,by rw[pk j hj];exact q1,λb z=>?_,q3.go (λb o hb e=>ev.keep b o (λi q=>?_) e) λb o e n z=>?_⟩
   ·have:∃i∈bs,g b=P6 (P6 i):=⟨j,hj,q2 b z⟩;exact bX (by rw[lN this];exact q2 b z) λz2=>hFn b z2 this
   ·obtain⟨q,hn⟩:=jG q;rcases hb with hb|hb
    ·exact hb (by rw[Sg,q];simp)
    ·rw[q2 b hb] at q;cases q;exact hn hj
   ·have gn:g b=P7:=by
     cases q:g b with
     |none=>rfl
     |some x=>exact absurd (by rw[Sg,q];simp) n
    obtain⟨f1,f2⟩:=ev.froz e (by rw[jH λi _ z=>by rw[gn] at z;cases z];exact gn);rcases(am b).mp z with z|z
    ·exact sub b z f1
    ·exact f2 z
  ·obtain⟨v,Fj,q1,q2,q3⟩:=se.slot j sl e1;refine⟨v,Fj,q1,λb z=>?_,q3.go (λ_ _ _ e=>e) λb o _ n z=>n (subp b z)⟩;have q:=bA (q2 b z);refine bX ?_ λz2=>by rw[(ev.tmp b z2).1] at q;cases q
   rw[cX λz2=>by rw[ho b z2] at q;cases q];exact q
theorem VR1.unlend(hb:aX kd=Qb)(sub:∀b,Sg g b->Sg g' b)(h:VR1 K H g' F kd d v F):VR1 K H g F kd d v F:=by
 have k2:∀b,Sx g F b->Sx g' F b:=λb z=>z.imp (sub b) id
 cases kd with
 |sh=>exact⟨h.1,h.2.weak k2⟩
 |fr k=>exact Tr.go (λ_ _ _ e=>e) (λb o _ n z=>n (k2 b z)) h
 |bo i k=>cases hb
theorem Ai{s:Src}(hp:s.P K g H1)(hf:s.from g H bs)(ev:Evo (g.lend bs) H1 gi Hi ii):s.P K gi Hi:=by
 have fz:∀b o,H1 b=P6 o->¬Sg g b->Hi b=P6 o/\¬Sg gi b:=λb o e n=>by
  have n':g.lend bs b=P7:=by
   cases q:g.lend bs b with
   |none=>rfl
   |some x=>exact absurd ((qQ b).mp (by rw[Sg,q];simp)) n
  obtain⟨f1,f2⟩:=ev.froz e n';exact⟨ev.keep b o (λi q=>by rw[n'] at q;cases q) e,λz=>z f1⟩
 refine Src.mono (g:=g) (H:=H1) (λb o e n=>(fz b o e n).2) (λb o hb e=>?_) (λa e=>hf.from_t e) hp;rcases hb with hb|hb
 ·exact(fz b o e hb).1
 ·rcases hf.from_l hb with hf|⟨i,hm,hf⟩
  ·exact(fz b o e (by rw[Sg,hf];simp)).1
  ·exact ev.keep b o (λj q=>by rw[tf hm hf] at q;cases q) e
end
noncomputable def fR(pn fg:List Nat)(tg:IT)(fb:Ro->Option Res):List D->Ro->Option Res
 |[],Z=>P6 (.nx (clrN fg Z))
 |d::ds,Z=>match pQ tg d with
  |some ps=>if(ps.all λp=>!pn.contains p.1)=P8 then(match fb (setAll ps (clrN fg Z)) with
   |some (.nx Z2)=>fR pn fg tg fb ds Z2
   |some (.ct Z2)=>fR pn fg tg fb ds Z2
   |some (.bk Z2)=>P6 (.nx (clrN fg Z2))
   |some (.rt k d Z2)=>P6 (.rt k d Z2)
   |none=>P7) else P7
  |none=>P7
noncomputable def BH(J:It)(g:TG)(tb:TS):TS:=λD Y H1=>∃W:Nat->Nat->L2.St->Hp->Prop,(∃m,W 0 m Y H1)/\∀i m Y H,W i m Y H->
 (J.stop i H/\D.nx Y H)\/(J.go i H/\∃N:L2.St->Hp->Prop,(∀Y' H',N Y' H'->∃m',m'<m/\W (i+1) m' Y' H')/\∀x H',J.yld i H x H'->g x Y H' λY2 H2=>tb { D with nx:=N,ct:=N,bk:=D.nx } Y2 H2)
section
variable {X:Cx} {U:eQ} {c:Cz} {pn:List Nat}
theorem xw{ps:List (Nat×D)}(h:RpP K H S ps vs)(hp:(ps.all λp=>!pn.contains p.1)=P8):PinOk pn Y (gQ vs Y):=λi hi=>jC h λp hp' z=>by
 have:=NW.mp hp p hp';rw[z] at this;simp[hi] at this
theorem oY(O:ao X U c){fg:List Nat}{fb:Ro->Option Res}{tg:P9}{t:IT}{n:Nat}{body:List Ql}(htg:mH c n tg=P6 t)(hb:bZ X pn fb body){jj:It}{src:Src}{ds:List D}{g g0:Gh}{bs:List Nat}{H H1:Hp}{Dn:ik}{Z:Ro}{Y:L2.St}{r:Res}
  (se:SE X.K (g.lend bs) Z Y H1) (jt:gM X.K jj src ds) (sp:src.P X.K g H1) (sf:src.from g H bs) (h:fR pn fg t fb ds Z=P6 r) (q:EndM X.K pn (g.lend bs) H1 Y Dn r) :
  BH jj (wG X tg) (BE X body) Dn Y H1:=by
 refine⟨λi m Y' H'=>m=ds.length-i/\i<=ds.length/\∃Z' g',SE X.K g' Z' Y' H'/\Evo (g.lend bs) H1 g' H' ii/\PinOk pn Y Y'/\fR pn fg t fb (ds.drop i) Z'=P6 r,
  ⟨ds.length,by simp,M4 _,Z,g.lend bs,se,.refl _ _,PinOk.refl,by simpa using h⟩,?_⟩
 rintro i m Y' H' ⟨rfl,hi',Z',g',se',ev',pk',hrest⟩
 obtain⟨j1,j2⟩:=jt i g' H' (Ai sp sf ev') se'.mu;by_cases hlt:i<ds.length
 ·have hd:ds[i]?=P6 ds[i]:=MK hlt;obtain⟨go,yl⟩:=j2 _ hd;rw[M6 hlt] at hrest;unfold fR at hrest;split at hrest
  ·rename_i ps hps;split at hrest
   ·rename_i hpn;refine .inr ⟨go,λY2 H2=>ds.length-(i+1)=ds.length-(i+1)/\i+1<=ds.length/\∃Z' g',SE X.K g' Z' Y2 H2/\Evo (g.lend bs) H1 g' H2 ii/\PinOk pn Y Y2/\fR pn fg t fb (ds.drop (i+1)) Z'=P6 r,λY2 H2 hN=>⟨ds.length-(i+1),by lia,hN⟩,λx H2 hy=>?_⟩;obtain⟨s2,rx⟩:=yl x H2 hy;refine sd (oI O n htg) (gR hps rx λvs hvs=>?_);have se2:=SE.setAll hvs ((se'.clrN fg).same s2);have ev2:Evo (g.lend bs) H1 g' H2 ii:=bq ev' (de s2 (λ_ z=>z.elim) λ_ z=>z.elim);have pk2:=pk'.trans (xw (Y:=Y') hvs hpn);split at hrest
    ·rename_i Z2 hbody;exact hb _ _ hbody g' _ H2 _ se2 λY4 g4 H4 ev4 se4 pk4=>⟨rfl,hlt,Z2,g4,se4,bq ev2 ev4,pk2.trans pk4,hrest⟩
    ·rename_i Z2 hbody;exact hb _ _ hbody g' _ H2 _ se2 λY4 g4 H4 ev4 se4 pk4=>⟨rfl,hlt,Z2,g4,se4,bq ev2 ev4,pk2.trans pk4,hrest⟩
    ·rename_i Z2 hbody;cases hrest;exact hb _ _ hbody g' _ H2 _ se2 λY4 g4 H4 ev4 se4 pk4=>q Y4 g4 H4 (bq ev2 ev4) (se4.clrN fg) (pk2.trans pk4)
    ·rename_i k d Z2 hbody;cases hrest;exact hb _ _ hbody g' _ H2 _ se2 λv Y4 g4 H4 F4 ev4 se4 pk4 r4=>q v Y4 g4 H4 F4 (bq ev2 ev4) se4 (pk2.trans pk4) r4
    ·cases hrest
   ·cases hrest
  ·cases hrest
 ·have e:i=ds.length:=by lia
  subst e;rw[Oo] at hrest;cases hrest;exact .inl ⟨j1 (MH _),q Y' g' H' ev' (se'.clrN fg) pk'⟩
noncomputable def xx(bs:List Nat)(Z:Ro)(r:Option Res):Option Res:=match r with
 |some (.nx Z')=>P6 (.nx (yJ bs Z Z'))
 |some (.rt k d Z')=>if aX k=P8 then P7 else P6 (.rt k d (yJ bs Z Z'))
 |_=>P7
noncomputable def oZ(pn fg:List Nat)(tg:IT)(fb:List Nat->Ro->Option Res)(it:IR):Option Res:=match it with
 |some (bs,ds,Z)=>xx bs Z (fR (pn++bs) fg tg (fb (pn++bs)) ds (clrN bs Z))
 |none=>P7
theorem PinOk.left{a b:List Nat}(h:PinOk (a++b) Y Y'):PinOk a Y Y':=λi hi=>h i (N8 _ hi)
theorem PinOk.right{a b:List Nat}(h:PinOk (a++b) Y Y'):PinOk b Y Y':=λi hi=>h i (MN _ hi)
theorem El(O:ao X U c)(hp:PassesOwn (Qg X.prog X.w) X.A X.env X.xe){fg:List Nat}{fi:Ro->IR}{fb:List Nat->Ro->Option Res}{tg iter:P9}{t:IT}{n:Nat}{body:List Ql}{pos:Pos}(htg:mH c n tg=P6 t)(hi:gY X fi tg iter)(hb:∀pn,bZ X pn (fb pn) body)(hs:c9 iter=P8) :
  cR X pn (λZ=>oZ pn fg t fb (fi Z)) (.For tg iter body [] pos):=by
 intro Z r h g Y H Dn se q;dsimp only[oZ] at h;split at h
 ·rename_i bs ds Z0 hit;refine cg (CI hp O.calm uJ uK fP (cW hs)) (hi Z bs ds Z0 hit g Y H _ se λjj src g1 H1 ev1 se1 jt sp sf=>?_);have q1:=q.from ev1 PinOk.refl;show BH jj (wG X tg) (BE X body) Dn Y H1;unfold xx at h;split at h
  ·rename_i Z' hf;cases h;refine oY (g0:=g1) O htg (hb _) (se1.lend bs) jt sp sf hf λY' g' H' ev se' pk=>?_;obtain⟨c1,c2,_⟩:=jb (F:=ii) se1 ev (by rw[aR λ_ z=>z];exact se') pk.right;exact q1 Y' _ H' c1 (by rw[aR λ_ z=>z] at c2;exact c2) pk.left
  ·rename_i k d Z' hf;split at h
   ·cases h
   ·rename_i hk;cases h;refine oY (g0:=g1) O htg (hb _) (se1.lend bs) jt sp sf hf λv Y' g' H' F ev se' pk vr=>?_;obtain⟨c1,c2,c3⟩:=jb se1 ev se' pk.right;exact q1 v Y' _ H' F c1 c2 pk.left (vr.unlend (by simpa using hk) c3)
  ·cases h
 ·cases h
noncomputable def jp(fg:List Nat)(ft:Ro->Option (Bool×Ro))(fb:Ro->Option Res):Nat->Ro->Option Res
 |0,_=>P7
 |n+1,Z=>match ft (clrN fg Z) with
  |some (Qb,Z1)=>P6 (.nx Z1)
  |some (P8,Z1)=>(match fb Z1 with
   |some (.nx Z2)=>jp fg ft fb n Z2
   |some (.ct Z2)=>jp fg ft fb n Z2
   |some (.bk Z2)=>P6 (.nx (clrN fg Z2))
   |some (.rt k d Z2)=>P6 (.rt k d Z2)
   |none=>P7)
  |none=>P7
theorem HF(hp:PassesOwn (Qg X.prog X.w) X.A X.env X.xe){fg:List Nat}{ft:Ro->Option (Bool×Ro)}{fb:Ro->Option Res}{t:P9}{body:List Ql}{pos:Pos}(ht:fL X ft t)(hb:bZ X pn fb body)(n:Nat):cR X pn (jp fg ft fb n) (.While t body [] pos):=by
 intro Z r h g Y H Dn se q;refine cg (vJ hp gG fP) ⟨λm Y' H'=>∃Z' g',SE X.K g' Z' Y' H'/\Evo g H g' H' ii/\PinOk pn Y Y'/\jp fg ft fb m Z'=P6 r,⟨n,Z,g,se,.refl g H,PinOk.refl,h⟩,?_⟩
 rintro m Y' H' ⟨Z',g',se',ev',pk',hr⟩
 cases m with
 |zero=>cases hr
 |succ m=>
  unfold jp at hr;split at hr
  ·rename_i Z1 e;cases hr
   exact ht _ _ _ e g' Y' H' _ (se'.clrN fg) λg1 H1 ev1 se1=>by
    rw[if_neg (by decide)];exact q Y' g1 H1 (bq ev' ev1) se1 pk'
  ·rename_i Z1 e;refine ht _ _ _ e g' Y' H' _ (se'.clrN fg) λg1 H1 ev1 se1=>?_;rw[if_pos rfl];refine⟨λY2 H2=>∃Z2 g2,SE X.K g2 Z2 Y2 H2/\Evo g H g2 H2 ii/\PinOk pn Y Y2/\jp fg ft fb m Z2=P6 r,λY2 H2 hN=>⟨m,Nz m,hN⟩,?_⟩;have ev2:=bq ev' ev1;split at hr
   ·rename_i Z2 hbody;exact hb _ _ hbody g1 Y' H1 _ se1 λY4 g4 H4 ev4 se4 pk4=>⟨Z2,g4,se4,bq ev2 ev4,pk'.trans pk4,hr⟩
   ·rename_i Z2 hbody;exact hb _ _ hbody g1 Y' H1 _ se1 λY4 g4 H4 ev4 se4 pk4=>⟨Z2,g4,se4,bq ev2 ev4,pk'.trans pk4,hr⟩
   ·rename_i Z2 hbody;cases hr;exact hb _ _ hbody g1 Y' H1 _ se1 λY4 g4 H4 ev4 se4 pk4=>q Y4 g4 H4 (bq ev2 ev4) (se4.clrN fg) (pk'.trans pk4)
   ·rename_i k d Z2 hbody;cases hr;exact hb _ _ hbody g1 Y' H1 _ se1 λv Y4 g4 H4 F4 ev4 se4 pk4 r4=>q v Y4 g4 H4 F4 (bq ev2 ev4) se4 (pk'.trans pk4) r4
   ·cases hr
  ·cases hr
theorem HG{f:Ro->Option Res}(is:List Nat)(h:cR X pn f st):cR X pn (λZ=>f (frzN is Z)) st:=by
 intro Z r hr g Y H Dn se q;obtain⟨g',s1,e1⟩:=SE.frzN is se;exact h _ r hr g' Y H Dn s1 (q.from e1 PinOk.refl)
end
end J
namespace J
open PySem PySem.Spec L2
section
variable {X:Cx} {U:eQ} {c:Cz} {pn:List Nat}
end
end J
namespace J
open PySem PySem.Spec L2
section
variable {K:Mz} {H:Hp} {S S':Pr}
end
section
variable {K:Mz} {H H0:Hp} {g:Gh}
end
end J
namespace J
open PySem PySem.Spec L2
end J
namespace J
open PySem PySem.Spec L2
theorem lO(b:List Ql)(env:Env):∀a:List Ql,execs (a++b) env=(execs a env >>= λf=>match f with|.next=>execs b env|f=>pure f)
 |[]=>by
  show execs b env=((pure .next:Sem Flow) >>= _)
  rw[pure_bind]
 |st::a=>by
  show execs (st::(a++b)) env=_;rw[execs_cons,execs_cons,bind_assoc];congr 1;funext f
  cases f with
  |next=>exact lO b env a
  |_=>rw[pure_bind]
theorem Aj{a b:List Ql}{Y:L2.St}(h:BE X a { Dn with nx:=λY H=>BE X b Dn Y H } Y H):BE X (a++b) Dn Y H:=by
 intro pins s I;rw[lO];refine Qe (aV (h pins s I) λf s1 q=>?_)
 cases f with
 |next=>
  obtain⟨Y',H',I',q⟩:=q;exact q pins s1 I'
 |_=>exact Qh q
section
variable {X:Cx} {U:eQ} {c:Cz} {pn:List Nat}
end
end J
namespace J
open PySem PySem.Spec L2
section
variable {X:Cx} {U:eQ} {c:Cz}
end
section
variable {X:Cx} {U:eQ} {c:Cz}
end
end J
namespace J
open PySem PySem.Spec L2
theorem mV{κ:Type}[DecidableEq κ]{v:V}:∀(kvs:List (κ×V)) (k:κ) (j:Nat),(kvs.map (·.1)).Nodup->kvs.findIdx? (λkv=>decide (kv.1=k))=P6 j->(kvs.map (λkv=>if kv.1=k then(kv.1,v) else kv)).map (·.2)=(kvs.map (·.2)).set j v
 |[],k,j,_,h=>by simp at h
 |(a,b)::r,k,j,hn,h=>by
  rw[Na] at h;rw[MU,M3] at hn;by_cases e:a=k
  ·subst e;simp at h;subst h
   have:r.map (λkv=>if kv.1=a then(kv.1,v) else kv)=r:=by
    conv=>rhs;rw[<- List.map_id r]
    refine Ox λkv hk=>?_;rw[if_neg λz=>hn.1 (M2.mpr ⟨kv,hk,z⟩)];rfl
   simp[this]
  ·simp only[e,decide_false] at h;obtain⟨j',h',rfl⟩:=aL (by simpa using h);have:=mV (v:=v) r k j' hn.2 h';simp only[MU,e,if_false,OC,this]
theorem tq{κ:Type}[DecidableEq κ]{v:V}(kvs:List (κ×V))(k:κ):(kvs.map (λkv=>if kv.1=k then(kv.1,v) else kv)).map (·.1)=kvs.map (·.1):=by
 rw[M5];refine Ox λkv _=>?_;simp only[Function.comp]
 split<;>rfl
theorem cC{κ:Type}[DecidableEq κ]{kvs:List (κ×V)}{k:κ}:(kvs.any λkv=>decide (kv.1=k))=(kvs.findIdx? λkv=>decide (kv.1=k)).isSome:=by
 rw[List.findIdx?_isSome]
theorem iO{α β:Type}{f:α->β}:∀{l:List α},(l.map f).Nodup->l.Nodup
 |[],_=>.nil
 |a::l,h=>by
  rw[MU,M3] at h;exact M3.mpr ⟨λz=>h.1 (Pv z),iO h.2⟩
theorem tu{H:Hp}{t:Nat}{ks:List DK}{xs:List V}{k:DK}{y v:V}(g:H a=P6 o)(q:du K o (.dic t ks) xs)(h:j0 d=P6 k)(r:Rp K H S d y)(hk:iy t k=P8)(hz:xs.length<sizeLine) :
  (∀j,aI ks k=P6 j->ks.Nodup->∃o':Nat->HO,DPut H a y v (λe=>upd H a (o' e))/\∀e,(∀xs,o' e≠.tup xs)/\du K (o' e) (.dic t ks) (xs.set j v))/\(aI ks k=P7->∃o':Nat->HO,DPut H a y v (λe=>upd H a (o' e))/\∀e,(∀xs,o' e≠.tup xs)/\du K (o' e) (.dic t (ks++[k])) (xs++[v])):=by
 rcases q with⟨rfl,kvs,rfl,e1,e2⟩|⟨m,rfl,kvs,ep,rfl,e1,e2⟩
 ·rcases mt h r with⟨x,rfl,rfl⟩|⟨ys,b,rfl,rfl,gb⟩
  ·have e3:aI ks (.inl x)=kvs.findIdx? λkv=>decide (kv.1=x):=by
    unfold aI;rw[e1,N5];congr 1;funext p;simp[Sum.inl.injEq]
   have hl:kvs.length<sizeLine:=by rw[e2] at hz;simpa using hz
   have dp:=DPut.k (k:=x) (v:=v) g hl;refine⟨λj hj hn=>⟨λ_=>.dK (bv kvs x v),dp,λ_=>⟨(λxs h=>by cases h),.inl ⟨rfl,_,rfl,?_,?_⟩⟩⟩,λhj=>⟨λ_=>.dK (bv kvs x v),dp,λ_=>⟨(λxs h=>by cases h),.inl ⟨rfl,_,rfl,?_,?_⟩⟩⟩⟩
   ·rw[e3] at hj;unfold bv;rw[cC,hj,if_pos (by rfl),e1];have:=congrArg (PY (Sum.inl:aw->DK)) (tq (v:=v) kvs x);simp only[M5] at this⊢;exact this.symm
   ·rw[e3] at hj;unfold bv;rw[cC,hj,if_pos (by rfl),e2]
    have hn':(kvs.map (·.1)).Nodup:=by
     rw[e1] at hn;have:kvs.map (λp=>(Sum.inl p.1:DK))=(kvs.map (·.1)).map Sum.inl:=by rw[M5];rfl
     rw[this] at hn;exact iO hn
    exact(mV kvs x j hn' hj).symm
   ·rw[e3] at hj;unfold bv;rw[cC,hj,if_neg (by simp),e1];simp
   ·rw[e3] at hj;unfold bv;rw[cC,hj,if_neg (by simp),e2];simp
  ·cases hk
 ·rcases mt h r with⟨x,rfl,rfl⟩|⟨ys,b,rfl,rfl,gb⟩
  ·cases hk
  ·have e3:aI ks (.inr ys)=kvs.findIdx? λkv=>decide (kv.1=ys):=by
    unfold aI;rw[e1,N5];congr 1;funext p;simp[Sum.inr.injEq]
   have hl:kvs.length<sizeLine:=by rw[e2] at hz;simpa using hz
   have dp:=DPut.t (k:=ys) (v:=v) g (gb m hk) hl;refine⟨λj hj hn=>⟨λe=>.dT m e (bv kvs ys v),dp,λe=>⟨(λxs h=>by cases h),.inr ⟨m,rfl,_,e,rfl,?_,?_⟩⟩⟩,λhj=>⟨λe=>.dT m e (bv kvs ys v),dp,λe=>⟨(λxs h=>by cases h),.inr ⟨m,rfl,_,e,rfl,?_,?_⟩⟩⟩⟩
   ·rw[e3] at hj;unfold bv;rw[cC,hj,if_pos (by rfl),e1];have:=congrArg (PY (Sum.inr:List (aw ⊕ List aw)->DK)) (tq (v:=v) kvs ys);simp only[M5] at this⊢;exact this.symm
   ·rw[e3] at hj;unfold bv;rw[cC,hj,if_pos (by rfl),e2]
    have hn':(kvs.map (·.1)).Nodup:=by
     rw[e1] at hn;have:kvs.map (λp=>(Sum.inr p.1:DK))=(kvs.map (·.1)).map Sum.inr:=by rw[M5];rfl
     rw[this] at hn;exact iO hn
    exact(mV kvs ys j hn' hj).symm
   ·rw[e3] at hj;unfold bv;rw[cC,hj,if_neg (by simp),e1];simp
   ·rw[e3] at hj;unfold bv;rw[cC,hj,if_neg (by simp),e2];simp
section
variable {K:Mz} {H:Hp} {S:Pr}
theorem TrL.setAt:∀{ds:List D} {es:List Ow} {r:Ow} {xs:List V} {F F2:Pr} {j:Nat} {d:D} {v:V},TrL K H S ds es r xs F->j<ds.length->Tr K H S d (es.getD j r) v F2->(∀b,F b->¬F2 b)->∃F3:Pr,(∀b,F3 b->F b\/F2 b)/\TrL K H S (ds.set j d) es r (xs.set j v) F3
 |[],_,_,_,_,_,_,_,_,_,hj,_,_=>by simp at hj
 |d0::ds,es,r,xs,F,F2,0,d,v,h,hj,t,dj=>by
  unfold TrL at h;obtain⟨y,ys,F1,F3,rfl,hF,dj1,h1,h2⟩:=h;refine⟨λb=>F2 b\/F3 b,λb z=>z.elim .inr λz=>.inl ((hF b).mpr (.inr z)),?_⟩;show TrL K H S (d::ds) es r (v::ys) _;unfold TrL
  exact⟨v,ys,F2,F3,rfl,λb=>Iff.rfl,λb z1 z2=>dj b ((hF b).mpr (.inr z2)) z1,by cases es<;>simpa using t,h2⟩
 |d0::ds,es,r,xs,F,F2,j+1,d,v,h,hj,t,dj=>by
  unfold TrL at h;obtain⟨y,ys,F1,F3,rfl,hF,dj1,h1,h2⟩:=h
  have eg:es.tail.getD j r=es.getD (j+1) r:=by cases es<;>simp
  obtain⟨F4,a1,a2⟩:=TrL.setAt (j:=j) (d:=d) (v:=v) (F2:=F2) h2 (by simpa using hj) (by rw[eg];exact t) λb z=>dj b ((hF b).mpr (.inr z));refine⟨λb=>F1 b\/F4 b,λb z=>z.elim (λz=>.inl ((hF b).mpr (.inl z))) λz=>(a1 b z).imp (λz=>(hF b).mpr (.inr z)) id,?_⟩;show TrL K H S (d0::ds.set j d) es r (y::ys.set j v) _;unfold TrL;refine⟨y,_,F1,F4,rfl,λb=>Iff.rfl,λb z1 z2=>?_,h1,a2⟩;rcases a1 b z2 with z|z
  ·exact dj1 b z1 z
  ·exact dj b ((hF b).mpr (.inl z1)) z
end
noncomputable def lc(es:List Ow)(r:Ow)(hd:Hd)(ds:List D)(dx:D)(x:KD):Option (Hd×List D):=match hd with
 |.lst=>(match dx with|.int z=>(match jv ds.length z with|some j=>if bB (es.getD j r) x=P8 then P6 (.lst,ds.set j x.2) else P7|none=>P7)|_=>P7)
 |.dic t ks=>(match j0 dx with
  |some k=>if iy t k=P8/\ds.length<100000 then(match aI ks k with
   |some j=>if bB (es.getD j r) x=P8/\ks.Nodup/\j<ds.length then P6 (.dic t ks,ds.set j x.2) else P7
   |none=>if es.length<=ds.length/\bB r x=P8 then P6 (.dic t (ks++[k]),ds++[x.2]) else P7) else P7
  |none=>P7)
 |_=>P7
noncomputable def uZ(i:Nat)(fp:Ro->Option (Ow×D×(D->D)))(fk:Ro->Option KD)(a:MR):Option Res:=match a with
 |some (kd,d,Z1)=>(match fp Z1,fk Z1,Z1[i]? with
  |some (.own es r,.nd hd ds,up),P6 (_,dx),P6 (P6 ⟨Qb,k,_⟩)=>(match lc es r hd ds dx (cP kd d,d) with
   |some (hd',ds')=>P6 (.nx (Z1.set i (P6 ⟨Qb,k,up (.nd hd' ds')⟩)))
   |none=>P7)
  |_,_,_=>P7)
 |none=>P7
theorem u0{n:Nat}:swapsWithSole [.Subscript o b sp] e n env=pure Qb:=by
 cases e<;>rfl
theorem Ak:swappedStores [.Subscript o b sp] e env=pure P7:=by
 cases e<;>rfl
section
variable {X:Cx} {U:eQ} {c:Cz} {pn:List Nat}
theorem xy{H H0:Hp}{g g0:Gh}{Z:Ro}{i:Nat}{up:D->D}{xs:List V}{x:KD}{Dn:ik}(hpd:lc es r hd ds dx x=P6 (hd',ds'))(nd:mR K H g F Z Y i k es r hd ds up a o xs F')(ev:Evo g0 H0 g H F)(se:SE K (g.plus F) Z Y H)(vr:VR1 K H g F x.1 x.2 v F)(ry:Rp K H S dx y)(q:EndM K pn g0 H0 Y Dn (.nx (Z.set i (P6 ⟨Qb,k,up (.nd hd' ds')⟩)))) :
  (∃z j,hd=.lst/\y=.int z/\o=.lst xs/\H a=P6 o/\jv xs.length z=P6 j/\Dn.nx Y (upd H a (.lst (xs.set j v))))\/((∃t ks,hd=.dic t ks)/\∃F4,DPut H a y v F4/\∀e,Dn.nx Y (F4 e)):=by
 have hF:∀b,F b->g b=P7:=λb z=>(ev.tmp b z).1;have mm:MuOk H (Sx g F):=λb z=>se.mu b ((am b).mpr z);have sub:∀(F2:Pr),(∀b,F2 b->F b)->∀b,Sg (g.give F2 i) b->Sg (g.plus F) b:=λF2 s2 b z=>(am b).mpr ((give_S.mp z).imp id (s2 b))
 have fin:∀{kc:Ow},bB kc x=P8->∃F2:Pr,(∀b,F2 b->F b)/\Tr K H (Sg (g.give F2 i)) x.2 kc v F2/\(∀b,F' b->¬F2 b):=λ{kc} hf=>by
  obtain⟨F2,a1,a2⟩:=VR1.fit (p:=x) hf mm hF (λb z=>z) vr;refine⟨F2,a1,a2 _ λb z=>?_,λb z1 z2=>by have:=nd.lab b z1;rw[hF b (a1 b z2)] at this;cases this⟩;exact(give_S.mp z).elim (λz=>.inr (.inl z)) λz=>.inr (.inr (.inl z))
 have out:∀{o':HO} {F2:Pr},(∀b,F2 b->F b)->SE K (g.give F2 i) (Z.set i (P6 ⟨Qb,k,up (.nd hd' ds')⟩)) Y (upd H a o')->Dn.nx Y (upd H a o'):=λ{o' F2} s2 s=>q Y _ _ (ev.give s2 nd.own) s PinOk.refl;unfold lc at hpd;split at hpd
 ·split at hpd
  ·rename_i z;split at hpd
   ·rename_i j hj;split at hpd
    ·rename_i hf;cases hpd;obtain⟨F2,b1,b2,b3⟩:=fin hf;have ho:o=.lst xs:=nd.ok;have hlen:=nd.kids.len;have hj':j<ds.length:=(ma hj).2.1;obtain⟨F3,c1,c2⟩:=(nd.kids.go (S':=Sg (g.give F2 i)) (λ_ _ _ e=>e) λb o _ n z=>n (sub F2 b1 b z)).setAt hj' b2 b3;exact .inl ⟨z,j,rfl,ry.int,ho,nd.at_,by rw[hlen];exact hj,out b1 (nd.put (.lst (xs.set j v)) .lst _ _ F2 F3 rfl rfl (λxs h=>by cases h) b1 c1 c2)⟩
    ·cases hpd
   ·cases hpd
  ·cases hpd
 ·rename_i t ks;split at hpd
  ·rename_i kk hk;split at hpd
   ·rename_i hfk;have hlen:=nd.kids.len;obtain⟨p1,p2⟩:=tu (v:=v) nd.at_ nd.ok hk ry hfk.1 (by rw[hlen];exact MG hfk.2 (aF (MH _)));split at hpd
    ·rename_i j hj;split at hpd
     ·rename_i hf;cases hpd;obtain⟨o',d1,d2⟩:=p1 j hj hf.2.1;obtain⟨F2,b1,b2,b3⟩:=fin hf.1;obtain⟨F3,c1,c2⟩:=(nd.kids.go (S':=Sg (g.give F2 i)) (λ_ _ _ e=>e) λb o _ n z=>n (sub F2 b1 b z)).setAt hf.2.2 b2 b3;exact .inr ⟨⟨t,ks,rfl⟩,_,d1,λe=>out b1 (nd.put (o' e) (.dic t ks) _ _ F2 F3 rfl (d2 e).2 (d2 e).1 b1 c1 c2)⟩
     ·cases hpd
    ·rename_i hj;split at hpd
     ·rename_i hf;cases hpd;obtain⟨o',d1,d2⟩:=p2 hj;obtain⟨F2,b1,b2,b3⟩:=fin hf.2;have c2:=TrL.snoc2 hf.1 (nd.kids.go (S':=Sg (g.give F2 i)) (λ_ _ _ e=>e) λb o _ n z=>n (sub F2 b1 b z)) b2 b3;exact .inr ⟨⟨t,ks,rfl⟩,_,d1,λe=>out b1 (nd.put (o' e) (.dic t (ks++[kk])) _ _ F2 _ rfl (d2 e).2 (d2 e).1 b1 (λb z=>z) c2)⟩
     ·cases hpd
   ·cases hpd
  ·cases hpd
 ·cases hpd
theorem HI(O:ao X U c){f:Ro->MR}{i:Nat}{fp:Ro->Option (Ow×D×(D->D))}{fk:Ro->Option KD}{b k e:P9}{sp pos:Pos}(hf:bd X f e)(hp:mQ X i fp b)(hk:SndE X fk k)(hpl:cK k=P8)(hn:e6 e=P8):cR X pn (λZ=>uZ i fp fk (f Z)) (.Assign [.Subscript b k sp] e pos):=by
 intro Z r h g Y H Dn se q;dsimp only[uZ] at h;split at h
 ·rename_i kd d Z1 he;split at h
  ·rename_i es r0 hd ds up kx dx kk d0 ep ek ei;split at h
   ·rename_i hd' ds' hpd;cases h
    have mu:hd.mu=P8:=by
     cases hd with
     |tup=>simp[lc] at hpd
     |_=>rfl
    have core:∀v g1 H1 F,Evo g H g1 H1 F->SE X.K (g1.plus F) Z1 Y H1->VR1 X.K H1 g1 F kd d v F->∀v1 H2 w Fi k' d',Same H1 H2->Z1[i]?=P6 (P6 ⟨Qb,k',d'⟩)->Y[i]?=P6 (P6 w)->(∀b,Fi b->(g1.plus F) b=P6 (P6 i))->FP X.K H2 (Sg (g1.plus F)) k' w Fi (.own es r0) (.nd hd ds) v1 up->∀y H3,Same H2 H3->VR X.K (g1.plus F) H2 H3 kx dx y->
      ∃a o xs F',v1=.ref a/\mR X.K H3 g1 F Z1 Y i kk es r0 hd ds up a o xs F'/\((∃z j,hd=.lst/\y=.int z/\o=.lst xs/\H3 a=P6 o/\jv xs.length z=P6 j/\Dn.nx Y (upd H3 a (.lst (xs.set j v))))\/((∃t ks,hd=.dic t ks)/\∃F4,DPut H3 a y v F4/\∀e,Dn.nx Y (F4 e))):=by
     intro v g1 H1 F ev se1 vr v1 H2 w Fi k' d' s2 ei' ew lb fp1 y H3 s3 ry;rw[ei] at ei';cases ei';have jA:=s2.trans s3;have se3:=se1.same jA;have ev3:Evo g H g1 H3 F:=⟨λb o n e=>jA _ _ (ev.keep b o n e),ev.out,ev.new,ev.tmp,λb o e=>let ⟨o',q1⟩:=ev.dom b o e;⟨o',jA _ _ q1⟩⟩;obtain⟨a,o,xs,F',rfl,nd⟩:=FP.node se3 (λb z=>(ev.tmp b z).1) ei ew lb (fp1.same s3) mu;exact⟨a,o,xs,F',rfl,nd,xy (x:=(cP kd d,d)) hpd nd ev3 se3 ((vr.im se1.mu).go jA λ_ _ _ z=>z) ry.rd q⟩
    cases hd with
    |lst=>
     refine cg (pU av (CF av av vS (by intro v;cases k<;>first|rfl|cases hpl)) u0 Ak) ?_
     refine hf Z _ _ _ he g Y H _ se λv g1 H1 F ev se1 vr=>hp Z1 _ _ _ ep (g1.plus F) Y H1 _ se1 λv1 H2 w Fi k' d' s2 ei' ew lb fp1=>hk Z1 _ _ ek (g1.plus F) Y H2 _ (se1.same s2) λy H3 s3 ry=>?_;obtain⟨a,o,xs,F',rfl,nd,fin⟩:=core v g1 H1 F ev se1 vr v1 H2 w Fi k' d' s2 ei' ew lb fp1 y H3 s3 ry;rcases fin with⟨z,j,_,rfl,rfl,g3,hj,fin⟩|⟨⟨t,ks,z⟩,_⟩
     ·exact⟨a,xs,z,j,rfl,rfl,g3,hj,fin⟩
     ·cases z
    |dic t ks=>
     refine cg (ze (by have:=O.tab.units;lia) av av av (jF hn)) ?_;refine hf Z _ _ _ he g Y H _ se λv g1 H1 F ev se1 vr=>hp Z1 _ _ _ ep (g1.plus F) Y H1 _ se1 λv1 H2 w Fi k' d' s2 ei' ew lb fp1=>hk Z1 _ _ ek (g1.plus F) Y H2 _ (se1.same s2) λy H3 s3 ry=>?_;obtain⟨a,o,xs,F',rfl,nd,fin⟩:=core v g1 H1 F ev se1 vr v1 H2 w Fi k' d' s2 ei' ew lb fp1 y H3 s3 ry;rcases fin with⟨z,j,zz,_⟩|⟨_,H4,d1,fin⟩
     ·cases zz
     ·exact⟨a,H4,rfl,d1,fin⟩
    |tup=>cases mu
    |obj c ns=>simp[lc] at hpd
   ·cases h
  ·cases h
 ·cases h
theorem TrL.snocG:∀{ds:List D} {es:List Ow} {r:Ow} {us:List V} {F F2:Pr} {d:D} {v:V},TrL K H S ds es r us F->Tr K H S d (es.getD ds.length r) v F2->(∀b,F b->¬F2 b)->TrL K H S (ds++[d]) es r (us++[v]) (λb=>F b\/F2 b)
 |[],es,r,us,F,F2,d,v,h,t,dj=>by
  unfold TrL at h;obtain⟨rfl,hn⟩:=h;show TrL K H S [d] es r [v] _;unfold TrL
  refine⟨v,[],F2,λ_=>False,rfl,λb=>⟨λz=>z.elim (λz=>absurd z (hn b)) .inl,λz=>z.elim .inr λz=>z.elim⟩,λ_ _ z=>z,by cases es<;>simpa using t,?_⟩
  unfold TrL;exact⟨rfl,λ_ z=>z⟩
 |d0::ds,es,r,us,F,F2,d,v,h,t,dj=>by
  unfold TrL at h;obtain⟨y,ys,F1,Fr,rfl,hF,dj1,h1,h2⟩:=h
  have eg:es.getD (d0::ds).length r=es.tail.getD ds.length r:=by cases es<;>simp
  rw[eg] at t;have:=TrL.snocG h2 t λb z1 z2=>dj b ((hF b).mpr (.inr z1)) z2;show TrL K H S (d0::(ds++[d])) es r (y::(ys++[v])) _;unfold TrL;refine⟨y,ys++[v],F1,λb=>Fr b\/F2 b,rfl,λb=>⟨λz=>z.elim (λz=>((hF b).mp z).imp id .inl) λz=>.inr (.inr z),λz=>z.elim (λz=>.inl ((hF b).mpr (.inl z))) λz=>z.imp (λz=>(hF b).mpr (.inr z)) id⟩,λb z1 z2=>z2.elim (dj1 b z1) λz2=>dj b ((hF b).mpr (.inl z1)) z2,h1,this⟩
theorem tw{f:Str}:∀{ns:List Str} {xs:List V} {j:Nat},aN f ns=P6 j->ns.length=xs.length->putF f v (ns.zip xs)=ns.zip (xs.set j v)
 |[],_,_,h,_=>by cases h
 |_::_,[],_,_,l=>by cases l
 |n::ns,x::xs,j,h,l=>by
  unfold aN at h;rw[N2];unfold putF;split at h
  ·rename_i hn;cases h;rw[if_pos hn.symm];rfl
  ·rename_i hn;obtain⟨j',hj,rfl⟩:=aL h;rw[if_neg (Ne.symm hn),OC,N2,tw hj (by simpa using l)]
theorem o3{f:Str}{v:V}:∀{ns:List Str} {xs:List V},aN f ns=P7->ns.length=xs.length->putF f v (ns.zip xs)=(ns++[f]).zip (xs++[v])
 |[],[],_,_=>rfl
 |[],_::_,_,l=>by cases l
 |_::_,[],_,l=>by cases l
 |n::ns,x::xs,h,l=>by
  unfold aN at h;rw[N2];unfold putF;split at h
  ·cases h
  ·rename_i hn
   rw[if_neg (Ne.symm hn),NM,NM,N2,o3 (by cases q:aN f ns with|none=>rfl|some z=>rw[q] at h;cases h) (by simpa using l)]
noncomputable def HJ(es:List Ow)(r:Ow)(ns:List Str)(ds:List D)(f:Str)(x:KD):Option (List Str×List D):=match aN f ns with
 |some j=>if bB (es.getD j r) x=P8/\j<ds.length/\ds.length<900 then P6 (ns,ds.set j x.2) else P7
 |none=>if bB (es.getD ds.length r) x=P8/\ds.length<900 then P6 (ns++[f],ds++[x.2]) else P7
noncomputable def tz(i:Nat)(c f:Str)(fp:Ro->Option (Ow×D×(D->D)))(a:MR):Option Res:=match a with
 |some (kd,d,Z1)=>(match fp Z1,Z1[i]? with
  |some (.own es r,.nd (.obj c' ns) ds,up),P6 (P6 ⟨Qb,k,_⟩)=>if c'=c then(match HJ es r ns ds f (cP kd d,d) with
   |some (ns',ds')=>P6 (.nx (Z1.set i (P6 ⟨Qb,k,up (.nd (.obj c ns') ds')⟩)))
   |none=>P7) else P7
  |_,_=>P7)
 |none=>P7
theorem Em{f:Ro->MR}{i:Nat}{c z:Str}{sp pos:Pos}(hok:∀C,NI X.K Qp c=P6 (P6 (.ref C))->Cls X.K C/\NoAttr X.K C z)(hf:bd X f e)(hp:mQ X i fp b)(hs:swapsWith e (P6 (.Attribute b z sp)) pos.line X.env=pure Qb):cR X pn (λZ=>tz i c z fp (f Z)) (.Assign [.Attribute b z sp] e pos):=by
 intro Z r h g Y H Dn se q;dsimp only[tz] at h;split at h
 ·rename_i kd d Z1 he;split at h
  ·rename_i es r0 c' ns ds up kk d0 ep ei;split at h
   ·rename_i hc;subst hc;split at h
    ·rename_i ns' ds' hpd;cases h;refine cg (CT av av hs) ?_;refine hf Z _ _ _ he g Y H _ se λv g1 H1 F ev se1 vr=>hp Z1 _ _ _ ep (g1.plus F) Y H1 _ se1 λv1 H2 w Fi k' d' s2 ei' ew lb fp1=>?_;rw[ei] at ei';cases ei';have se3:=se1.same s2;have ev3:Evo g H g1 H2 F:=⟨λb o n e=>s2 _ _ (ev.keep b o n e),ev.out,ev.new,ev.tmp,λb o e=>let ⟨o',q1⟩:=ev.dom b o e;⟨o',s2 _ _ q1⟩⟩;obtain⟨a,o,xs,F',rfl,nd⟩:=FP.node se3 (λb z=>(ev.tmp b z).1) ei ew lb fp1 rfl;obtain⟨C,dx,hC,⟨cl,na⟩,ho,hl⟩:=nd.ok;subst ho;have hF:∀b,F b->g1 b=P7:=λb z=>(ev3.tmp b z).1;have mm:MuOk H2 (Sx g1 F):=λb z=>se3.mu b ((am b).mpr z);have sub:∀(F2:Pr),(∀b,F2 b->F b)->∀b,Sg (g1.give F2 i) b->Sg (g1.plus F) b:=λF2 s2 b z=>(am b).mpr ((give_S.mp z).imp id (s2 b));have vr2:=(vr.im se1.mu).go s2 λ_ _ _ z=>z
     have fin:∀{kc:Ow},bB kc (cP kd d,d)=P8->∃F2:Pr,(∀b,F2 b->F b)/\Tr X.K H2 (Sg (g1.give F2 i)) d kc v F2/\(∀b,F' b->¬F2 b):=λ{kc} hf=>by
      obtain⟨F2,a1,a2⟩:=VR1.fit (p:=(cP kd d,d)) hf mm hF (λb z=>z) vr2;refine⟨F2,a1,a2 _ λb z=>?_,λb z1 z2=>by have:=nd.lab b z1;rw[hF b (a1 b z2)] at this;cases this⟩;exact(give_S.mp z).elim (λz=>.inr (.inl z)) λz=>.inr (.inr (.inl z))
     have out:∀{o':HO} {F2:Pr},(∀b,F2 b->F b)->SE X.K (g1.give F2 i) (Z1.set i (P6 ⟨Qb,kk,up (.nd (.obj c' ns') ds')⟩)) Y (upd H2 a o')->Dn.nx Y (upd H2 a o'):=λ{o' F2} s2 s=>q Y _ _ (ev3.give s2 nd.own) s PinOk.refl;have hlen:=nd.kids.len;have hz:(ns.zip xs).length=ds.length:=by rw[Os,hl,hlen,PF]
     obtain⟨cl',nz⟩:=hok C hC;unfold HJ at hpd;split at hpd
     ·rename_i j hj;split at hpd
      ·rename_i hh;cases hpd;obtain⟨F2,b1,b2,b3⟩:=fin hh.1;obtain⟨F3,c1,c2⟩:=(nd.kids.go (S':=Sg (g1.give F2 i)) (λ_ _ _ e=>e) λb o _ n z=>n (sub F2 b1 b z)).setAt hh.2.1 b2 b3;refine⟨a,C,dx,ns.zip xs,rfl,nd.at_,cl,nz,by rw[hz];have:=hh.2.2;lia,?_⟩;rw[tw hj hl];exact out b1 (nd.put _ (.obj c' ns) _ _ F2 F3 rfl ⟨C,dx,hC,⟨cl,na⟩,rfl,by rw[N1];exact hl⟩ (λxs h=>by cases h) b1 c1 c2)
      ·cases hpd
     ·rename_i hj;split at hpd
      ·rename_i hh;cases hpd;obtain⟨F2,b1,b2,b3⟩:=fin hh.1;have c2:=TrL.snocG (nd.kids.go (S':=Sg (g1.give F2 i)) (λ_ _ _ e=>e) λb o _ n z=>n (sub F2 b1 b z)) b2 b3;refine⟨a,C,dx,ns.zip xs,rfl,nd.at_,cl,nz,by rw[hz];have:=hh.2;lia,?_⟩;rw[o3 hj hl];exact out b1 (nd.put _ (.obj c' (ns++[z])) _ _ F2 _ rfl ⟨C,dx,hC,⟨cl,λy hy=>(NR.mp hy).elim (na y) λhy=>by rw[Nt.mp hy];exact nz⟩,rfl,by rw[MX,MX,hl];rfl⟩ (λxs h=>by cases h) b1 (λb z=>z) c2)
      ·cases hpd
    ·cases h
   ·cases h
  ·cases h
 ·cases h
end
end J
namespace J
open PySem PySem.Spec L2
mutual
inductive IS where
 |asg (i:Nat) (a:ME)
 |unp (is:List Nat) (a:ME)
 |aug (i:Nat) (op:Qv) (a:ME)
 |put (b:BP) (k:IE) (a:ME)
 |putF (c:Str) (b:BP) (f:Str) (a:ME)
 |putM (i:Nat) (as:iK)
 |par (i j:Nat) (es:IEs)
 |ret (a:ME)
 |retN
 |ifs (t:MT) (a b:bC)
 |fo (fg:List Nat) (tg:IT) (it:MI) (b:bC)
 |wh (fg:List Nat) (t:MT) (b:bC)
 |pas
 |brk
 |cnt
 |exp (a:ME)
 |pre (is:List Nat) (s:IS)
 |fap (i x:Nat) (v:Int)
 |stk
inductive bC where
 |nil
 |cons (s:IS) (r:bC)
end
mutual
noncomputable def eh(U:GG)(N:Nat):IS->List Nat->Ro->Option Res
 |.asg i a,pn,Z=>kA pn i (aH U a Z)
 |.unp is a,pn,Z=>xq pn is (aH U a Z)
 |.aug i op a,pn,Z=>P7
 |.put b k a,_,Z=>uZ b.slot (sV U.fn b) (aa U.fn k) (aH U a Z)
 |.putF c b f a,_,Z=>tz b.slot c f (sV U.fn b) (aH U a Z)
 |.putM i as,_,Z=>P7
 |.par i j es,pn,Z=>P7
 |.ret a,_,Z=>uY (aH U a Z)
 |.retN,_,Z=>P7
 |.ifs t a b,pn,Z=>xu (bp U t Z) (aP U N a pn) (aP U N b pn)
 |.fo fg tg it b,pn,Z=>oZ pn fg tg (aP U N b) (cA U it Z)
 |.wh fg t b,pn,Z=>jp fg (bp U t) (aP U N b pn) N Z
 |.pas,_,Z=>P6 (.nx Z)
 |.brk,_,Z=>P7
 |.cnt,_,Z=>P7
 |.exp a,_,Z=>xt (aH U a Z)
 |.pre is s,pn,Z=>eh U N s pn (frzN is Z)
 |.fap i x v,pn,Z=>P7
 |.stk,_,_=>P7
noncomputable def aP(U:GG)(N:Nat):bC->List Nat->Ro->Option Res
 |.nil,_,Z=>P6 (.nx Z)
 |.cons s r,pn,Z=>bH (eh U N s pn Z) (aP U N r pn)
end
section
theorem Am{N:Nat}:eh U N (.asg i a) pn Z=kA pn i (aH U a Z):=rfl
theorem Ao{N:Nat}:eh U N (.unp is a) pn Z=xq pn is (aH U a Z):=rfl
theorem Ap{U:GG}{N:Nat}:eh U N (.put b k a) z0 Z=uZ b.slot (sV U.fn b) (aa U.fn k) (aH U a Z):=rfl
theorem Aq{N:Nat}:eh U N (.ret a) z0 Z=uY (aH U a Z):=rfl
theorem tB{N:Nat}:eh U N (.ifs t a b) pn Z=xu (bp U t Z) (aP U N a pn) (aP U N b pn):=rfl
theorem En{N:Nat}:eh U N (.fo fg tg it b) pn Z=oZ pn fg tg (aP U N b) (cA U it Z):=rfl
theorem Eo{N:Nat}:eh U N (.wh fg t b) pn Z=jp fg (bp U t) (aP U N b pn) N Z:=rfl
theorem Ar{N:Nat}:eh U N (.exp a) z0 Z=xt (aH U a Z):=rfl
theorem As{N:Nat}:eh U N (.pre is s) pn Z=eh U N s pn (frzN is Z):=rfl
end
theorem e7{f:Ro->Option Res}(h:∀Z,f Z=P7):cR X pn f e:=λZ r hh=>by rw[h] at hh;cases hh
structure An where
 fg:Nat->List Nat:=λ_=>[]
 pz:Nat->List Nat:=λ_=>[]
 fa:Nat->Bool:=λ_=>Qb
 sk:Nat->Bool:=λ_=>Qb
noncomputable def qR(f:Ql->Option IS):List Ql->Option bC
 |[]=>P6 .nil
 |s::r=>match f s,qR f r with|some a,P6 b=>P6 (.cons a b)|_,_=>P7
noncomputable def qS:Ql->Nat
 |.Assign _ _ p=>p.line
 |.AugAssign _ _ _ p=>p.line
 |.Return _ p=>p.line
 |.Expr _ p=>p.line
 |.If _ _ _ p=>p.line
 |.For _ _ _ _ p=>p.line
 |.While _ _ _ p=>p.line
 |.Raise _ _ p=>p.line
 |.Try _ _ _ _ p=>p.line
 |.Delete _ p=>p.line
 |_=>0
noncomputable def tD:P9->Bool
 |.ListComp _ gs _ _=>(match gs with|[]=>Qb|g::gs=>(match gs with|[]=>g.is_async==0|_::_=>Qb))
 |_=>Qb
noncomputable def BI(l:List Nat)(s:Option IS):Option IS:=match l,s with
 |[],s=>s
 |l,P6 s=>P6 (.pre l s)
 |_,P7=>P7
noncomputable def BJ:P9->Bool
 |.Constant (.str _) _ _=>P8
 |_=>Qb
noncomputable def BK(f:Str):List (Str×List Str)->Option Str
 |[]=>P7
 |(c,fs)::r=>if f∈fs then P6 c else BK f r
noncomputable def BL(fns:Nms)(f:Str):Option Str:=match BK f fns.cls with
 |some c=>(match fns.cls.lookup c with|some fs=>if f∈fs then P6 c else P7|none=>P7)
 |none=>P7
noncomputable def FL(fns:Nms)(m:Nat)(c:Cz)(ts:List P9)(e:P9):Option IS:=match ts with
 |[]=>P7
 |t::ts=>match ts with
  |_::_=>P7
  |[]=>match t with
   |.Name x _=>if mx c x&&(e6 e||tD e) then(match aN x c.N,cM fns (m+1) c e with|some i,P6 a=>P6 (.asg i a)|_,_=>P7) else P7
   |.Tuple es _ _=>if xp e then(match xr c es,cM fns (m+1) c e with|some is,P6 a=>P6 (.unp is a)|_,_=>P7) else P7
   |.Subscript b k _=>if cK k&&e6 e then(match Ec c (cE fns (m+1) c) 6 b,cE fns (m+1) c k,cM fns (m+1) c e with|some b,P6 k,P6 a=>P6 (.put b k a)|_,_,_=>P7) else P7
   |.Attribute b z _=>if e6 e then(match BL fns z,Ec c (cE fns (m+1) c) 6 b,cM fns (m+1) c e with|some cl,P6 b,P6 a=>P6 (.putF cl b z a)|_,_,_=>P7) else P7
   |_=>P7
noncomputable def HM(c:Cz)(tg iter:P9)(body:List Ql):Option IS:=P7
noncomputable def LJ(fns:Nms)(an:An)(m:Nat)(c:Cz)(rec:List Ql->Option bC)(tg iter:P9)(body els:List Ql)(p:Pos):Option IS:=match els with
 |_::_=>P7
 |[]=>if an.fa p.line then HM c tg iter body else if c9 iter then(match mH c 4 tg,xn c (cM fns (m+1) c) (DI c (cE fns (m+1) c) tg iter) tg iter,rec body with|some t,P6 it,P6 b=>P6 (.fo (an.fg p.line) t it b)|_,_,_=>P7) else P7
noncomputable def FM(fns:Nms)(an:An)(m:Nat)(c:Cz)(rec:List Ql->Option bC):Ql->Option IS
 |.Assign ts e _=>FL fns m c ts e
 |.Return e _=>(match e with|some e=>(cM fns (m+1) c e).map .ret|none=>P6 .retN)
 |.Expr e _=>if BJ e then P6 .pas else if e6 e then(cM fns (m+1) c e).map .exp else P7
 |.If t a b _=>(match vz fns (m+1) c t,rec a,rec b with|some t,P6 a,P6 b=>P6 (.ifs t a b)|_,_,_=>P7)
 |.For tg iter body els p=>LJ fns an m c rec tg iter body els p
 |.While t body els p=>(match els with|_::_=>P7|[]=>(match vz fns (m+1) c t,rec body with|some t,P6 b=>P6 (.wh (an.fg p.line) t b)|_,_=>P7))
 |.Pass _=>P6 .pas
 |.Break _=>P6 .brk
 |.Continue _=>P6 .cnt
 |_=>P7
noncomputable def cS(fns:Nms)(an:An)(m:Nat)(c:Cz):Nat->Ql->Option IS
 |0,_=>P7
 |n+1,s=>if an.sk (qS s)=P8 then P6 .stk else BI (an.pz (qS s)) (FM fns an m c (qR (cS fns an m c n)) s)
noncomputable abbrev cB(fns:Nms)(an:An)(m:Nat)(c:Cz)(n:Nat):List Ql->Option bC:=qR (cS fns an m c n)
section
variable {X:Cx} {c:Cz} (fns:Nms) (U:GG)
theorem u4{x:Str}{n:Nat}:∃b:Bool,swapsWith (.ListComp elt [⟨tg,iter,ifs,0⟩] scope cp) (P6 (.Name x p)) n env=pure b:=⟨_,rfl⟩
theorem Er(O:ao X (bx fns U) c){m i:Nat}{x:Str}{e:P9}{a:ME}{p pos:Pos}(hl:mx c x=P8)(hi:aN x c.N=P6 i)(hc:tD e=P8)(ha:cM fns (m+1) c e=P6 a):cR X pn (λZ=>kA pn i (aH U a Z)) (.Assign [.Name x p] e pos):=by
 have hs:∃elt tg iter ifs scope cp,e=.ListComp elt [⟨tg,iter,ifs,0⟩] scope cp:=by
  cases e with
  |ListComp elt gs scope cp=>cases gs with
   |nil=>cases hc
   |cons g gs=>cases gs with
    |cons _ _=>cases hc
    |nil=>
     cases g with
     |mk tg iter ifs as=>
      have h0:as=0:=eq_of_beq (show(as==0)=P8 from hc);subst h0;exact⟨_,_,_,_,_,_,rfl⟩
  |_=>cases hc
 obtain⟨elt,tg,iter,ifs,scope,cp,rfl⟩:=hs;have l:=j3 O hl;have hf:=(fN fns U (m+1)).1 X c O _ _ ha;intro Z r h g Y H Dn se q
 cases hf':aH U a Z with
 |none=>dsimp only at h;rw[hf'] at h;cases h
 |some w=>
  obtain⟨kd,d,Z1⟩:=w;dsimp only at h;rw[hf'] at h;obtain⟨b,hb⟩:=u4 (elt:=elt) (tg:=tg) (iter:=iter) (ifs:=ifs) (scope:=scope) (cp:=cp) (p:=p) (x:=x) (n:=pos.line) (env:=X.env)
  cases b with
  |false=>exact cg (pV (i:=i) (by rw[O.N];exact O.nd) (by rw[O.N];exact aK hi) l.1 av hb l.2) (hf Z kd d Z1 hf' g Y H _ se λv g1 H1 F ev se1 vr=>g8 h q ev se1 vr)
  |true=>
   have fin:∀{hck:aW c scope=P8} {hns:c9 iter=P8},ir (wI X tg iter) (λv Y H Q=>∀C s H0 ex,wG (aj X (ac scope) scope C s H0 ex) tg v Y H Q) (λY H Q=>∀C s H0 ex,DF (aj X (ac scope) scope C s H0 ex) ifs Y H Q) (λY H Q=>∀C s H0 ex,wE (aj X (ac scope) scope C s H0 ex) elt Y H Q) (aq c scope) Y H (λv H1=>gu i v Y H1 Dn.nx)->Jb X (.Assign [.Name x p] (.ListComp elt [⟨tg,iter,ifs,0⟩] scope cp) pos) Dn Y H:=λ{hck hns} ht=>
    cg (wm (N':=ac scope) (cap:=aq c scope) O.calm (c8 O hck) uJ
     (λC s H0 ex pins s' Y' H' v u Q' I r hh=>uK pins s' Y' H' v u Q' I r (hh C s H0 ex)) (λC s H0 ex pins s' Y' H' Q' I hh=>hh C s H0 ex pins s' I) (λC s H0 ex pins s' Y' H' Q' I hh=>hh C s H0 ex pins s' I) (cW hns)
     (by rw[O.N];exact O.nd) (by rw[O.N];exact aK hi) l.1 l.2 hb) ht
   have post:∀v g' H' F,Evo g H g' H' F->SE X.K (g'.plus F) Z1 Y H'->VR1 X.K H' g' F kd d v F->gu i v Y H' Dn.nx:=λv g1 H1 F ev se1 vr=>g8 h q ev se1 vr
   cases hce:cE fns m c (.ListComp elt [⟨tg,iter,ifs,0⟩] scope cp) with
   |some ie=>
    have ha2:P6 (ME.p ie)=P6 a:=by rw[<- ha];show _=(match cE fns m c _ with|some ie=>P6 (ME.p ie)|none=>_);rw[hce]
    cases ha2
    cases m with
    |zero=>cases(show(P7:Option IE)=P6 _ from hce)
    |succ m=>
     have hie:Hj fns c (cE fns m) (cT fns m) elt [⟨tg,iter,ifs,0⟩] scope cp=P6 ie:=hce;unfold Hj at hie;dsimp only at hie;rw[if_pos rfl] at hie;split at hie
     ·rename_i hn;rw[MA] at hn;split at hie
      ·rename_i t it ts el ht hit hts hel;cases hie;have pure:=cx (fm:=jo fns U) fns U.fn m;have CO:=cr O hn.2
       have hv:aa U.fn (.comp ((fns.an cp.line cp.col).getD Ow.fz) (aq c scope) t it ts el) Z=P6 (kd,d)/\Z1=Z:=by
        rw[xm] at hf';unfold Ja at hf';split at hf'
        ·rename_i e';cases hf';exact⟨e',rfl⟩
        ·cases hf'
       obtain⟨hv,rfl⟩:=hv;rw[oJ] at hv
       exact fin (hck:=hn.2) (hns:=hn.1) (wQ O hn.2 (sI fns U.fn O (pure.1 X c O) hit) ht (λC s H ex=>sK U.fn (pure.2 _ _ (CO C s H ex)) hts) (λC s H ex=>pure.1 _ _ (CO C s H ex) _ _ hel) hv se λv H' s ⟨F,h1,h2⟩=>
        post v g H' F (de s h1 λb z=>ee se.mu (h1 b z)) (se.plus s h1 h2.dom) h2)
      ·cases hie
     ·cases hie
   |none=>
    have ha2:uW fns c (cM fns m) (cE fns m) (vz fns m) elt [⟨tg,iter,ifs,0⟩] scope cp=P6 a:=by
     replace ha:(match cE fns m c (.ListComp elt [⟨tg,iter,ifs,0⟩] scope cp) with|some ie=>P6 (ME.p ie)|none=>uW fns c (cM fns m) (cE fns m) (vz fns m) elt [⟨tg,iter,ifs,0⟩] scope cp)=P6 a:=ha
     rw[hce] at ha;exact ha
    obtain⟨tg',iter',ifs',t,it,ts,el,hq,hn1,hn2,ht,hit,hts,hel,rfl⟩:=sY fns ha2;cases hq;have pure:=cx (fm:=jo fns U) fns U.fn m;have CO:=cr O hn2;rw[oR] at hf'
    first|(cases hf';done)|exact fin (hck:=hn2) (hns:=hn1) (sT O hn2 (qO fns U O ((fN fns U m).1 X c O) (pure.1 X c O) hit) ht (λC s H ex=>oV U ((fN fns U m).2 _ _ (CO C s H ex)) hts) (λC s H ex=>(fN fns U m).1 _ _ (CO C s H ex) _ _ hel) hf' se post)
theorem iP{f:Ql->Option IS}{N:Nat}(hf:∀s a,f s=P6 a->∀pn,cR X pn (eh U N a pn) s):∀{st:List Ql} {b:bC},qR f st=P6 b->∀pn,bZ X pn (aP U N b pn) st
 |[],b,h,pn=>by
  cases h;rw[show aP U N .nil pn=λZ=>P6 (.nx Z) by funext Z;rw[aP]];exact HE
 |s::st,b,h,pn=>by
  unfold qR at h;split at h
  ·rename_i a r ha hr;cases h
   rw[show aP U N (.cons a r) pn=λZ=>bH (eh U N a pn Z) (aP U N r pn) by funext Z;conv=>lhs;rw[aP]]
   exact Ej (hf s a ha pn) (iP hf hr pn)
  ·cases h
theorem Kw(O:ao X (bx fns U) c){m N:Nat}{ts:List P9}{e:P9}{pos:Pos}{a:IS}(h:FL fns m c ts e=P6 a)(pn:List Nat):cR X pn (eh U N a pn) (.Assign ts e pos):=by
 have hM:=(fN fns U (m+1)).1 X c O;have hE:=(cx (fm:=jo fns U) fns U.fn (m+1)).1 X c O
 cases ts with
 |nil=>cases h
 |cons t ts=>cases ts with
  |cons _ _=>cases h
  |nil=>cases t with
   |Name x p=>
    dsimp only[FL] at h;split at h
    ·rename_i hl;rw[MA,NS] at hl;split at h
     ·rename_i i a' hi ha;cases h;rw[show eh U N (.asg i a') pn=λZ=>kA pn i (aH U a' Z) from funext λ_=>rfl];rcases hl.2 with hc|hc
      ·exact BF O hl.1 hi hc (hM _ _ ha)
      ·exact Er fns U O hl.1 hi hc ha
     ·cases h
    ·cases h
   |Tuple es k p=>
    dsimp only[FL] at h;split at h
    ·rename_i hn;split at h
     ·rename_i is a' his ha;cases h
      first|(exact e7 λ_=>rfl)|(rw[show eh U N (.unp is a') pn=λZ=>xq pn is (aH U a' Z) from funext λ_=>rfl];exact HA O (hM _ _ ha) his hn)
     ·cases h
    ·cases h
   |Subscript b k p=>
    dsimp only[FL] at h;split at h
    ·rename_i hn;rw[MA] at hn;split at h
     ·rename_i b' k' a' hb hk ha;cases h
      first|(exact e7 λ_=>rfl)|(rw[show eh U N (.put b' k' a') pn=λZ=>uZ b'.slot (sV U.fn b') (aa U.fn k') (aH U a' Z) from funext λ_=>rfl];exact HI O (hM _ _ ha) (xo U O hE _ hb) (hE _ _ hk) hn.1 hn.2)
     ·cases h
    ·cases h
   |Attribute b z p=>
    dsimp only[FL] at h;split at h
    ·rename_i hn;split at h
     ·rename_i cl b' a' hcl hb ha;cases h
      have hok:∀C,NI X.K Qp cl=P6 (P6 (.ref C))->Cls X.K C/\NoAttr X.K C z:=λC hC=>by
       unfold BL at hcl;split at hcl
       ·split at hcl
        ·rename_i fs hfs;split at hcl
         ·rename_i hz;cases hcl;obtain⟨h1,h2⟩:=O.tab.cf cl fs C hfs hC;exact⟨h1,h2 z hz⟩
         ·cases hcl
        ·cases hcl
       ·cases hcl
      first|(exact e7 λ_=>rfl)|(rw[show eh U N (.putF cl b' z a') pn=λZ=>tz b'.slot cl z (sV U.fn b') (aH U a' Z) from funext λ_=>rfl];exact Em hok (hM _ _ ha) (xo U O hE _ hb) (jF hn))
     ·cases h
    ·cases h
   |_=>cases h
theorem Es(O:ao X Ut c)(hp:PassesOwn (Qg X.prog X.w) X.A X.env X.xe){N:Nat}{tg iter:P9}{body:List Ql}{pos:Pos}{a:IS}(h:HM c tg iter body=P6 a)(pn:List Nat):cR X pn (eh U N a pn) (.For tg iter body [] pos):=by cases h
theorem o5(O:ao X (bx fns U) c)(hp:PassesOwn (Qg X.prog X.w) X.A X.env X.xe){an:An}{m N:Nat}:∀(n:Nat) {s:Ql} {a:IS},cS fns an m c n s=P6 a->∀pn,cR X pn (eh U N a pn) s
 |0,s,a,h,pn=>by cases h
 |n+1,s,a,h,pn=>by
  have hM:=(fN fns U (m+1)).1 X c O;have hT:=(fN fns U (m+1)).2 X c O;have hE:=(cx (fm:=jo fns U) fns U.fn (m+1)).1 X c O;have hBq:∀{st:List Ql} {b:bC},qR (cS fns an m c n) st=P6 b->∀pn,bZ X pn (aP U N b pn) st:=λh=>iP U (λs a h=>o5 O hp n h) h
  have main:∀{a:IS},FM fns an m c (qR (cS fns an m c n)) s=P6 a->cR X pn (eh U N a pn) s:=λ{a} h=>by
   cases s with
   |Assign ts e pos=>exact Kw fns U O h pn
   |Return e pos=>cases e with
    |some e=>
     obtain⟨a',ha,rfl⟩:=aL (show(cM fns (m+1) c e).map .ret=P6 a from h)
     first|(exact e7 λ_=>rfl)|(rw[show eh U N (.ret a') pn=λZ=>uY (aH U a' Z) from funext λ_=>rfl];exact BG (hM _ _ ha))
    |none=>
     cases h
     first|(exact e7 λ_=>rfl)|(rw[show eh U N .retN pn=λZ=>P6 (.rt .sh .non Z) from funext λ_=>rfl];exact s_retN)
   |Expr e pos=>
    dsimp only[FM] at h;split at h
    ·rename_i hd;cases h;rw[show eh U N .pas pn=λZ=>P6 (.nx Z) from funext λ_=>rfl];unfold BJ at hd;split at hd
     ·exact HC
     ·cases hd
    ·split at h
     ·rename_i hn;obtain⟨a',ha,rfl⟩:=aL h
      first|(exact e7 λ_=>rfl)|(rw[show eh U N (.exp a') pn=λZ=>xt (aH U a' Z) from funext λ_=>rfl];exact HB hn (hM _ _ ha))
     ·cases h
   |If t x y pos=>
    dsimp only[FM] at h;split at h
    ·rename_i t' a' b' ht ha hb;cases h
     first|(exact e7 λ_=>rfl)|(rw[show eh U N (.ifs t' a' b') pn=λZ=>xu (bp U t' Z) (aP U N a' pn) (aP U N b' pn) by exact funext λ_=>rfl];exact HD (hT _ _ ht) (hBq ha pn) (hBq hb pn))
    ·cases h
   |For tg iter body els pos=>cases els with
    |cons _ _=>cases h
    |nil=>
     dsimp only[FM,LJ] at h;split at h
     ·exact Es U O hp h pn
     ·split at h
      ·rename_i hn;split at h
       ·rename_i t' it' b' ht hit hb;cases h
        first|(exact e7 λ_=>rfl)|(rw[show ∀fg,eh U N (.fo fg t' it' b') pn=λZ=>oZ pn fg t' (aP U N b') (cA U it' Z) by intro fg;exact funext λ_=>rfl];exact El O hp ht (qO fns U O hM hE hit) (hBq hb) hn)
       ·cases h
      ·cases h
   |While t body els pos=>cases els with
    |cons _ _=>cases h
    |nil=>
     dsimp only[FM] at h;split at h
     ·rename_i t' b' ht hb;cases h
      first|(exact e7 λ_=>rfl)|(rw[show ∀fg,eh U N (.wh fg t' b') pn=jp fg (bp U t') (aP U N b' pn) N by intro fg;exact funext λ_=>rfl];exact HF hp (hT _ _ ht) (hBq hb pn) N)
     ·cases h
   |Pass pos=>
    cases h
    first|(exact e7 λ_=>rfl)|(rw[show eh U N .pas pn=λZ=>P6 (.nx Z) from funext λ_=>rfl];exact Ek)
   |Break pos=>
    cases h
    first|(exact e7 λ_=>rfl)|(rw[show eh U N .brk pn=λZ=>P6 (.bk Z) from funext λ_=>rfl];exact s_brk)
   |Continue pos=>
    cases h
    first|(exact e7 λ_=>rfl)|(rw[show eh U N .cnt pn=λZ=>P6 (.ct Z) from funext λ_=>rfl];exact s_cont)
   |_=>cases h
  unfold cS at h;by_cases hk:an.sk (qS s)=P8
  ·rw[if_pos hk] at h;cases h;exact e7 λZ=>rfl
  rw[if_neg hk] at h;unfold BI at h;split at h
  ·exact main h
  ·rename_i a' ha _;cases h
   first|(exact e7 λ_=>rfl)|(rw[show ∀l,eh U N (.pre l a') pn=λZ=>eh U N a' pn (frzN l Z) by intro l;exact funext λ_=>rfl];exact HG _ (main ha))
  ·cases h
end
end J
namespace L2
open PySem PySem.Spec PyProof.Rows
theorem lf{R:Result->Qd->Prop}{s:Qd}(I:Nat->Qd->Prop)(turn:∀n s,I n s->Qf (Qg prog w) A (pyNext it) (λr s₁=>match r with
   |none=>R (.ok .next) s₁
   |some v=>Qf (Qg prog w) A (letOwnedTupleGo target it v) (λ_ s₁'=>Qf (Qg prog w) A (assign target env v) (λ_ s₂=>
     Qf (Qg prog w) A (forIn ifs P8 λc r=>if r=P8 then do let ok <- isTrue c env (eval c env);pure (ForInStep.yield ok) else pure (ForInStep.yield r)) (λok s₃=>
      if ok=P8 then Qf (Qg prog w) A (eval kx env) (λkv s₄=>Qf (Qg prog w) A (eval vx env) (λvv s₅=>
       Qf (Qg prog w) A (dictSet D kv vv) (λ_ s₆=>∃m,m<n/\I m s₆) (λ_ _=>False) s₅) (λ_ _=>False) s₄) (λ_ _=>False) s₃
      else ∃m,m<n/\I m s₃) (λ_ _=>False) s₂) (λ_ _=>False) s₁') (λ_ _=>False) s₁) (λ_ _=>False) s)(n:Nat)(h:I n s) :
  codeAny (Qg prog w) A (.compLoop (.DictComp kx vx [⟨target,iter,ifs,0⟩] scope pos) 0 it (.ref D) env) R s:=by
 refine codeAny_loop rfl I (λn s hI=>?_) n h;show Qf _ A ((compTurn (.DictComp kx vx [⟨target,iter,ifs,0⟩] scope pos) 0 it (.ref D) env).onRaise (λx=>do noteFrame x env;theTreesLotGoes x)) _ _ s;refine wpAny_noted ?_;rw[compTurn_dict];refine Qe (wpAny_standAt (Qe (wpAny_mono (turn n s hI) (λr s₁ h₁=>?_) λ_ _ h'=>h'.elim)))
 cases r with
 |none=>exact Qh h₁
 |some v=>
  refine Qe (wpAny_mono h₁ (λ_ s₁' h₁'=>?_) λ_ _ h'=>h'.elim);refine Qe (wpAny_mono h₁' (λ_ s₂ h₂=>Qe (wpAny_mono h₂ (λok s₃ h₃=>?_) λ_ _ h'=>h'.elim)) λ_ _ h'=>h'.elim)
  cases ok with
  |false=>exact Qh ⟨rfl,h₃⟩
  |true=>
   exact Qe (Qe (wpAny_mono h₃ (λkv s₄ h₄=>Qe (Qx (wpAny_mono h₄ (λvv s₅ h₅=>Qe (wpAny_standAt (Qx (wpAny_mono h₅ (λ_ s₆ h₆=>Qh ⟨rfl,h₆⟩) λ_ _ h'=>h'.elim)))) λ_ _ h'=>h'.elim))) λ_ _ h'=>h'.elim))
section
variable {X:Cx} {pins:List (Qc×Obj)} {Y:St} {H:Hp} {s:Qd}
theorem u5{A:Qk}{F:Nat->Hp}{Q:Unit->Qd->Prop}(hu:A.units+9<cLine)(I:Inv X pins Y H s)(g:DPut H a y v F)(ry:RelV y u)(rv:RelV v r)(h:∀e s',Inv X pins Y (F e) s'->Q () s') :
  Qf (Qg X.prog X.w) A (dictSet a u r) Q E s:=by
 rcases g with⟨kvs,k,e,ey,l,eH⟩|⟨m,ep,kvs,k,b,e,ey,eb,l,eH⟩
 ·subst ey eH;obtain⟨z,hd,vs,rel,dd⟩:=n5 I.hok e;have hz:vs.length<=sizeLine:=by rw[<- rel.length];exact z
  have hl:(bv kvs k v).length<=sizeLine:=by have:=bQ kvs k v;lia
  refine wpAny_dictSet_pairs (hsz:=hz) (jR ry) dd λh' dd' hs=>h 0 _ ?_;have he:∃q,h'.get? a=P6 q:=let ⟨q,_,_,hq,_⟩:=dd';⟨q,hq⟩;exact gB I (by rw[e];exact True.intro) hs he (qe hl hd (rel.put k rv) dd')
 ·subst ey eH;cases(show u=Value.ref b from ry);obtain⟨z,hd,xs,rel,dd⟩:=Bp I.hok e;have hz:xs.length<=sizeLine:=by rw[<- Paired.length rel];exact z
  have hl:(bv kvs k v).length<=sizeLine:=by have:=bQ kvs k v;lia
  refine wpAny_dictSet_heap (hsz:=hz) (show(cZ m (aA X.prog X.w)).room A from Nat.lt_of_succ_lt hu) (jw I.hok eb) dd λh' dd' hs=>?_;obtain⟨q,es,ep,hq,h2,h3,h4,_,h5⟩:=dd';refine h ep _ ?_;refine gB I (by rw[e];exact True.intro) hs ⟨q,hq⟩ ⟨hl,hd,_,(rel.put k eb rv).keeps λc ys ec=>?_,q,es,hq,h2,h3,h4,h5⟩
  rw[ad (Bh ec e (λz=>nomatch z))]
  exact ec
noncomputable def mX(wi:TI)(g:TG)(tt:TT)(tk te:TE)(o0:HO)(cap:List (Option Nat)):TE:=λY H Q=>wi Y H λJ H1=>∀D,H1 D=P7->∃W:Nat->Nat->St->Hp->Prop,(∃m,W 0 m (cu Y cap) (upd H1 D o0))/\∀i m Y' H',W i m Y' H'->
 (J.stop i H'/\Q (.ref D) H')\/(J.go i H'/\∀x H2,J.yld i H' x H2->g x Y' H2 λY2 H3=>tt Y2 H3 λok H3=>if ok=P8 then tk Y2 H3 λy H4=>te Y2 H4 λv H5=>∃F,DPut H5 D y v F/\∀e,∃m',m'<m/\W (i+1) m' Y2 (F e) else ∃m',m'<m/\W (i+1) m' Y2 H3)
theorem lP(hc:X.calm=P8)(O:eO X N' scope cap)(hi:PI X tg iter wi)(hg:∀C s H ex,PG (aj X N' scope C s H ex) tg g)(ht:∀C s H ex,zj (aj X N' scope C s H ex) ifs tt)(hk:∀C s H ex,PE (aj X N' scope C s H ex) kx tk)(he:∀C s H ex,PE (aj X N' scope C s H ex) elt te)(ho:o0=.dK []\/∃m,o0=.dT m 0 [])(hu:X.A.units+9<cLine){Q:VK}(I:Inv X pins Y H s)(h:mX wi g tt tk te o0 cap Y H Q)(hs:∀x,foldedSetIterable iter X.env x=pure x)(hX:X.xe=E)(hQ:∀(C D:Qc) (s1:Qd) (H1:Hp) (fp:List Qc) (Y':St) (H':Hp) (s':Qd),Inv X pins Y H1 s1->(∀b∈fp,gw X pins H1 b)->Inv (aj X N' scope C s1 H1 fp) [] Y' H' s'->Q (.ref D) H'->
   compPost (Qg X.prog X.w) X.A E use Q' (.ref D) C (.ok .next) s') :
  Qf (Qg X.prog X.w) X.A (comprehension (.DictComp kx elt [⟨tg,iter,ifs,0⟩] scope pos) scope X.env cpos newDict Qb (eval iter X.env) use) Q' E s:=by
 have hcl:closureFor scope X.env=pure (fx X.env.cells scope.names []):=fF λy hy e=>I.ok.has _ (O.free y hy e);refine wpAny_comprehension_free (g:=⟨tg,iter,ifs,0⟩) (gs:=[]) rfl hs hcl O.kind O.names ?_;subst hX;refine aV (hi pins s Y H _ I h) λv s1 h1=>aV h1 λitv s2 h2=>?_;obtain⟨it,fp,tn,J,H2,e,I2,T,st2,f2,hW⟩:=h2;subst e;refine QB (fG ?_);dsimp only;generalize hH2:s2.heap.push { cls:=.type "dict",dict:=P7,data:=.dict #[] }=HH;have hCs:HH.objs.size=s2.heap.objs.size+1:=by rw[<- hH2,NC]
 have hDC:s2.heap.objs.size<HH.objs.size:=by rw[hCs];exact Nz _
 generalize hh1:pushCells (HH.push { cls:=.type "dict",data:=.dict #[] }) scope.names=h₁;have kp:∀b o,HH.get? b=P6 o->h₁.get? b=P6 o:=λb o e=>hh1▸pushCells_keeps _ _ b o (MC _ e);have hns₁:h₁.Ns HH.objs.size λ_=>P7:=hh1▸(Heap.Ns.new HH (.type "dict")).keeps (pushCells_keeps _ _)
 have hcs:∀x c,(Qq (HH.objs.size+1) scope.names []).lookup x=P6 c->h₁.IsCell c P7:=λx c e=>by
  have ok:=cellsFrom_ok scope.names (HH.push { cls:=.type "dict",data:=.dict #[] }) 0 [] ⟨λ_ _ hm=>(nomatch hm),List.Pairwise.nil⟩ (M4 _)
  rw[NC] at ok;exact hh1▸(ok.empty x c (bN e)).1
 have old:∀b o,s2.heap.get? b=P6 o->h₁.get? b=P6 o:=λb o e=>kp b o (hH2▸MC _ e)
 have new:ObjOk X.prog X.w (upd H2 s2.heap.objs.size o0) h₁ s2.heap.objs.size o0:=by
  have big:=I2.big;have hb:(s2.heap.objs.size==sysModules)=Qb:=beq_eq_false_iff_ne.mpr (Ne.symm (MM big));have eo:h₁.get? s2.heap.objs.size=P6 { cls:=.type "dict",data:=.dict #[] }:=kp _ _ (hH2▸MP _ rfl);rcases ho with rfl|⟨m,rfl⟩
  ·exact⟨M4 _,hb,[],.nil,let ⟨q,es,ep,hq,r⟩:=Heap.DictOf.new (knd:=aA X.prog X.w) s2.heap;⟨q,es,ep,by rw[eo,<- hq];exact(MP _ rfl).symm,r⟩⟩
  ·exact⟨M4 _,hb,[],.nil,_,#[],eo,⟨rfl,rfl,rfl⟩,rfl,rfl,Pl⟩
 have hfo:∀b∈fp,b<s2.heap.objs.size:=λb hb=>let ⟨o,e,_⟩:=T.obj 0 _ st2 b hb;MD e;have hfree:=I2.hok.fresh (MH s2.heap.objs.size);obtain⟨W,⟨m0,w0⟩,turn⟩:=hW s2.heap.objs.size hfree;have J0:=n9 (tk:=s2.toks) (o:=o0) I2 O f2 hfo (C:=HH.objs.size) (D:=s2.heap.objs.size) (by rw[hCs];exact Oa _) (MH _) hDC hcs hns₁ old new;have st0:tn 0 h₁:=T.keep 0 _ _ st2 λb _ o e=>old b o e
 have fr0:∀b∈fp,(upd H2 s2.heap.objs.size o0) b=P7:=λb hb=>by
  rw[ad (MM (hfo b hb))];exact(f2 b hb).1
 have stat:∀{H':Hp},(∀b∈fp,H' b=P7)->∀b∈fp,gw (aj X N' scope HH.objs.size s2 H2 fp) [] H' b:=λhn b hb=>
  ⟨hn b hb,(J0.ok.exf b hb).1,J0.ok.exfs b hb,.inl hb,(J0.ok.exf b hb).2,λp hp=>absurd hp (by simp[aj])⟩
 have loop:codeAny (Qg X.prog X.w) X.A (.compLoop (.DictComp kx elt [⟨tg,iter,ifs,0⟩] scope pos) 0 (.ref it) (.ref s2.heap.objs.size) (compEnvC scope (C6 X.env.cells scope.names HH.objs.size) HH.objs.size X.env))
   (compPost (Qg X.prog X.w) X.A X.xe use Q' (.ref s2.heap.objs.size) HH.objs.size) { s2 with heap:=h₁,toks:=s2.toks }:=by
  refine lf (λn s'=>∃i Y' H',Inv (aj X N' scope HH.objs.size s2 H2 fp) [] Y' H' s'/\tn i s'.heap/\(∀b∈fp,H' b=P7)/\W i n Y' H') ?_ m0 ⟨0,_,_,J0,st0,fr0,w0⟩
  rintro n s3 ⟨i,Y3,H3,I3,st3,fr3,w3⟩
  rcases turn i n Y3 H3 w3 with⟨stop,qn⟩|⟨go,step⟩
  ·refine aV (T.done (aj X N' scope HH.objs.size s2 H2 fp) rfl rfl rfl hc i [] s3 Y3 H3 _ I3 (stat fr3) st3 stop) λr s4 ⟨hr,I4⟩=>?_;subst hr;exact hQ _ _ s2 H2 fp Y3 H3 s4 I2 f2 I4 qn
  ·refine aV (T.item (aj X N' scope HH.objs.size s2 H2 fp) rfl rfl rfl hc i [] s3 Y3 H3 _ I3 (stat fr3) st3 go) λr s4 ⟨u,hr,h4⟩=>?_;subst hr;refine aV h4 λ_ s5 ⟨x,H5,I5,r5,y5,st5,fr5⟩=>?_;have I5':=I5.pinned (stat fr5) (T.obj _ _ st5);refine aV (hg _ _ _ _ _ s5 Y3 H5 x u _ I5' r5 (step x H5 y5)) λ_ s6 ⟨Y6,H6,I6,q6⟩=>?_;refine aV (ht _ _ _ _ _ s6 Y6 H6 _ I6 q6) λok s6' ⟨H6',I6',q6'⟩=>?_
   cases ok with
   |false=>
    rw[if_neg NA] at q6'⊢;obtain⟨m',hm,w7⟩:=q6';refine⟨m',hm,i+1,Y6,_,I6'.unpinned,T.keep _ _ _ st5 λb hb o e=>(I6'.pin (b,o) (MN _ (MN _ (ba hb e)))).1,λb hb=>?_,w7⟩;obtain⟨o,e,d⟩:=T.obj _ _ st5 b hb;exact(I6'.pin (b,o) (MN _ (MN _ (ba hb e)))).2.1
   |true=>
   rw[if_pos rfl] at q6'⊢;refine aV (hk _ _ _ _ _ s6' Y6 H6' _ I6' q6') λkv s7 ⟨y,H7,I7,r7,q7⟩=>?_;refine aV (he _ _ _ _ _ s7 Y6 H7 _ I7 q7) λvv s8 ⟨v,H8,I8,r8,F,gF,qF⟩=>?_;refine u5 (X:=aj X N' scope HH.objs.size s2 H2 fp) hu I8 gF r7 r8 λe s9 I9=>?_;obtain⟨m',hm,w7⟩:=qF e;refine⟨m',hm,i+1,Y6,_,I9.unpinned,T.keep _ _ _ st5 λb hb o e=>(I9.pin (b,o) (MN _ (MN _ (ba hb e)))).1,λb hb=>?_,w7⟩;obtain⟨o,e,d⟩:=T.obj _ _ st5 b hb;exact(I9.pin (b,o) (MN _ (MN _ (ba hb e)))).2.1
 exact codeAny_compStart_dict loop (T.self _ 0 _ _ _ st0 loop)
theorem xz(hc:X.calm=P8)(O:eO X N' scope cap)(hi:PI X tg iter wi)(hg:∀C s H ex,PG (aj X N' scope C s H ex) tg g)(ht:∀C s H ex,zj (aj X N' scope C s H ex) ifs tt)(hk:∀C s H ex,PE (aj X N' scope C s H ex) kx tk)(he:∀C s H ex,PE (aj X N' scope C s H ex) elt te)(ho:o0=.dK []\/∃m,o0=.dT m 0 [])(hu:X.A.units+9<cLine)(hs:∀x,foldedSetIterable iter X.env x=pure x:=by intro _;rfl):PE X (.DictComp kx elt [⟨tg,iter,ifs,0⟩] scope pos) (mX wi g tt tk te o0 cap):=by
 intro pins s Y H Q I h;show Qf _ _ (comprehension (.DictComp kx elt [⟨tg,iter,ifs,0⟩] scope pos) scope X.env _ newDict Qb (eval iter X.env) P7) _ _ s;refine lP (use:=P7) (Q':=EP X pins Y Q) hc O hi hg ht hk he ho hu I h hs rfl λC D s1 H1 fp Y' H' s' I1 f1 J q=>?_;obtain⟨m,hn,_⟩:=J.loc;exact⟨m,hn,λh' hsb=>⟨.ref D,H',gE I1 f1 J hsb,rfl,q⟩⟩
theorem xA{cpos pos' pos:Pos}{i:Nat}{x:Str}(hc:X.calm=P8)(O:eO X N' scope cap)(hi:PI X tg iter wi)(hg:∀C s H ex,PG (aj X N' scope C s H ex) tg g)(ht:∀C s H ex,zj (aj X N' scope C s H ex) ifs tt)(hk:∀C s H ex,PE (aj X N' scope C s H ex) kx tk)(he:∀C s H ex,PE (aj X N' scope C s H ex) elt te)(ho:o0=.dK []\/∃m,o0=.dT m 0 [])(hu:X.A.units+9<cLine)(hs:∀x,foldedSetIterable iter X.env x=pure x)(hN:X.N.Nodup)(hix:X.N[i]?=P6 x)(hx:Cq X.env.scope x)(hf:X.fn x=P8\/X.env.scope.names.lookup x=P6 .local)(hsw:swapsWith (.DictComp kx elt [⟨tg,iter,ifs,0⟩] scope cpos) (P6 (.Name x pos')) pos.line X.env=pure P8) :
  PS X (.Assign [.Name x pos'] (.DictComp kx elt [⟨tg,iter,ifs,0⟩] scope cpos) pos) (yW (mX wi g tt tk te o0 cap) (gu i)):=by
 intro pins s Y H D I h;rw[exec_Assign_Name_used _ _ _ _ hsw];refine Qe (wpAny_standAt (Qe ?_));show Qf _ _ (do let _ <- comprehension (.DictComp kx elt [⟨tg,iter,ifs,0⟩] scope cpos) scope X.env _ newDict Qb (eval iter X.env) (P6 (assign (.Name x pos') X.env))) _ _ s;refine Qe (wpAny_mono (lP (use:=P6 (assign (.Name x pos') X.env)) (Q':=λ_ s'=>∃Y' H',Inv X pins Y' H' s'/\D.nx Y' H') hc O hi hg ht hk he ho hu I h hs rfl λC D1 s1 H1 fp Y' H' s' I1 f1 J q=>?_) (λ_ s' hq=>Qh (Qh hq)) λ_ _ e=>e);show Qf _ _ (assign (.Name x pos') X.env (.ref D1)) _ _ s';have I2:Inv X pins Y H' s':=gE I1 f1 J (Heap.SameBut.refl C s'.heap);have hC:s1.heap.objs.size<=C:=J.ok.above;have old:∀b o,s1.heap.get? b=P6 o->b≠C:=λb o e=>MM (MG (MD e) hC);obtain⟨m1,⟨oL,_,_,gL,_⟩,_⟩:=id I1.loc;have hL:X.env.locals≠C:=old _ _ gL
 have hcl:∀x c,X.env.cells.lookup x=P6 c->c≠C:=λx c e=>by
  obtain⟨v,o,g,_⟩:=I1.cell x c e;exact old _ _ g
 have hpn:∀p∈X.pn++pins,p.1≠C:=λp hp=>old _ _ (I1.pin p hp).1
 have h0:X.s₀.heap.objs.size<=C:=by
  refine M0 ?_ hC;exact Of (M9 I1.ok.above (MD gL))
 obtain⟨m,hn,_⟩:=J.loc;refine wpAny_assign_Name (ij I2 hN hix hx (v:=.ref D1) rfl (λs3 I3 hsb=>?_) hf);obtain⟨a,hsb,ha⟩:=hsb
 have hCa:C≠a:=by
  rcases ha with rfl|ha
  ·exact Ne.symm hL
  ·exact Ne.symm (hcl _ _ ha)
 exact⟨m,hn.sameBut hsb hCa,λh' hs'=>⟨_,H',I3.junk hs' h0 hL hcl hpn J.free,q⟩⟩
end
end L2
namespace J
open PySem PySem.Spec L2
noncomputable def fA(tg:IT)(ft:Ro->Option Bool)(fk fe:Ro->Option KD)(Z0:Ro)(d:D):Option (Option (D×D)):=match pQ tg d with
 |some ps=>if bI ps Z0=P8 then(match ft (setAll ps Z0) with
  |some P8=>(match fk (setAll ps Z0) with
   |some k=>(match fe (setAll ps Z0) with
    |some y=>if i0 y.1 y.2=P8 then P6 (P6 (k.2,y.2)) else P7
    |none=>P7)
   |none=>P7)
  |some Qb=>P6 P7
  |none=>P7) else P7
 |none=>P7
noncomputable def xB(t:Nat)(a:List DK×List D)(k y:D):Option (List DK×List D):=match j0 k with
 |some k=>if iy t k=P8 then(match aI a.1 k with
  |some j=>if a.1.Nodup then P6 (a.1,a.2.set j y) else P7
  |none=>P6 (a.1++[k],a.2++[y])) else P7
 |none=>P7
noncomputable def dU(t:Nat)(f:D->Option (Option (D×D))):List D->List DK×List D->Option (List DK×List D)
 |[],a=>P6 a
 |d::ds,a=>match f d with
  |some (P6 p)=>(match xB t a p.1 p.2 with
   |some a'=>dU t f ds a'
   |none=>P7)
  |some P7=>dU t f ds a
  |none=>P7
noncomputable def iQ(t:Nat)(it:Option (List Nat×List D))(f:D->Option (Option (D×D))):Option KD:=match it with
 |some (_,ds)=>if ds.length<=100000 then(match dU t f ds ([],[]) with
  |some a=>P6 (.fr (.own [] .fz),.nd (.dic t a.1) a.2)
  |none=>P7) else P7
 |none=>P7
noncomputable def qT:Nat->HO
 |0=>.dK []
 |m+1=>.dT m 0 []
theorem Aw:∀t,du K (qT t) (.dic t []) []
 |0=>.inl ⟨rfl,[],rfl,rfl,rfl⟩
 |m+1=>.inr ⟨m,rfl,[],0,rfl,rfl,rfl⟩
theorem tF:∀t xs,qT t≠.tup xs
 |0,_,h=>by cases h
 |_+1,_,h=>by cases h
section
variable {X:Cx} {U:eQ} {c:Cz}
theorem tG(O:ao X U c){z:Nat}{fi:Ro->Option (List Nat×List D)}{ft:Ro->Option Bool}{fk fe:Ro->Option KD}{kx elt tg iter:P9}{ifs:List P9}{scope:Qo}{t:IT}{n:Nat}(hck:aW c scope=P8)(hi:SndI X fi tg iter)
  (htg:mH ⟨eL scope c.sc,ac scope,eR scope⟩ n tg=P6 t)
  (hft:∀C s H ex,i6 (aj X (ac scope) scope C s H ex) ft ifs) (hfk:∀C s H ex,SndE (aj X (ac scope) scope C s H ex) fk kx) (hfe:∀C s H ex,SndE (aj X (ac scope) scope C s H ex) fe elt)
  {Z:Ro} {kd:Kd} {d:D} (h:iQ z (fi Z) (fA t ft fk fe (a9 Z (aq c scope)))=P6 (kd,d)) {g:Gh} {Y:L2.St} {H:Hp} {Q:VK} (se:SE X.K g Z Y H) (q:∀v H',Same H H'->VR X.K g H H' kd d v->Q v H') :
  mX (wI X tg iter) (λv Y H Q=>∀C s H0 ex,wG (aj X (ac scope) scope C s H0 ex) tg v Y H Q) (λY H Q=>∀C s H0 ex,DF (aj X (ac scope) scope C s H0 ex) ifs Y H Q) (λY H Q=>∀C s H0 ex,wE (aj X (ac scope) scope C s H0 ex) kx Y H Q) (λY H Q=>∀C s H0 ex,wE (aj X (ac scope) scope C s H0 ex) elt Y H Q) (qT z) (aq c scope) Y H Q:=by
 have hcap:kg (aq c scope)=P8:=by
  simp only[aW,MA] at hck;exact hck.1.2
 unfold iQ at h;split at h
 ·rename_i bs ds hit;split at h
  ·rename_i hlen;split at h
   ·rename_i af hm;cases h;have CO:=cr O hck;refine hi Z bs ds hit g Y H _ se λjj src H1 s1 jt sp sf D hD=>?_;have se1:SE X.K (g.re (iC (aq c scope))) (a9 Z (aq c scope)) (cu Y (aq c scope)) H1:=(se.same s1).cap hcap;generalize hg':g.re (iC (aq c scope))=g' at se1;have gS:∀b,Sg g' b↔Sg g b:=λb=>by rw[<- hg'];exact jm b
    generalize hZ:a9 Z (aq c scope)=Zc at se1 hm;generalize hY:cu Y (aq c scope)=Yc at se1;clear hZ hY
    refine⟨λi m Y' H'=>m=ds.length-i/\i<=ds.length/\∃(a:List DK×List J.D) (us:List V) (o:HO),dU z (fA t ft fk fe Zc) (ds.drop i) a=P6 af/\us.length<=i/\SE X.K (g'.plus λb=>b=D) Zc Y' H'/\
      (∀b o,H1 b=P6 o->H' b=P6 o)/\H' D=P6 o/\(∀xs,o≠.tup xs)/\du X.K o (.dic z a.1) us/\RpL X.K H' (Sg (g'.plus λb=>b=D)) a.2 us,
     ⟨ds.length,by simp,M4 _,([],[]),[],qT z,hm,MH _,?_,λb o e=>ak hD _ _ e,ai,tF z,Aw z,.nil⟩,?_⟩
    ·exact se1.plus (ak hD) (λb w=>w▸hD) λb w=>⟨qT z,w▸ai,tF z⟩
    rintro i m Y' H' ⟨rfl,hi',a,us,o,hev,hul,se',kk,gD,hmu,hhd,rl⟩
    have gpS:∀b,Sg (g'.plus λb=>b=D) b↔Sx g (λb=>b=D) b:=λb=>(am b).trans (or_congr (gS b) Iff.rfl);have hnew:∀b o,H1 b=P6 o->b≠D:=λb o e w=>by rw[w,hD] at e;cases e
    have sp':src.P X.K (g'.plus λb=>b=D) H':=Src.mono (λb o e n w=>((gpS b).mp w).elim n (hnew b o e)) (λb o _ e=>kk b o e) (λa e=>sf.from_t e) sp;obtain⟨j1,j2⟩:=jt i _ H' sp' se'.mu;by_cases hlt:i<ds.length
    ·have hd:ds[i]?=P6 ds[i]:=MK hlt;obtain⟨go,yl⟩:=j2 _ hd;rw[M6 hlt] at hev;refine .inr ⟨go,λx H2 hy C s0 H0 ex=>?_⟩;obtain⟨s2,rx⟩:=yl x H2 hy
     cases ho0:fA t ft fk fe Zc ds[i] with
     |none=>unfold dU at hev;rw[ho0] at hev;cases hev
     |some o1=>
      have he:=ho0;unfold fA at he;split at he
      ·rename_i ps hps;split at he
       ·rename_i hno;refine sd (oI (CO C s0 H0 ex) n htg) (gR hps rx λvs hvs C1 s01 H01 ex1=>?_);have t1:=SE.setAll hvs (se'.same s2);obtain⟨t2,t3⟩:=SE.passAll hvs hno (se'.same s2);split at he
        ·rename_i hT;refine hft C1 s01 H01 ex1 _ P8 hT _ _ _ _ t1 λH3 s3=>vY λC2 s02 H02 ex2=>?_;split at he
         ·rename_i ke hke;split at he
          ·rename_i ye hye;split at he
           ·rename_i hok;cases he;obtain⟨kk',dk⟩:=ke;obtain⟨ky,dy⟩:=ye
            have hev':(match xB z a dk dy with|some a'=>dU z (fA t ft fk fe Zc) (ds.drop (i+1)) a'|none=>P7)=P6 af:=by
             unfold dU at hev;rw[ho0] at hev;exact hev
            refine hfk C2 s02 H02 ex2 _ kk' dk hke _ _ H3 _ (t1.same s3) λvk H4 s4 r4 C3 s03 H03 ex3=>?_;refine hfe C3 s03 H03 ex3 _ ky dy hye _ _ H4 _ ((t1.same s3).same s4) λvy H5 s5 r5=>?_;have s25:Same H' H5:=((s2.trans s3).trans s4).trans s5;have ry:=r5.sh hok ((t1.same s3).same s4).mu s5;have rk:Rp X.K H5 (λ_=>False) dk vk:=r4.rd.go λb o n e=>⟨s5 b o e,λw=>w⟩;have gD5:H5 D=P6 o:=s25 _ _ gD;have rl5:RpL X.K H5 (Sg (g'.plus λb=>b=D)) a.2 us:=rl.go λb o n e=>⟨s25 b o e,n⟩;have inD:Sg (g'.plus λb=>b=D) D:=(am D).mpr (.inr rfl)
            have fin:∀(o':HO) (a':List DK×List J.D) (us':List V),dU z (fA t ft fk fe Zc) (ds.drop (i+1)) a'=P6 af->us'.length<=i+1->(∀xs,o'≠.tup xs)->du X.K o' (.dic z a'.1) us'->RpL X.K H5 (Sg (g'.plus λb=>b=D)) a'.2 us'->
              ∃m',m'<ds.length-i/\m'=ds.length-(i+1)/\i+1<=ds.length/\∃(a:List DK×List J.D) (us:List V) (o:HO),dU z (fA t ft fk fe Zc) (ds.drop (i+1)) a=P6 af/\us.length<=i+1/\SE X.K (g'.plus λb=>b=D) Zc (gQ vs Y') (upd H5 D o')/\
              (∀b o,H1 b=P6 o->upd H5 D o' b=P6 o)/\upd H5 D o' D=P6 o/\(∀xs,o≠.tup xs)/\du X.K o (.dic z a.1) us/\RpL X.K (upd H5 D o') (Sg (g'.plus λb=>b=D)) a.2 us:=λo' a' us' e1 e2 e3 e4 e5=>
             ⟨_,by lia,rfl,hlt,a',us',o',e1,e2,SE.upd (((t2.same s3).same s4).same s5) (aO rfl) e3,λb o e=>by rw[ad (hnew b o e)];exact s25 _ _ (kk b o e),ai,e3,e4,e5.go λb o n e=>⟨by rw[ad (λw=>n (by rw[w];exact inD))];exact e,n⟩⟩
            have hz:us.length<sizeLine:=M9 hul (MG hlt (aF hlen))
            cases hp:xB z a dk dy with
            |none=>rw[hp] at hev';cases hev'
            |some a'=>
             rw[hp] at hev';unfold xB at hp;split at hp
             ·rename_i k' hk';split at hp
              ·rename_i hfit;obtain⟨p1,p2⟩:=tu (v:=vy) gD5 hhd hk' rk hfit hz;split at hp
               ·rename_i jn hj;split at hp
                ·rename_i hnd;cases hp;obtain⟨o',dp,po⟩:=p1 jn hj hnd;exact⟨_,dp,λe=>fin (o' e) _ (us.set jn vy) hev' (by rw[N1];lia) (po e).1 (po e).2 (RpL.set jn rl5 ry)⟩
                ·cases hp
               ·rename_i hj;cases hp;obtain⟨o',dp,po⟩:=p2 hj;exact⟨_,dp,λe=>fin (o' e) _ (us++[vy]) hev' (by rw[MX,Pk];lia) (po e).1 (po e).2 (rl5.append (.cons ry .nil))⟩
              ·cases hp
             ·cases hp
           ·cases he
          ·cases he
         ·cases he
        ·rename_i hT;cases he;have hev':dU z (fA t ft fk fe Zc) (ds.drop (i+1)) a=P6 af:=by unfold dU at hev;rw[ho0] at hev;exact hev
         refine hft C1 s01 H01 ex1 _ Qb hT _ _ _ _ t1 λH3 s3=>vX ?_;have jA:=s2.trans s3;exact⟨ds.length-(i+1),by lia,rfl,hlt,a,us,o,hev',by lia,t2.same s3,λb o e=>jA _ _ (kk b o e),jA _ _ gD,hmu,hhd,rl.go λb o n e=>⟨jA b o e,n⟩⟩
        ·cases he
       ·cases he
      ·cases he
    ·have e:i=ds.length:=by lia
     subst e;rw[Oo] at hev;cases hev;refine .inl ⟨j1 (MH _),q _ H' (λb o e=>kk b o (s1 _ _ e)) ⟨λb=>b=D,λb w=>s1.free (w▸hD),?_⟩⟩;show Tr _ _ _ _ _ _ _;unfold Tr
     exact⟨D,o,us,λ_=>False,rfl,gD,hhd,λ_ w=>w,(λh=>nomatch h),λb=>⟨λw=>.inl ⟨rfl,w⟩,λw=>w.elim (λw=>w.2) λw=>w.elim⟩,.ofFz (rl.weak λb w=>(gpS b).mpr w)⟩
   ·cases h
  ·cases h
 ·cases h
theorem tH:∀z,qT z=.dK []\/∃m,qT z=.dT m 0 []
 |0=>.inl rfl
 |m+1=>.inr ⟨m,rfl⟩
theorem Ax(O:ao X U c){z:Nat}{fi:Ro->Option (List Nat×List D)}{ft:Ro->Option Bool}{fk fe:Ro->Option KD}{kx elt tg iter:P9}{ifs:List P9}{scope:Qo}{pos:Pos}{t:IT}{n:Nat}(hck:aW c scope=P8)(hns:c9 iter=P8)(hi:SndI X fi tg iter)
  (htg:mH ⟨eL scope c.sc,ac scope,eR scope⟩ n tg=P6 t)
  (hft:∀C s H ex,i6 (aj X (ac scope) scope C s H ex) ft ifs) (hfk:∀C s H ex,SndE (aj X (ac scope) scope C s H ex) fk kx) (hfe:∀C s H ex,SndE (aj X (ac scope) scope C s H ex) fe elt) :
  SndE X (λZ=>iQ z (fi Z) (fA t ft fk fe (a9 Z (aq c scope)))) (.DictComp kx elt [⟨tg,iter,ifs,0⟩] scope pos):=by
 intro Z kd d h g Y H Q se q
 exact au (xz (N':=ac scope) (cap:=aq c scope) O.calm (c8 O hck) uJ
  (λC s H0 ex pins s' Y' H' v u Q' I r hh=>uK pins s' Y' H' v u Q' I r (hh C s H0 ex)) (λC s H0 ex pins s' Y' H' Q' I hh=>hh C s H0 ex pins s' I) (λC s H0 ex pins s' Y' H' Q' I hh=>hh C s H0 ex pins s' I) (λC s H0 ex pins s' Y' H' Q' I hh=>hh C s H0 ex pins s' I) (tH z) (M9 (NZ (by decide:9<=100) _) O.tab.units) (cW hns)) (tG O hck hi htg hft hfk hfe h se q)
theorem qU{x:Str}{n:Nat}:∃b:Bool,swapsWith (.DictComp kx elt [⟨tg,iter,ifs,0⟩] scope cp) (P6 (.Name x p)) n env=pure b:=⟨_,rfl⟩
theorem Et(O:ao X U c){i z:Nat}{x:Str}{fi:Ro->Option (List Nat×List D)}{ft:Ro->Option Bool}{fk fe:Ro->Option KD}{kx elt tg iter:P9}{ifs:List P9}{scope:Qo}{cp p pos:Pos}{t:IT}{n:Nat}(hl:mx c x=P8)(hx:aN x c.N=P6 i)(hck:aW c scope=P8)(hns:c9 iter=P8)(hi:SndI X fi tg iter)(htg:mH ⟨eL scope c.sc,ac scope,eR scope⟩ n tg=P6 t)(hft:∀C s H ex,i6 (aj X (ac scope) scope C s H ex) ft ifs)(hfk:∀C s H ex,SndE (aj X (ac scope) scope C s H ex) fk kx)(hfe:∀C s H ex,SndE (aj X (ac scope) scope C s H ex) fe elt) :
  cR X pn (λZ=>kA pn i ((iQ z (fi Z) (fA t ft fk fe (a9 Z (aq c scope)))).map λkd=>(kd.1,kd.2,Z))) (.Assign [.Name x p] (.DictComp kx elt [⟨tg,iter,ifs,0⟩] scope cp) pos):=by
 have l:=j3 O hl;have hf:=(Ax O (pos:=cp) (z:=z) hck hns hi htg hft hfk hfe);intro Z r h g Y H Dn se q
 cases hv:iQ z (fi Z) (fA t ft fk fe (a9 Z (aq c scope))) with
 |none=>dsimp only at h;rw[hv] at h;cases h
 |some w=>
  obtain⟨kd,d⟩:=w;dsimp only at h;rw[hv] at h
  have post:∀v H',Same H H'->VR X.K g H H' kd d v->gu i v Y H' Dn.nx:=λv H' s r=>by
   obtain⟨F,f1,f2⟩:=r;exact g8 (F:=F) h q (de s f1 λb w=>ee se.mu (f1 b w)) (se.plus s f1 λb w=>f2.dom b w) f2
  obtain⟨b,hb⟩:=qU (kx:=kx) (elt:=elt) (tg:=tg) (iter:=iter) (ifs:=ifs) (scope:=scope) (cp:=cp) (p:=p) (x:=x) (n:=pos.line) (env:=X.env)
  cases b with
  |false=>exact cg (pV (i:=i) (by rw[O.N];exact O.nd) (by rw[O.N];exact aK hx) l.1 av hb l.2) (hf Z kd d hv g Y H _ se post)
  |true=>
   exact cg (xA (N':=ac scope) (cap:=aq c scope) O.calm (c8 O hck) uJ
    (λC s H0 ex pins s' Y' H' v u Q' I r hh=>uK pins s' Y' H' v u Q' I r (hh C s H0 ex)) (λC s H0 ex pins s' Y' H' Q' I hh=>hh C s H0 ex pins s' I) (λC s H0 ex pins s' Y' H' Q' I hh=>hh C s H0 ex pins s' I) (λC s H0 ex pins s' Y' H' Q' I hh=>hh C s H0 ex pins s' I) (tH z) (M9 (NZ (by decide:9<=100) _) O.tab.units) (cW hns)
    (by rw[O.N];exact O.nd) (by rw[O.N];exact aK hx) l.1 l.2 hb) (tG O hck hi htg hft hfk hfe hv se post)
end
end J
namespace L2
open PySem PySem.Spec PyProof.Rows
section
variable {X:Cx} {pins:List (Qc×Obj)} {Y:St} {H:Hp} {s:Qd}
theorem Inv.frz(I:Inv X pins Y H s)(e:H a=P6 u)(he:s.heap.get? a=P6 ob)(h1:∀xs,u≠.tup xs)(h2:∀o v,u≠.frz o v)(h3:∀ps,u≠.tbl ps)(h4:∀x,u≠.own x):Inv X pins Y (upd H a (.frz ob u)) s:=by
 have ne:∀{b:Qc} {o:HO},H b=P6 o->o≠u->upd H a (.frz ob u) b=P6 o:=λ{b o} q n=>by
  rw[ad (λz=>by rw[z,e] at q;cases q;exact n rfl)];exact q
 have hok:HOk X.prog X.w (upd H a (.frz ob u)) s.heap:=λb o q=>by
  by_cases hb:b=a
  ·subst hb;rw[ai] at q;cases q;exact⟨he,(I.hok b _ e).stay (λ_ _ _ y=>y) (λc y=>ne y λz=>h4 _ z.symm) λc xs y=>ne y λz=>h1 _ z.symm⟩
  ·rw[ad hb] at q;exact(I.hok b o q).stay (λ_ _ _ y=>y) (λc y=>ne y λz=>h4 _ z.symm) λc xs y=>ne y λz=>h1 _ z.symm
 have un:Un X.fs [] H (upd H a (.frz ob u)) s.heap s.heap:=⟨λ_ _ q _ _ _=>q,λb o q _ _ _=>⟨o.slots,q⟩,λb o q n _=>by rw[ad (λz=>by rw[z,e] at n;cases n)];exact n,λb o q _=>⟨o,q⟩,λb xs q=>ne q λz=>h1 _ z.symm,λb o v q=>ne q λz=>h2 _ _ z.symm,λb ps q=>⟨#[],by rw[ne q λz=>h3 _ z.symm];simp⟩⟩;exact I.un un hok
end
noncomputable def qV(v a:Qc):Qn->Prop:=λh=>h.IsValuesView v a
noncomputable def tI:V->List V->Hp->VK->Prop:=λx xs H Q=>∃a kvs,x=.ref a/\xs=[]/\H a=P6 (.dK kvs)/\∀v,H v=P7->Q (.ref v) (upd H v (.ext (qV v a)))
theorem u6:Gk X "dict.values" tI:=by
 intro pins s Y H x xs v us Q I r rs h;obtain⟨a,kvs,rfl,rfl,e,q⟩:=h;cases rs;cases(show v=Value.ref a from r);obtain⟨z,hd,vs,rel,dd⟩:=n5 I.hok e;have ty:s.TypeIs (.ref a) "dict":=dd.typeIs;refine call_meetsIn F.slot_dict_values ty F.entry_dict_values (F.args_dict_values_1 _) (meets_dict_values (aA X.prog X.w) a hd) ⟨⟨vs,dd⟩,?_⟩;refine⟨.ref s.heap.objs.size,_,I.laid (a:=s.heap.objs.size) (o:=.ext (qV s.heap.objs.size a)) (t':=s.toks) (λ_ _ q=>MC _ q) (MH _) ?_,rfl,q _ (I.hok.fresh (MH _))⟩;exact⟨⟨_,MP _ rfl,rfl,rfl⟩,⟨_,MP _ rfl⟩,λh1 h2 ⟨o,e1,e2⟩ k=>⟨o,k o e1,e2⟩⟩
noncomputable def Jc(a:Qc)(ob:Obj)(kvs:List (aw×V)):It:=
 ⟨λi H=>H a=P6 (.frz ob (.dK kvs))/\i<kvs.length,λi H x H'=>H'=H/\∃p,kvs[i]?=P6 p/\x=p.2,λi H=>H a=P6 (.frz ob (.dK kvs))/\kvs.length<=i⟩
theorem u7{P:Qi}{w:Qj}{K:Mz}{tg:P9}{ep:Nat}{ob:Obj}{es:Array DictEntry}{kvs:List (aw×V)}(a it:Qc)(hob:ob.data=.dict es ep):nP P w K tg (Jc a ob kvs) [it] it (λi h=>h.IsValIter it a i kvs.length ep) where
 mem:=by simp
 obj:=λi h st b hb=>by
  have e:b=it:=by simpa using hb
  subst e;obtain⟨o,e,c,d⟩:=st;exact⟨o,e,λv z=>by rw[d] at z;cases z⟩
 keep:=λi h h' st k=>st.at λo e=>k it (by simp) o e
 item:=by
  intro X hP hw hK hc i pins s Y H E I hf st hg;subst hP hw hK;obtain⟨hq,hx⟩:=hg;obtain⟨g1,z,hd,vs,rel,dd⟩:=(show ObjOk X.prog X.w H s.heap a (.frz ob (.dK kvs)) from I.hok a _ hq);obtain⟨ep',da⟩:=dd.dictAt;obtain⟨o',es',h1,h2,h3,h4⟩:=id da;rw[g1] at h1;cases h1;rw[hob] at h3;cases h3;have hl:vs.length=kvs.length:=rel.length.symm;obtain⟨f0,f1,f2,f3,f4,f5⟩:=hf it (by simp);rw[<- hl] at st;obtain⟨y,hy⟩:∃y,vs[i]?=P6 y:=⟨vs[i]'(by lia),MK (by lia)⟩;obtain⟨k,v⟩:=y;refine wpAny_pyNext_values_item st da hy λh' st' sb=>?_;have I1:Inv X pins Y H { s with heap:=h' }:=I.turned (t':=s.toks) (λb o hb e=>(sb.2 b hb).trans e) f0 f1 f3 f4 f5;obtain⟨p,hp,_,e2⟩:=Paired.get rel hy;rw[hl] at st';obtain⟨oi,ei,c,d⟩:=id st';exact⟨_,rfl,nQ (s:={ s with heap:=h' }) ei c d (by decide) ⟨p.2,H,I1,e2,⟨rfl,p,hp,rfl⟩,st',λb hb=>(hf b hb).1⟩⟩
 done:=by
  intro X hP hw hK hc i pins s Y H E I hf st hg;subst hP hw hK;obtain⟨hq,hx⟩:=hg;obtain⟨g1,z,hd,vs,rel,dd⟩:=(show ObjOk X.prog X.w H s.heap a (.frz ob (.dK kvs)) from I.hok a _ hq);obtain⟨ep',da⟩:=dd.dictAt;obtain⟨o',es',h1,h2,h3,h4⟩:=id da;rw[g1] at h1;cases h1;rw[hob] at h3;cases h3;have hl:vs.length=kvs.length:=rel.length.symm;obtain⟨f0,f1,f2,f3,f4,f5⟩:=hf it (by simp);rw[<- hl] at st;exact wpAny_pyNext_values_end (I.ok.hd hc) st da (Nd (by lia)) λh' eb=>⟨rfl,I.turned (t':=s.toks) (λb o hb e=>eb b o hb e) f0 f1 f3 f4 f5⟩
 self:=λ_ _ _ _ _ st h=>wpAny_pyIter_valiter st h
noncomputable abbrev xC(R:It->Hp->Prop):VK:=λy H2=>∃v a kvs,y=.ref v/\H2 v=P6 (.ext (qV v a))/\H2 a=P6 (.dK kvs)/\∀ob,R (Jc a ob kvs) (upd H2 a (.frz ob (.dK kvs)))
noncomputable def HN(K:Mz)(tl:TE):TI:=λY H R=>Gq K "dict" tI tl Y H (xC R)
theorem Ay{K:Mz}{a:Qc}{kvs:List (aw×V)}{H:Hp}{R:It->Hp->Prop}(e:H a=P6 (.dK kvs))(q:∀v ob,H v=P7->R (Jc a ob kvs) (upd (upd H v (.ext (qV v a))) a (.frz ob (.dK kvs)))):IV K "dict" (.ref a) H/\tI (.ref a) [] H (xC R):=
 ⟨.inr (.inr (.inl ⟨rfl,.inl ⟨kvs,e⟩⟩)),a,kvs,rfl,rfl,e,λv hv=>⟨v,a,kvs,rfl,ai,by rw[ad (λz=>by rw[z,hv] at e;cases e)];exact e,λob=>q v ob hv⟩⟩
theorem Az{X:Cx}{tg l:P9}{tl:TE}{ap cp:Pos}(hl:PE X l tl)(hbase:attributeBase l "values" X.env (eval l X.env)=eval l X.env)(hline:(ap.endLine==cp.line)=P8):PI X tg (.Call (.Attribute l "values" ap) [] [] cp) (HN X.K tl):=by
 intro pins s Y H R I h;refine aV (CW (T:="dict") (r:=tI) F.plainAttrs_dict F.slot_dict_values F.type_dict_values u6 hl hbase hline pins s Y H (xC R) I h) λy s1 ⟨x,H1,I1,r1,v,a,kvs,ex,hv,ha,q⟩=>?_;subst ex;cases(show y=Value.ref v from r1);obtain⟨w1,_,_⟩:=(show ObjOk X.prog X.w H1 s1.heap v (.ext (qV v a)) from I1.hok v _ hv);obtain⟨z,hd,vs,rel,dd⟩:=n5 I1.hok ha;obtain⟨ep,da⟩:=dd.dictAt;obtain⟨o',es',h1,h2,h3,h4⟩:=id da;have hlen:vs.length=kvs.length:=rel.length.symm;refine wpAny_pyIter_values w1 da ?_;have I2:Inv X pins Y H1 { s1 with heap:=s1.heap.push { cls:=.type "dict_valueiterator",data:=.fields #[.ref a,.int 0 0,.int vs.length 0,.int ep 0] } }:=I1.kept (t':=s1.toks) λb o e=>MC _ e
 have I3:=I2.frz ha (ob:=o') (MC _ h1) (λ_ z=>nomatch z) (λ_ _ z=>nomatch z) (λ_ z=>nomatch z) (λ_ z=>nomatch z)
 refine⟨s1.heap.objs.size,[s1.heap.objs.size],_,_,_,rfl,I3,u7 a _ h3,⟨_,MP _ rfl,rfl,by rw[hlen];rfl⟩,λb hb=>?_,q o'⟩;have e:b=s1.heap.objs.size:=by simpa using hb
 subst e;have hne:s1.heap.objs.size≠a:=λw=>Ng _ (by have:=MD h1;rw[<- w] at this;exact this);refine I1.fpOk (MH _) ?_;rw[ad hne];exact I1.hok.fresh (MH _)
end L2
namespace J
open PySem PySem.Spec L2
noncomputable def xD(i:Nat)(Z:Ro):IR:=match Z[i]? with
 |some (P6 ⟨Qb,.own [] .fz,.nd (.dic 0 ks) ds⟩)=>P6 ([],ds,Z.set i P7)
 |_=>P7
theorem Ky{kvs:List (aw×V)}:gM K (Jc a ob kvs) (.ob a (.frz ob (.dK kvs)) (kvs.map (·.2)) ds) ds:=by
 rintro i g H ⟨h1,rl⟩ m
 have hl:ds.length=kvs.length:=by have:=rl.len;simpa using this.symm
 refine⟨λhi=>⟨h1,by lia⟩,λd hd=>?_⟩;obtain⟨x,e1,e2⟩:=rl.getD hd;have hi:i<ds.length:=(MJ.mp hd).1;refine⟨⟨h1,by lia⟩,λy H' hy=>?_⟩;obtain⟨rfl,p,hp,rfl⟩:=hy;rw[MF,hp] at e1;cases e1;exact⟨Same.refl _,e2⟩
section
variable {X:Cx} {U:eQ} {c:Cz}
theorem HP(O:ao X U c){x:Str}{i:Nat}{tg:P9}{p ap cp:Pos}(hc:eS c x=P6 i)(hbase:attributeBase (.Name x p) "values" X.env (eval (.Name x p) X.env)=eval (.Name x p) X.env)(hline:(ap.endLine==cp.line)=P8):gY X (xD i) tg (.Call (.Attribute (.Name x p) "values" ap) [] [] cp):=by
 intro Z bs ds Z1 h g Y H R se q;unfold xD at h;split at h
 ·rename_i ks ds' e;cases h;obtain⟨v,F0,e1,e2,e3⟩:=se.slot i _ e;unfold Tr at e3;obtain⟨a,o,xs,F',rfl,ga,hd,m1,m2,hF,trl⟩:=e3;rcases hd with⟨_,kvs,rfl,ek,rfl⟩|⟨m,h0,_⟩
  ·have gi:g a=P6 (P6 i):=e2 a ((hF a).mpr (.inl ⟨rfl,rfl⟩));have rl:RpL X.K H (λb=>Sg g b/\¬F' b) ds (kvs.map (·.2)):=TrL.rp (λb z=>z) trl;have inA:Sg g a/\¬F' a:=⟨by rw[Sg,gi];simp,m1 rfl⟩
   have hji:∀(j:Nat) (sl:Sl),(Z.set i P7)[j]?=P6 (P6 sl)->j≠i:=λj sl ej z=>by
    subst z;have hlt:=(MJ.mp ej).1;rw[N1] at hlt;rw[MW hlt] at ej;cases ej
   ·refine gH (Az av hbase hline) (g6 O hc p e1 (Ay ga λv ob hv=>?_));have nv:∀b o,H b=P6 o->b≠v:=λb o e z=>by rw[z,hv] at e;cases e
    have keep:∀b o,b≠a->H b=P6 o->upd (upd H v (.ext (qV v a))) a (.frz ob (.dK kvs)) b=P6 o:=λb o n e=>by rw[ad n,ad (nv b o e)];exact e
    have se':SE X.K g (Z.set i P7) Y (upd (upd H v (.ext (qV v a))) a (.frz ob (.dK kvs))):=by
     refine⟨λj sl ej=>?_,λb z=>?_,by rw[N1];exact se.len⟩
     ·have hj:=hji j sl ej;rw[MV (Ne.symm hj)] at ej;obtain⟨v',F,q1,q2,q3⟩:=se.slot j sl ej;refine⟨v',F,q1,q2,q3.go (λb o hb e=>keep b o (λz=>?_) e) λb o _ n=>n⟩;subst z;rcases hb with hb|hb
      ·exact hb (by rw[Sg,gi];simp)
      ·have:=q2 b hb;rw[gi] at this;cases this;exact hj rfl
     ·obtain⟨o,e,n⟩:=se.mu b z;by_cases hb:b=a
      ·subst hb;exact⟨_,ai,λxs z=>nomatch z⟩
      ·exact⟨o,keep b o hb e,n⟩
    have se2:=mP (i:=i) (F:=λ_=>False) (Z':=Z.set i P7) se' (λ_ z=>z.elim) rfl λj sl ej=>.inl ⟨hji j sl ej,ej⟩;rw[aR λ_ z=>z] at se2;refine q _ (.ob a (.frz ob (.dK kvs)) (kvs.map (·.2)) ds) (g.off i) _ ⟨λb o n e=>keep b o (λz=>n i (z▸gi)) e,λb=>((jD (H:=H) (F:=λ_=>False) (i:=i) (g:=g) λ_ z=>z.elim).out b),λb j z=>.inl ⟨j,(ku z).1⟩,λ_ z=>z.elim,λb o e=>?_⟩ se2 Ky ⟨ai,rl.go λb o n e=>⟨keep b o (λz=>n (by rw[z];exact inA)) e,λz=>n ⟨(ja z).1,λw=>(ja z).2 (e2 b ((hF b).mpr (.inr w)))⟩⟩⟩ (.inl (xi gi));by_cases hb:b=a
    ·subst hb;exact⟨_,ai⟩
    ·exact⟨o,keep b o hb e⟩
  ·cases h0
 ·cases h
end
end J
namespace G
open PySem PySem.Spec PySem.Calls PyProof.Rows L2
theorem qW:typeLookup (.type "zip") "keys" = pure P7:=am_miss_of_fast (by kernel_rfl)
theorem fB:typeLookup (.type "zip") "__getattr__" = pure P7:=by rw[typeLookup_type,builtinLookup_eq_fast];kernel_rfl
theorem dz:entryFor table "zip.__getattribute__" = P6 Builtin.«object.__getattribute__»:=
 entryFor_alias (id':="object.__getattribute__") (by kernel_rfl) (by decide +kernel) (by decide +kernel) (by kernel_rfl)
theorem kF(a:Qc)(fs:Array Qa)(sl:Array (Option Qa))(name:Str)(u:Tok)(hmiss:typeLookup (.type "zip") name=pure P7)(hname:(["__module__","__name__","__qualname__","__doc__","__annotations__"]:List Str).contains name=Qb)(hsz:name.length+100<=sizeLine) :
  Meets (Builtin.«object.__getattribute__» ⟨[.ref a,.str name u],[]⟩) (λA R s=>s.heap.get? a=P6 { cls:=.type "zip",dict:=P7,data:=.fields fs,slots:=sl }/\raisesAttr (.ref a) name A R s):=
 Meets.of_wp λprog w A R s hs=>by
  obtain⟨hp,g,d,tk,os⟩:=s;obtain⟨hx,hs⟩:=hs;have hT:(⟨hp,g,d,tk,os⟩:Qd).TypeIs (.ref a) "zip":=⟨_,hx,rfl⟩;unfold Builtin.«object.__getattribute__»
  repeat (any_goals (first|assumption|wp_step))
  simp only[hname,Nr,if_false]
  repeat (any_goals (first|assumption|wp_step))
  exact wpAny_raiseAttrError hs.1 hs.2 (attrMsg_fits (by decide +kernel) hsz)
theorem AA{A:Qk}{s:Qd}{Q:Option Qa->Qd->Prop}(g1:s.heap.get? a=P6 { cls:=.type "zip",dict:=P7,data:=.fields fs,slots:=sl })(hA:A.handled=P7)(q:∀h' tk,(∀b u,s.heap.get? b=P6 u->h'.get? b=P6 u)->Q P7 { s with heap:=h',toks:=tk }):Qf (Qg prog w) A (getAttr? (.ref a) "keys") Q E s:=by
 obtain⟨hp,g,d,tk,os⟩:=s;have tT:∀t,(⟨hp,g,d,t,os⟩:Qd).TypeIs (.ref a) "zip":=λ_=>⟨_,g1,rfl⟩;have k1:=sub_AttributeError;have k2:=PySem.F.slot_zip_getattribute.lookup;have k3:=PySem.F.slot_zip_getattribute.bind (.ref a);have k4:=fB;unfold getAttr? getAttrBy? getAttrBy;have sz:(("keys":Str).length+100<=sizeLine):=by decide
 repeat (any_goals (first|assumption|exact tT _|((with_reducible show Qf _ _ (call (Value.builtin "zip.__getattribute__") _ _) _ _ _);refine call_meets PySem.F.slot_zip_getattribute (tT _) dz (PySem.F.args_zip_getattribute_2 _ _) (kF a fs sl "keys" _ qW (by decide) sz) ⟨g1,hA,λh1 tk1 e1 n1=>?_⟩)|wp_step))
 obtain⟨t1,u1,he⟩:=n1.there;show Qf _ _ (getattributeRaised _ _ _ _ _ _ _) _ _ _;unfold getattributeRaised;have tE:∀t,(⟨h1,g,d,t,os⟩:Qd).TypeIs (.ref e1) "AttributeError":=λ_=>⟨_,he,rfl⟩
 repeat (any_goals (first|assumption|exact tE _|wp_step))
 all_goals exact q _ _ n1.keeps
end G
namespace G
open PySem PySem.Spec PySem.Calls PyProof.Rows L2
noncomputable def L8(K:Mz)(ta:TA):TE:=λY H Q=>ta Y H λvs H1=>∃l l2 ys,vs=[.ref l,.ref l2]/\SqL K H1 l []/\SqL K H1 l2 ys/\∀d,H1 d=P7->Q (.ref d) (upd H1 d (.dK []))
theorem xE{X:Cx}{a b:P9}(hc:X.calm=P8)(hg:Gl X "dict")(hm:X.mg "dict" = P7)(hg2:Gl X "zip")(hm2:X.mg "zip" = P7)(ha:PA X [a,b] ta)(hs:Qm [a,b] X.env=[(Qb,eval a X.env),(Qb,eval b X.env)])(hs2:Qm [b] X.env=[(Qb,eval b X.env)]) :
  PE X (.Call (.Name "dict" p) [.Call (.Name "zip" p2) [a,b] [] pos2] [] pos) (L8 X.K ta):=by
 intro pins s Y H Q I h;refine wpAny_Call_Name_kw (c0 I hg hm (show bootBuiltins "dict" = P6 (.type "dict") by decide +kernel) ?_ (by decide) (by decide));refine PyProof.Rows.callWith_type1 ?_ rfl rfl;show Qf _ _ (spliced [(Qb,eval (.Call (.Name "zip" p2) [a,b] [] pos2) X.env)]) _ _ s;refine spliced_cons ?_;refine Call_ (c0 I hg2 hm2 boot_zip (PyProof.Rows.callWith_type1 (aV (ha pos2 pins s Y H _ I h) λus s1 ⟨vs,H1,I1,r1,q1⟩=>?_) (by rw[hs,hs2]) (by rw[hs2];rfl)));obtain⟨l,l2,ys,e,hq,hq2,q⟩:=q1;subst e
 cases r1 with
 |cons rx r1=>cases r1 with
  |cons ry r1=>
   cases r1;cases rx;cases ry;obtain⟨its,rv,pl,hz⟩:=I1.list hq;obtain⟨its2,rv2,pl2,hz2⟩:=I1.list hq2;cases rv;refine call_zip_2 pl.isList pl2.isList λh' he hti hto hi1 hi2 hsz hk=>?_;refine spliced_nil ?_;have I2:Inv X pins Y H1 { s1 with heap:=h' }:=I1.kept (t':=s1.toks) hk;have hh:X.A.in1.in1.handled=P7:=I1.ok.hd hc;have z4:s1.heap.objs.size<=h'.objs.size:=by rw[hsz];exact Nl _ _
   have nz:∀k,k<5->h'.objs.size≠s1.heap.objs.size+k:=λk hk e=>by rw[hsz] at e;exact absurd (Nat.add_left_cancel e) (by lia)
   refine callType_codes (Q₁:=λobj s₁=>obj=.ref h'.objs.size/\s₁={ s1 with heap:=h'.push { cls:=.type "dict",data:=.dict #[] } }) PySem.F.kt_called_dict (PySem.F.kt_typeCall_dict_1 _) PySem.F.entry_dict_init (kt_code_dict_new _ ⟨rfl,rfl⟩) ?_
   rintro obj s3 ⟨rfl,rfl⟩
   have dn:(h'.push { cls:=.type "dict",data:=.dict #[] }).DictOf (aA X.prog X.w) h'.objs.size []:=Heap.DictOf.new h';refine⟨dn.typeIs,PySem.F.args_dict_init_2 _ _,?_⟩;have up:∀{b:Qc} {o:Obj},h'.get? b=P6 o->(h'.push { cls:=.type "dict",data:=.dict #[] }).get? b=P6 o:=λe=>MC _ e;unfold Builtin.«dict.__init__»;refine Qe ?_;unfold Builtin.Dict.selfAndRest;refine Qe (wpAny_notOrdered_dict dn.typeIs ?_);show Qf _ _ (pure (h'.objs.size,[Value.ref (s1.heap.objs.size+4)])) _ _ _;refine Qh ?_;show Qf _ _ (Builtin.Dict.updateFrom "dict.__init__" h'.objs.size (.ref (s1.heap.objs.size+4)) [] Value.none) _ _ _;unfold Builtin.Dict.updateFrom;refine Qe (wpAny_typeOf (T:="zip") ⟨_,up he,rfl⟩ ?_);rw[if_pos (by decide)];refine Qe (AA (up he) hh λh1 t1 k1=>?_);refine Qe (wpAny_rule (Qe (wpAny_pyIter_zip (k1 _ _ (up he)) ?_)));refine Qh ⟨plainId_quiet cV _,?_⟩;refine codeAny_builtin iq ?_;rw[Around.under_plainId cV _];show Qf _ X.A.in1.in1 (pyNext (.ref (s1.heap.objs.size+4)) >>= _) _ _ _;have l1:h1.IsList l #[]:=by obtain⟨o,e,r⟩:=pl.isList;exact⟨o,k1 _ _ (up (hk _ _ e)),r⟩
   have l2':h1.IsList l2 its2.toArray:=by obtain⟨o,e,r⟩:=pl2.isList;exact⟨o,k1 _ _ (up (hk _ _ e)),r⟩
   have j1:h1.IsListIter s1.heap.objs.size l 0:=hi1.at λo e=>k1 _ _ (up e);have j2:h1.IsListIter (s1.heap.objs.size+1) l2 0:=hi2.at λo e=>k1 _ _ (up e);have dh:=k1 _ _ (MP h' (o:={ cls:=.type "dict",data:=.dict #[] }) rfl);have old:∀b o,s1.heap.get? b=P6 o->h1.get? b=P6 o:=λb o e=>k1 _ _ (up (hk _ _ e))
   refine Qe (wpAny_pyNext_zip_end (s:={ s1 with heap:=h1,toks:=t1 }) hh (wj (by simp<;>lia) l1 l2' (k1 _ _ (up he)) (k1 _ _ (up hti)) (k1 _ _ (up hto)) j1 j2) (k1 _ _ (up he)) (k1 _ _ (up hti)) (k1 _ _ (up hto)) j1 j2 l1 l2' (.inl rfl) λh3 kp=>?_)
   show Qf _ _ (Builtin.Dict.addKeywords h'.objs.size [] >>= _) _ _ _;refine Qe (Qh (Qh ?_));have d3:h3.get? h'.objs.size=P6 { cls:=.type "dict",data:=.dict #[] }:=kp _ _ (nz 4 (by decide)) (nz 3 (by decide)) (nz 0 (by decide)) (nz 1 (by decide)) dh
   have lt:∀{b:Qc} {o:Obj} (k:Nat),s1.heap.get? b=P6 o->b≠s1.heap.objs.size+k:=λ{b o} k e w=>by
    have:=MD e;rw[w] at this;exact absurd this (Nat.not_lt.mpr (Nl _ _))
   have I3:Inv X pins Y (upd H1 h'.objs.size (.dK [])) { s1 with heap:=h3,toks:=t1 }:=I1.laid (t':=t1) (λb o e=>kp _ _ (lt 4 e) (lt 3 e) (lt 0 e) (lt 1 e) (old b o e)) z4 ⟨M4 _,beq_eq_false_iff_ne.mpr (Ne.symm (MM (MG I1.big z4))),[],.nil,let ⟨q,es,ep,hq,r⟩:=Heap.DictOf.new (knd:=aA X.prog X.w) h';⟨q,es,ep,by rw[d3,<- hq];exact(MP _ rfl).symm,r⟩⟩;exact⟨rfl,.ref h'.objs.size,_,I3,rfl,q _ (I1.hok.fresh z4)⟩
end G
namespace J
open PySem PySem.Spec L2
noncomputable def xF:D->Bool
 |.nd .lst _=>P8
 |_=>Qb
noncomputable def xG:D->Bool
 |.nd .lst []=>P8
 |_=>Qb
noncomputable def LK(a:Option (List KD)):Option KD:=match a with
 |some [x,y]=>if xG x.2=P8/\xF y.2=P8 then P6 (.fr (.own [] .fz),.nd (.dic 0 []) []) else P7
 |_=>P7
theorem xH:∀{d:D},xG d=P8->d=.nd .lst []
 |.nd .lst [],_=>rfl
 |.nd .lst (_::_),h=>by cases h
 |.nd .tup _,h=>by cases h
 |.nd (.dic _ _) _,h=>by cases h
 |.nd (.obj _ _) _,h=>by cases h
 |.non,h=>by cases h
 |.bl _,h=>by cases h
 |.int _,h=>by cases h
 |.str _,h=>by cases h
 |.scr _,h=>by cases h
theorem xI:∀{d:D},xF d=P8->∃ds,d=.nd .lst ds
 |.nd .lst ds,_=>⟨ds,rfl⟩
 |.nd .tup _,h=>by cases h
 |.nd (.dic _ _) _,h=>by cases h
 |.nd (.obj _ _) _,h=>by cases h
 |.non,h=>by cases h
 |.bl _,h=>by cases h
 |.int _,h=>by cases h
 |.str _,h=>by cases h
 |.scr _,h=>by cases h
section
variable {X:Cx} {U:eQ} {c:Cz}
theorem AB(O:ao X U c){fa:Ro->Option (List KD)}{a b:P9}{p p2 pos pos2:Pos}(hg:fJ c.sc "dict" = P8)(hg2:fJ c.sc "zip" = P8)(n1:ah a=P8)(n2:ah b=P8)(hf:jX X fa [a,b]):SndE X (λZ=>LK (fa Z)) (.Call (.Name "dict" p) [.Call (.Name "zip" p2) [a,b] [] pos2] [] pos):=by
 intro Z kd d h g Y H Q se q
 cases ea:fa Z with
 |none=>dsimp only at h;rw[ea] at h;cases h
 |some kds=>
  dsimp only at h;rw[ea] at h
  match kds,h,ea with
  |[],h,_=>cases h
  |[_],h,_=>cases h
  |_::_::_::_,h,_=>cases h
  |[x,y],h,ea=>
   have h:(if xG x.2=P8/\xF y.2=P8 then P6 (Kd.fr (.own [] .fz),D.nd (.dic 0 []) []) else P7)=P6 (kd,d):=h
   split at h
   ·rename_i hx;cases h;refine au (G.xE O.calm (ce O hg) (O.tab.bl _ (by simp[ax])) (ce O hg2) (O.tab.bl _ (by simp[ax])) cH ((ag n1).trans (by rw[ag n2];rfl)) ((ag n2).trans rfl)) (hf Z _ ea g Y H _ se λvs H1 s1 r1=>?_)
    ·have r2:=r1.rd;obtain⟨x1,x2⟩:=x;obtain⟨y1,y2⟩:=y;have e1:=xH hx.1;obtain⟨ds,e2⟩:=xI hx.2;cases(show x2=_ from e1);cases(show y2=_ from e2);unfold RpL at r2;obtain⟨v1,vs1,rfl,q1,q2⟩:=r2;unfold RpL at q2;obtain⟨v2,vs2,rfl,q3,q4⟩:=q2;unfold RpL at q4;cases(show vs2=[] from q4);obtain⟨a1,o1,yK,rfl,_,g1,h1,w1⟩:=q1.nd;obtain⟨a2,o2,us2,rfl,_,g2,h2,w2⟩:=q3.nd;cases(show o1=_ from h1);cases(show o2=_ from h2);unfold RpL at w1;cases(show yK=[] from w1);exact⟨a1,a2,us2,rfl,.of g1,.of g2,λl hl=>q _ _ (s1.trans (ak hl)) ((Bt (hd:=.dic 0 []) (ds:=[]) (xs:=[]) rfl (.inl ⟨rfl,[],rfl,rfl,rfl⟩) hl .nil).older s1)⟩
   ·cases h
end
end J
namespace J
open PySem PySem.Spec L2
noncomputable def Le{α:Type}(a b:Option α):Prop:=∀r,a=P6 r->b=P6 r
theorem Le.refl{α:Type}(a:Option α):Le a a:=λ_ h=>h
structure TabF(P:Program)(w:World)(K:Mz)(mg:Str->Option Value)(base:Heap)(U:eQ)(k:Nat):Prop where
 fn:∀x B,U.fn x=P6 B->(∃f fd ps,FnOk P w K mg base nB k f fd ps (uN K B)/\mg x=P6 (.ref f)/\Nw K (.ref f)=P8/\Binds K fd ps []/\(x==("__debug__":Str))=Qb)\/
  (∃j C f fd ps sp',j+1<=k/\Mk K C f/\FnOk P w K mg base nB j f fd ps sp'/\mg x=P6 (.ref C)/\Binds K fd ps []/\(x==("__debug__":Str))=Qb/\qo C (uN K B) sp')
 cf:∀c fs C,U.cf c=P6 fs->NI K Qp c=P6 (P6 (.ref C))->Cls K C/\∀a∈fs,NoAttr K C a
 fm:∀x sp,U.fm x=P6 sp->∃f fd ps,FnOk P w K mg base nB k f fd ps (sp K)/\mg x=P6 (.ref f)/\Nw K (.ref f)=P8/\Binds K fd ps []/\(x==("__debug__":Str))=Qb
 bl:∀x∈ax,mg x=P7
 cst:∀x d,U.cst x=P6 d->∃u v,mg x=P6 u/\RelV v u/\(∀H S,Rp K H S d v)/\(x==("__debug__":Str))=Qb
noncomputable def kG(k:Nat)(ks:List i8):Ro:=ks.map DV++Nh (k-ks.length) P7
noncomputable def AC(d:D):i8:=(.fz,d)
noncomputable def fC(r:Option Res):Option KD:=match r with
 |some (.rt kd d _)=>if aX kd=P8 then P7 else P6 (kd,d)
 |some (.nx _)=>P6 (.sh,.non)
 |_=>P7
noncomputable def cj(U:GG)(N m k:Nat)(body:bC)(ds:List D):Option KD:=if ds.length=m then fC (aP U N body [] (kG k (ds.map AC))) else P7
noncomputable def outs(m:Nat)(pn:List Nat)(Z:Ro):List (Option i8):=(Np m).map λj=>if j∈pn then(match Z[j]? with|some (P6 ⟨Qb,k,d⟩)=>P6 (k,d)|_=>P7) else P7
noncomputable def fU(m:Nat)(pn:List Nat)(r:Option Res):Option (Kd×D×List (Option i8)):=match r with
 |some (.rt kd d Z)=>if aX kd=P8 then P7 else P6 (kd,d,outs m pn Z)
 |some (.nx Z)=>P6 (.sh,.non,outs m pn Z)
 |_=>P7
noncomputable def iR(U:GG)(N m k:Nat)(pn:List Nat)(body:bC)(ks:List i8):Option (Kd×D×List (Option i8)):=if ks.length=m then fU m pn (aP U N body pn (kG k ks)) else P7
noncomputable def b5(fns:Nms)(an:An)(n:Nat)(N:List Str)(st:Ql):Option bC:=cB fns an n ⟨ab st,N,λ_=>P8⟩ n (aQ st)
theorem lQ{vs:List V}{i:Nat}(h:i<vs.length):(bU N vs)[i]?=(vs.map P6)[i]?:=by
 unfold L2.bU;rw[Nq (by simpa using h)]
theorem qX{N:List Str}{ks:List i8}{vs:List V}(se:SE K g (ks.map DV) (vs.map P6) H)(hl:ks.length<=N.length):SE K g (kG N.length ks) (bU N vs) H:=by
 have hv:ks.length=vs.length:=by simpa using se.len
 refine⟨λi sl e=>?_,se.mu,?_⟩
 ·unfold kG at e;by_cases hi:i<ks.length
  ·rw[Nq (by simpa using hi)] at e;obtain⟨v,F,q1,q2,q3⟩:=se.slot i sl e;exact⟨v,F,by rw[lQ (by rw[<- hv];exact hi)];exact q1,q2,q3⟩
  ·rw[NT (by simpa using hi),N0] at e
   split at e<;>cases e
 ·unfold kG L2.bU;simp only[MX,MB,Pi]
  lia
theorem BN{ds:List D}{vs:List V}(r:RpL K H (Sg g) ds vs)(m:MuOk H (Sg g)):SE K g ((ds.map AC).map DV) (vs.map P6) H:=by
 refine⟨λi sl e=>?_,m,by simp[r.len]⟩;rw[MF,MF] at e
 cases q:ds[i]? with
 |none=>rw[q] at e;cases e
 |some d=>
  rw[q] at e;cases e;obtain⟨v,e1,e2⟩:=r.getD q;exact⟨v,ii,by rw[MF,e1];rfl,λ_ z=>z.elim,.fz e2⟩
theorem jI{g:Gh}{i:Nat}:g.re (λ_=>P7) b≠P6 (P6 i):=λe=>by
 unfold Gh.re at e
 cases q:g b with
 |none=>rw[q] at e;cases e
 |some x=>cases x<;>(rw[q] at e;cases e)
theorem tJ{g:Gh}(h:g b≠P7):g.re (λ_=>P7) b=P6 P7:=by
 unfold Gh.re
 cases q:g b with
 |none=>exact absurd q h
 |some x=>cases x<;>rfl
theorem fu{K:Mz}{g g':Gh}{H H':Hp}{F:Pr}(ev:Evo (g.re λ_=>P7) H g' H' F):Same H H'/\(∀b,F b->H b=P7)/\∀b,Sg g b->Sg g' b:=
 ⟨λb o e=>ev.keep b o (λi q=>jI q) e,λb z=>(ev.tmp b z).2.elim (λ⟨j,q⟩=>absurd q jI) id,λb z=>by rw[Sg,(ev.out b).mp (tJ z)];simp⟩
section
variable {P:Qi} {w:Qj} {K:Mz} {mg:Str->Option Qa} {base:Qn} {fns:Nms} {U:GG} {x qual:Str} {st:Ql} {f:Qc} {fd:Qw} {N ps:List Str} {k n M:Nat} {an:An} {body:bC}
theorem tK(F:Fun K x qual st f fd)(S:ar N ps (ab st))(T:TabF P w K mg base (bx fns U) k)(hc:b5 fns an n N st=P6 body) :
  FnOk P w K mg base nB (k+1) f fd ps (uN K (cj U M ps.length N.length body)):=by
 have hN:ps.length<=N.length:=by
  have:=congrArg OA S.pre;rw[M8] at this
  lia
 refine F.ok S (λvs H Q E h=>?_) (λcdv A outer s H vs Q E hr h=>?_)
 ·obtain⟨ds,g,k',d,r,dm,hB,q⟩:=h;unfold cj at hB;split at hB
  ·rename_i hl;rw[r.len,hl]
  ·cases hB
 ·obtain⟨ds,g,k',d,r,dm,hB,q⟩:=h;unfold cj at hB;split at hB
  ·rename_i hl
   have O:ao (l8 nB P w K mg base N qual (ab st) f cdv A outer s H E).nox (bx fns U) ⟨ab st,N,λ_=>P8⟩:=
    ⟨rfl,rfl,λ_ _=>rfl,rfl,S.nd,⟨λy B hy=>by
     rcases T.fn y B hy with⟨g,gd,qs,h1,h2,h3,h4,h5⟩|⟨j,C,g,gd,qs,sp',hj,h1,h2,h3,h4,h5,h6⟩
     ·exact .inl ⟨k,g,gd,qs,h1,hr,h2,h3,h4,h5⟩
     ·exact .inr ⟨C,j,g,gd,qs,sp',h1,h2,hr.mono hj,h3,h4,h5,h6⟩,T.cf,λy B hy=>by
     obtain⟨g,gd,qs,h1,h2,h3,h4,h5⟩:=T.fm y B hy;exact⟨k,g,gd,qs,h1,hr,h2,h3,h4,h5⟩,T.bl,(by have h:=hr.un;exact M9 (M0 (NZ (by decide:100<=200) _) (N9 (Nl _ _) 200)) h),hr.gd,T.cst⟩⟩
   have m0:MuOk H (Sg (g.re λ_=>P7)):=λb z=>dm b ((jm b).mp z);have r0:RpL K H (Sg (g.re λ_=>P7)) ds vs:=r.weak λb z=>(jm b).mp z;have se:=qX (N:=N) (BN r0 m0) (by simpa[hl] using hN);have sb:bZ _ [] (aP U M body []) (aQ st):=iP U (λs is h=>o5 fns U O PassesOwn.never n h) hc [];refine⟨_,fP,?_⟩;unfold fC at hB;split at hB
   ·rename_i k2 d2 Z2 hex;split at hB
    ·cases hB
    ·rename_i hb;cases hB;refine sb _ _ hex _ (bU N vs) H _ se λv Y' g' H' F ev se' pk vr=>?_;obtain⟨p1,p2,p3⟩:=fu (K:=K) ev;exact q v H' p1 ⟨F,p2,vr.unlend (by simpa using hb) p3⟩
   ·rename_i Z' hex;cases hB;refine sb _ _ hex _ (bU N vs) H _ se λY' g' H' ev se' pk=>?_;obtain⟨p1,p2,p3⟩:=fu (K:=K) ev;exact q .non H' p1 Db
   ·cases hB
  ·cases hB
theorem u8{m:Nat}{pn:List Nat}{Z:Ro}{j:Nat}(h:((outs m pn Z).map FJ)[j]?=P6 (P6 sl)):j<m/\j∈pn/\Z[j]?=P6 (P6 sl):=by
 unfold outs at h;rw[MF,MF] at h;by_cases hj:j<m
 ·rw[Oc hj] at h;simp only[P5,Option.some.injEq] at h;split at h
  ·rename_i hp;split at h
   ·rename_i k d e;cases h;exact⟨hj,hp,e⟩
   ·cases h
  ·cases h
 ·rw[Nd (by simpa using hj)] at h;cases h
theorem xJ{m:Nat}:(outs m pn Z).length=m:=by simp[outs]
theorem tL(F:Fun K x qual st f fd)(S:ar N ps (ab st))(T:TabF P w K mg base (bx fns U) k)(hc:b5 fns an n N st=P6 body) :
  FnOk P w K mg base nB (k+1) f fd ps (z7 K (iR U M ps.length N.length pn body)):=by
 have hN:ps.length<=N.length:=by
  have:=congrArg OA S.pre;rw[M8] at this
  lia
 refine F.ok S (λvs H Q E h=>?_) (λcdv A outer s H vs Q E hr h=>?_)
 ·obtain⟨ks,g,k',d,os,se,hB,q⟩:=h;unfold iR at hB;split at hB
  ·rename_i hl;have:=se.len;simp only[MB] at this;rw[<- this,hl]
  ·cases hB
 ·obtain⟨ks,g,k',d,os,se,hB,q⟩:=h;unfold iR at hB;split at hB
  ·rename_i hl;have hv:ks.length=vs.length:=by simpa using se.len
   have O:ao (l8 nB P w K mg base N qual (ab st) f cdv A outer s H E).nox (bx fns U) ⟨ab st,N,λ_=>P8⟩:=
    ⟨rfl,rfl,λ_ _=>rfl,rfl,S.nd,⟨λy B hy=>by
     rcases T.fn y B hy with⟨g,gd,qs,h1,h2,h3,h4,h5⟩|⟨j,C,g,gd,qs,sp',hj,h1,h2,h3,h4,h5,h6⟩
     ·exact .inl ⟨k,g,gd,qs,h1,hr,h2,h3,h4,h5⟩
     ·exact .inr ⟨C,j,g,gd,qs,sp',h1,h2,hr.mono hj,h3,h4,h5,h6⟩,T.cf,λy B hy=>by
     obtain⟨g,gd,qs,h1,h2,h3,h4,h5⟩:=T.fm y B hy;exact⟨k,g,gd,qs,h1,hr,h2,h3,h4,h5⟩,T.bl,(by have h:=hr.un;exact M9 (M0 (NZ (by decide:100<=200) _) (N9 (Nl _ _) 200)) h),hr.gd,T.cst⟩⟩
   have se0:=qX (N:=N) se (by rw[hl];exact hN);have sb:bZ _ pn (aP U M body pn) (aQ st):=iP U (λs is h=>o5 fns U O PassesOwn.never n h) hc pn
   have fin:∀{g':Gh} {H':Hp} {F:Pr} {Y':L2.St} {Z':Ro},SE K (g'.plus F) Z' Y' H'->PinOk pn (bU N vs) Y'->SE K (g'.plus F) ((outs ps.length pn Z').map FJ) (vs.map P6) H':=λ{g' H' F Y' Z'} s1 pk=>by
    refine⟨λj sl e=>?_,s1.mu,by simp[xJ,<- hv,hl]⟩;obtain⟨h1,h2,h3⟩:=u8 e;obtain⟨v,Fj,q1,q2,q3⟩:=s1.slot j sl h3;exact⟨v,Fj,by rw[<- q1,pk j h2,lQ (by rw[<- hv,hl];exact h1)],q2,q3⟩
   refine⟨_,fP,?_⟩;unfold fU at hB;split at hB
   ·rename_i k2 d2 Z2 hex;split at hB
    ·cases hB
    ·rename_i hb;cases hB;exact sb _ _ hex _ (bU N vs) H _ se0 λv Y' g' H' F ev se' pk vr=>q v g' H' F ev (fin se' pk) vr
   ·rename_i Z' hex;cases hB;refine sb _ _ hex _ (bU N vs) H _ se0 λY' g' H' ev se' pk=>q .non g' H' ii ev (fin (by rw[aR λ_ z=>z];exact se') pk) ⟨λ_ z=>z,by unfold Rp;rfl⟩
   ·cases hB
  ·cases hB
end
noncomputable def cU{α:Type}(U:Nat->Option α)(i:Nat)(B:α):Nat->Option α:=λj=>if j=i then P6 B else U j
noncomputable abbrev GG.addI(U:GG)(i:Nat)(B:Fn):GG:=⟨cU U.fn i B,U.fm⟩
noncomputable abbrev GG.addM(U:GG)(i:Nat)(B:Fm):GG:=⟨U.fn,cU U.fm i B⟩
theorem mY{B ψ:Fn}(h:∀ds,Le (ψ ds) (B ds)){vs:List V}{H:Hp}{Q:VK}{E:XK}(s:uN K ψ vs H Q E):uN K B vs H Q E:=by
 obtain⟨ds,S,k,d,h1,h2,h3,h4⟩:=s;exact⟨ds,S,k,d,h1,h2,h ds _ h3,h4⟩
theorem Eu{B ψ:Fm}(h:∀ds,Le (ψ ds) (B ds)){vs:List V}{H:Hp}{Q:VK}{E:XK}(s:z7 K ψ vs H Q E):z7 K B vs H Q E:=by
 obtain⟨ks,g,kd,d,os,h1,h2,h3⟩:=s;exact⟨ks,g,kd,d,os,h1,h ks _ h2,h3⟩
section
variable {P:Qi} {w:Qj} {K:Mz} {mg:Str->Option Qa} {base:Qn} {fns:Nms} {U:GG} {x qual:Str} {st:Ql} {f:Qc} {fd:Qw} {N ps:List Str} {k n M i:Nat} {an:An} {body:bC}
theorem TabF.up(T:TabF P w K mg base (bx fns U) k):TabF P w K mg base (bx fns U) (k+1):=
  ⟨λy B hy=>by
    rcases T.fn y B hy with⟨g,gd,qs,h1,h2,h3,h4,h5⟩|⟨j,C,g,gd,qs,sp',hj,h1⟩
    · exact .inl ⟨g,gd,qs,h1.mono (Oa k),h2,h3,h4,h5⟩
    · exact .inr ⟨j,C,g,gd,qs,sp',PP hj,h1⟩,T.cf,
   λy B hy=>by obtain⟨g,gd,qs,h1,h2,h3,h4,h5⟩:=T.fm y B hy;exact⟨g,gd,qs,h1.mono (Oa k),h2,h3,h4,h5⟩,T.bl,T.cst⟩
theorem TabF.addI{ψ:Fn}(T:TabF P w K mg base (bx fns U) k)(F:Fun K x qual st f fd)(S:ar N ps (ab st))(hm:mg x=P6 (.ref f))(hb:Binds K fd ps [])(hd:(x==("__debug__":Str))=Qb)
  (hi:fns.fns[i]?=P6 x) (hc:b5 fns an n N st=P6 body) (hψ:∀ds,Le (ψ ds) (cj U M ps.length N.length body ds)):TabF P w K mg base (bx fns (U.addI i ψ)) (k+1):=by
 refine⟨λy B hy=>?_,T.cf,T.up.fm,T.bl,T.cst⟩;have hy:(aN y fns.fns).bind (cU U.fn i ψ)=P6 B:=hy
 cases hj:aN y fns.fns with
 |none=>rw[hj] at hy;cases hy
 |some j=>
  rw[hj] at hy;have hy':cU U.fn i ψ j=P6 B:=hy;unfold cU at hy';split at hy'
  ·rename_i e;subst e;cases hy'
   have hyx:y=x:=by
    have:=aK hj;rw[hi] at this;exact(Option.some.inj this).symm
   subst hyx;exact .inl ⟨f,fd,ps,(tK (n:=n) (an:=an) (M:=M) F S T hc).imp λvs H Q E s=>mY hψ s,hm,F.kp,hb,hd⟩
  ·exact T.up.fn y B (by show(aN y fns.fns).bind U.fn=_;rw[hj];exact hy')
theorem TabF.addM{ψ:Fm}(T:TabF P w K mg base (bx fns U) k)(F:Fun K x qual st f fd)(S:ar N ps (ab st))(hm:mg x=P6 (.ref f))(hb:Binds K fd ps [])(hd:(x==("__debug__":Str))=Qb)(hi:fns.fns[i]?=P6 x)(hc:b5 fns an n N st=P6 body)(hψ:∀ds,Le (ψ ds) (iR U M ps.length N.length pn body ds)):TabF P w K mg base (bx fns (U.addM i ψ)) (k+1):=by
 refine⟨T.up.fn,T.cf,λy sp hy=>?_,T.bl,T.cst⟩;have hy:(aN y fns.fns).bind (λj=>(cU U.fm i ψ j).map λB=>λK=>z7 K B)=P6 sp:=hy
 cases hj:aN y fns.fns with
 |none=>rw[hj] at hy;cases hy
 |some j=>
  rw[hj] at hy;obtain⟨B,hy',rfl⟩:=aL (show(cU U.fm i ψ j).map _=P6 sp from hy);unfold cU at hy';split at hy'
  ·rename_i e;subst e;cases hy'
   have hyx:y=x:=by
    have:=aK hj;rw[hi] at this;exact(Option.some.inj this).symm
   subst hyx;exact⟨f,fd,ps,(tL (n:=n) (an:=an) (M:=M) (pn:=pn) F S T hc).imp λvs H Q E s=>Eu hψ s,hm,F.kp,hb,hd⟩
  ·exact T.up.fm y _ (by show jo fns U y=_;unfold jo;rw[hj,Nm,hy'];rfl)
end
theorem Ev{ns:List Int}(hS:SqL K H a (ns.map V.int))(h:B [.scr ns]=P6 (.sh,.bl P8)):uN K B [.ref a] H (λv _=>v=.bl P8) λ_ _ _=>False:=by
 refine⟨[.scr ns],λ_=>P7,.sh,.bl P8,.cons ?_ .nil,λb z=>absurd rfl z,h,λv H' _ r=>r.rd.bl⟩;unfold Rp;refine⟨a,rfl,?_⟩;rcases hS with h|h
 ·exact .inl ⟨λz=>z rfl,h⟩
 ·exact .inr h
theorem yK{P:List Qa->Prop}(h:∀a,P [a]):∀us:List Qa,us.length=1->P us
 |[a],_=>h a
theorem us2{P:List Qa->Prop}(h:∀a b,P [a,b]):∀us:List Qa,us.length=2->P us
 |[a,b],_=>h a b
theorem FN{P:List Qa->Prop}(h:∀a b c,P [a,b,c]):∀us:List Qa,us.length=3->P us
 |[a,b,c],_=>h a b c
theorem Kz{P:List Qa->Prop}(h:∀a b c d,P [a,b,c,d]):∀us:List Qa,us.length=4->P us
 |[a,b,c,d],_=>h a b c d
end J
namespace J
open PySem PySem.Spec L2
theorem g9{X:Cx}{pn:List Nat}{fa fb:Ro->Option Res}{a b:List Ql}(ha:bZ X pn fa a)(hb:bZ X pn fb b):bZ X pn (λZ=>bH (fa Z) fb) (a++b):=by
 intro Z r h g Y H Dn se q;dsimp only at h;refine Aj ?_
 cases e:fa Z with
 |none=>rw[e] at h;cases h
 |some ra=>
  rw[e] at h
  cases ra with
  |nx Z1=>exact ha Z _ e g Y H _ se λY1 g1 H1 ev se1 pk=>hb Z1 r h g1 Y1 H1 Dn se1 (q.from ev pk)
  |rt kd d Z1=>cases h;exact ha Z _ e g Y H _ se q
  |ct Z1=>cases h;exact ha Z _ e g Y H _ se q
  |bk Z1=>cases h;exact ha Z _ e g Y H _ se q
noncomputable def qY(f:Ro->Option Res)(m k:Nat)(ds:List D):Option KD:=if ds.length=m then fC (f (kG k (ds.map AC))) else P7
section
variable {P:Qi} {w:Qj} {K:Mz} {mg:Str->Option Qa} {base:Qn} {fns:Nms} {U:GG} {x qual:Str} {st:Ql} {f:Qc} {fd:Qw} {N ps:List Str} {k n M:Nat} {an:An} {body:bC}
theorem AD{fb:Ro->Option Res}(F:Fun K x qual st f fd)(S:ar N ps (ab st))(T:TabF P w K mg base (bx fns U) k)(hBq:∀X:Cx,ao X (bx fns U) ⟨ab st,N,λ_=>P8⟩->PassesOwn (Qg X.prog X.w) X.A X.env X.xe->bZ X [] fb (aQ st)) :
  FnOk P w K mg base nB (k+1) f fd ps (uN K (qY fb ps.length N.length)):=by
 have hN:ps.length<=N.length:=by
  have:=congrArg OA S.pre;rw[M8] at this
  lia
 refine F.ok S (λvs H Q E h=>?_) (λcdv A outer s H vs Q E hr h=>?_)
 ·obtain⟨ds,g,k',d,r,dm,hB,q⟩:=h;unfold qY at hB;split at hB
  ·rename_i hl;rw[r.len,hl]
  ·cases hB
 ·obtain⟨ds,g,k',d,r,dm,hB,q⟩:=h;unfold qY at hB;split at hB
  ·rename_i hl
   have O:ao (l8 nB P w K mg base N qual (ab st) f cdv A outer s H E).nox (bx fns U) ⟨ab st,N,λ_=>P8⟩:=
    ⟨rfl,rfl,λ_ _=>rfl,rfl,S.nd,⟨λy B hy=>by
     rcases T.fn y B hy with⟨g,gd,qs,h1,h2,h3,h4,h5⟩|⟨j,C,g,gd,qs,sp',hj,h1,h2,h3,h4,h5,h6⟩
     ·exact .inl ⟨k,g,gd,qs,h1,hr,h2,h3,h4,h5⟩
     ·exact .inr ⟨C,j,g,gd,qs,sp',h1,h2,hr.mono hj,h3,h4,h5,h6⟩,T.cf,λy B hy=>by
     obtain⟨g,gd,qs,h1,h2,h3,h4,h5⟩:=T.fm y B hy;exact⟨k,g,gd,qs,h1,hr,h2,h3,h4,h5⟩,T.bl,(by have h:=hr.un;exact M9 (M0 (NZ (by decide:100<=200) _) (N9 (Nl _ _) 200)) h),hr.gd,T.cst⟩⟩
   have m0:MuOk H (Sg (g.re λ_=>P7)):=λb z=>dm b ((jm b).mp z);have r0:RpL K H (Sg (g.re λ_=>P7)) ds vs:=r.weak λb z=>(jm b).mp z;have se:=qX (N:=N) (BN r0 m0) (by simpa[hl] using hN);have sb:bZ _ [] fb (aQ st):=hBq _ O PassesOwn.never;refine⟨_,fP,?_⟩;unfold fC at hB;split at hB
   ·rename_i k2 d2 Z2 hex;split at hB
    ·cases hB
    ·rename_i hb;cases hB;refine sb _ _ hex _ (bU N vs) H _ se λv Y' g' H' F ev se' pk vr=>?_;obtain⟨p1,p2,p3⟩:=fu (K:=K) ev;exact q v H' p1 ⟨F,p2,vr.unlend (by simpa using hb) p3⟩
   ·rename_i Z' hex;cases hB;refine sb _ _ hex _ (bU N vs) H _ se λY' g' H' ev se' pk=>?_;obtain⟨p1,p2,p3⟩:=fu (K:=K) ev;exact q .non H' p1 Db
   ·cases hB
  ·cases hB
theorem TabF.addB{i:Nat}{ψ:Fn}(T:TabF P w K mg base (bx fns U) k)(F:Fun K x qual st f fd)(S:ar N ps (ab st))(hm:mg x=P6 (.ref f))(hb:Binds K fd ps [])(hd:(x==("__debug__":Str))=Qb)(hi:fns.fns[i]?=P6 x)(hBq:∀X:Cx,ao X (bx fns U) ⟨ab st,N,λ_=>P8⟩->PassesOwn (Qg X.prog X.w) X.A X.env X.xe->bZ X [] fb (aQ st))(hψ:∀ds,Le (ψ ds) (qY fb ps.length N.length ds)):TabF P w K mg base (bx fns (U.addI i ψ)) (k+1):=by
 refine⟨λy B hy=>?_,T.cf,T.up.fm,T.bl,T.cst⟩;have hy:(aN y fns.fns).bind (cU U.fn i ψ)=P6 B:=hy
 cases hj:aN y fns.fns with
 |none=>rw[hj] at hy;cases hy
 |some j=>
  rw[hj] at hy;have hy':cU U.fn i ψ j=P6 B:=hy;unfold cU at hy';split at hy'
  ·rename_i e;subst e;cases hy'
   have hyx:y=x:=by
    have:=aK hj;rw[hi] at this;exact(Option.some.inj this).symm
   subst hyx;exact .inl ⟨f,fd,ps,(AD F S T hBq).imp λvs H Q E s=>mY hψ s,hm,F.kp,hb,hd⟩
  ·exact T.up.fn y B (by show(aN y fns.fns).bind U.fn=_;rw[hj];exact hy')
end
end J
namespace J
open PySem PySem.Spec L2
theorem kH{α:Type}(U:Nat->Option α)(i:Nat)(a b:α):cU (cU U i a) i b=cU U i b:=by
 funext j;unfold cU
 split<;>rfl
theorem qZ(U:GG)(i:Nat)(a b:Fn):(U.addI i a).addI i b=U.addI i b:=by
 show(⟨cU (cU U.fn i a) i b,U.fm⟩:GG)=⟨cU U.fn i b,U.fm⟩;rw[kH]
theorem q0(U:GG)(i:Nat)(a b:Fm):(U.addM i a).addM i b=U.addM i b:=by
 show(⟨U.fn,cU (cU U.fm i a) i b⟩:GG)=⟨U.fn,cU U.fm i b⟩;rw[kH]
noncomputable def recI(U:GG)(i N m k:Nat)(body:bC):Nat->Fn
 |0=>λ_=>P7
 |n+1=>cj (U.addI i (recI U i N m k body n)) N m k body
noncomputable def recM(U:GG)(i N m k:Nat)(pn:List Nat)(body:bC):Nat->Fm
 |0=>λ_=>P7
 |n+1=>iR (U.addM i (recM U i N m k pn body n)) N m k pn body
section
variable {P:Qi} {w:Qj} {K:Mz} {mg:Str->Option Qa} {base:Qn} {fns:Nms} {U:GG} {x qual:Str} {st:Ql} {f:Qc} {fd:Qw} {N ps:List Str} {k n M i:Nat} {an:An} {body:bC}
theorem TabF.recI(T:TabF P w K mg base (bx fns U) k)(F:Fun K x qual st f fd)(S:ar N ps (ab st))(hm:mg x=P6 (.ref f))(hb:Binds K fd ps [])(hd:(x==("__debug__":Str))=Qb)
  (hi:fns.fns[i]?=P6 x) (hc:b5 fns an n N st=P6 body):∀d:Nat,TabF P w K mg base (bx fns (U.addI i (J.recI U i M ps.length N.length body d))) (k+1+d)
 |0=>T.addI (M:=M) F S hm hb hd hi hc λ_ _ e=>nomatch e
 |d+1=>by
  have:=(TabF.recI T F S hm hb hd hi hc d).addI (M:=M) (ψ:=J.recI U i M ps.length N.length body (d+1)) F S hm hb hd hi hc λ_=>Le.refl _;rw[qZ] at this;exact this
theorem TabF.recM(T:TabF P w K mg base (bx fns U) k)(F:Fun K x qual st f fd)(S:ar N ps (ab st))(hm:mg x=P6 (.ref f))(hb:Binds K fd ps [])(hd:(x==("__debug__":Str))=Qb)(hi:fns.fns[i]?=P6 x)(hc:b5 fns an n N st=P6 body):∀d:Nat,TabF P w K mg base (bx fns (U.addM i (J.recM U i M ps.length N.length pn body d))) (k+1+d)
 |0=>T.addM (M:=M) (pn:=pn) F S hm hb hd hi hc λ_ _ e=>nomatch e
 |d+1=>by
  have:=(TabF.recM T F S hm hb hd hi hc d).addM (M:=M) (pn:=pn) (ψ:=J.recM U i M ps.length N.length pn body (d+1)) F S hm hb hd hi hc λ_=>Le.refl _;rw[q0] at this;exact this
end
noncomputable def AE(k:Ow)(c:Str)(B:Fm):Fn:=λds=>match B ((k,.nd (.obj c []) [])::ds.map AC) with
 |some (.sh,.non,P6 (k',d')::_)=>P6 (.fr k',d')
 |_=>P7
theorem AF{c:Str}(hC:NI K Qp c=P6 (P6 (.ref C)))(cl:Cls K C):qo C (uN K (AE (.own es r0) c B)) (z7 K B):=by
 intro vs H Q s a dx ha hdx hne;obtain⟨ds,g,kd,d,r,m,hB,q⟩:=s;unfold AE at hB;split at hB
 ·rename_i k' d' os hB';cases hB
  have hs:Same H (upd (upd H dx (.own a)) a (.ins C dx [])):=λb o e=>by
   rw[ad (λz=>by rw[z,ha] at e;cases e),ad (λz=>by rw[z,hdx] at e;cases e)];exact e
  have ga:g a=P7:=by
   cases q:g a with
   |none=>rfl
   |some x=>obtain⟨o,e,_⟩:=m a (by rw[Sg,q];simp);rw[ha] at e;cases e
  let gc:Gh:=λb=>if b=a then P6 (P6 0) else(g.re λ_=>P7) b
  have gcn:∀b,b≠a->gc b=(g.re λ_=>P7) b:=λb h=>if_neg h;have gca:gc a=P6 (P6 0):=if_pos rfl;have gcS:∀b,b≠a->(Sg gc b↔Sg g b):=λb h=>by rw[Sg,gcn b h];exact jm b
  refine⟨_,gc,.sh,.non,_,⟨λi sl e=>?_,λb z=>?_,by simp[r.len]⟩,hB',λv g' H' F ev se vr=>?_⟩
  ·cases i with
   |zero=>
    cases e;refine⟨.ref a,λb=>b=a,rfl,λb z=>by rw[z];exact gca,?_⟩;show Tr K _ (Sg gc) (.nd (.obj c []) []) (.own es r0) (.ref a) _;unfold Tr;refine⟨a,.ins C dx [],[],λ_=>False,rfl,ai,⟨C,dx,hC,⟨cl,λf hf=>by cases hf⟩,rfl,rfl⟩,λ_ z=>z,(λh=>by cases h),(λb=>⟨λz=>.inl ⟨rfl,z⟩,λz=>z.elim (λz=>z.2) λz=>z.elim⟩),?_⟩;unfold TrL;exact⟨rfl,λ_ z=>z⟩
   |succ i=>
    have e:((ds.map AC).map DV)[i]?=P6 (P6 sl):=by simpa using e
    rw[MF,MF] at e
    cases qd:ds[i]? with
    |none=>rw[qd] at e;cases e
    |some d0=>
     rw[qd] at e;cases e;obtain⟨v,e1,e2⟩:=r.getD qd;refine⟨v,ii,by rw[MU,Oh,MF,e1];rfl,λ_ z=>z.elim,.fz (e2.go λb o n e=>⟨hs b o e,λz=>n ((gcS b λh=>?_).mp z)⟩)⟩;rw[h,ha] at e;cases e
  ·by_cases hb:b=a
   ·rw[hb];exact⟨_,ai,λxs h=>by cases h⟩
   ·obtain⟨o,e,n⟩:=m b ((gcS b hb).mp z);exact⟨o,hs b o e,n⟩
  ·obtain⟨hF,hv⟩:=(show(∀b,¬F b)/\Rp K H' (Sx g' F) .non v from vr);have hv:v=.non:=by unfold Rp at hv;exact hv
   obtain⟨v0,F0,e1,e2,e3⟩:=se.slot 0 ⟨Qb,k',d⟩ rfl;cases(show P6 (P6 (V.ref a))=P6 (P6 v0) from e1);have pl:g'.plus F=g':=aR hF;rw[pl] at e2 e3
   have keep:Same H H':=λb o e=>ev.keep b o (λi z=>by
    have hb:b≠a:=λh=>by rw[h,ha] at e;cases e
    rw[gcn b hb] at z;exact jI z) (hs b o e)
   refine⟨hv,q (.ref a) H' keep ⟨F0,λb z=>?_,?_⟩⟩
   ·rcases ev.new b 0 (e2 b z) with⟨i,z2⟩|z2
    ·by_cases hb:b=a
     ·rw[hb];exact ha
     ·rw[gcn b hb] at z2;exact absurd z2 jI
    ·cases qh:H b with
     |none=>rfl
     |some o=>rw[hs b o qh] at z2;cases z2
   ·show Tr K H' (Sx g F0) d k' (.ref a) F0;refine e3.go (λ_ _ _ e=>e) λb o _ n z=>n ?_;rcases z with z|z
    ·have hb:b≠a:=λh=>by rw[h] at z;exact z ga
     have:gc b=P6 P7:=by rw[gcn b hb];exact tJ z
     rw[Sg,(ev.out b).mp this];simp
    ·rw[Sg,e2 b z];simp
 ·cases hB
section
variable {P:Qi} {w:Qj} {K:Mz} {mg:Str->Option Qa} {base:Qn} {fns:Nms} {U:GG} {x y qual:Str} {st:Ql} {f C:Qc} {fd:Qw} {N ps:List Str} {k n M i:Nat} {an:An} {body:bC}
theorem TabF.addC{ψ:Fn}(T:TabF P w K mg base (bx fns U) k)(F:Fun K y qual st f fd)(S:ar N ps (ab st))(mk:Mk K C f)(cl:Cls K C)(hC:NI K Qp x=P6 (P6 (.ref C)))(hm:mg x=P6 (.ref C))(hb:Binds K fd ps [])(hd:(x==("__debug__":Str))=Qb)(hi:fns.fns[i]?=P6 x)(hc:b5 fns an n N st=P6 body)(hψ:∀ds,Le (ψ ds) (AE (.own es r0) x (iR U M ps.length N.length pn body) ds)):TabF P w K mg base (bx fns (U.addI i ψ)) (k+2):=by
 refine⟨λz B hz=>?_,T.cf,T.up.up.fm,T.bl,T.cst⟩;have hz:(aN z fns.fns).bind (cU U.fn i ψ)=P6 B:=hz
 cases hj:aN z fns.fns with
 |none=>rw[hj] at hz;cases hz
 |some j=>
  rw[hj] at hz;have hz':cU U.fn i ψ j=P6 B:=hz;unfold cU at hz';split at hz'
  ·rename_i e;subst e;cases hz'
   have hzx:z=x:=by
    have:=aK hj;rw[hi] at this;exact(Option.some.inj this).symm
   subst hzx;exact .inr ⟨k+1,C,f,fd,ps,_,MH _,mk,tL (pn:=pn) (M:=M) F S T hc,hm,hb,hd,λvs H Q s=>AF hC cl vs H Q (mY hψ s)⟩
  ·exact T.up.up.fn z B (by show(aN z fns.fns).bind U.fn=_;rw[hj];exact hz')
end
end J
namespace J
open PySem PySem.Spec L2
noncomputable def Wp{α:Type}(a:Option α)(Q:α->Prop):Prop:=∃r,a=P6 r/\Q r
theorem Wp.mono{α:Type}{a:Option α}{Q R:α->Prop}(h:Wp a Q)(k:∀r,Q r->R r):Wp a R:=let ⟨r,e,q⟩:=h;⟨r,e,k r q⟩
theorem mZ{α:Type}{r:α}{Q:α->Prop}(q:Q r):Wp (P6 r) Q:=⟨r,rfl,q⟩
section
variable {U:Nat->Option Fn} {Z:Ro} {Q:KD->Prop}
theorem en{i:Nat}(h:Z[i]?=P6 (P6 s))(q:Q (og i s)):Wp (aa U (.var i) Z) Q:=⟨_,by rw[zO,h];rfl,q⟩
theorem bi(q:Q (.sh,d)):Wp (aa U (.lit d) Z) Q:=⟨_,by rw[zP],q⟩
theorem bP(h:Wp (aa U a Z) λx=>Wp (aa U b Z) λy=>Wp (eJ op x y) Q):Wp (aa U (.bin op a b) Z) Q:=by
 obtain⟨x,ex,y,ey,z,ez,q⟩:=h;exact⟨z,by rw[zQ,ex,ey];exact ez,q⟩
theorem xK(h:Wp (aa U a Z) λx=>Wp (qm x.2) λb=>Q (.sh,.bl (!b))):Wp (aa U (.not a) Z) Q:=by
 obtain⟨x,ex,b,eb,q⟩:=h;exact⟨_,by rw[zS,ex];show bV ((qm x.2).map _)=_;rw[eb];rfl,q⟩
theorem xL(h:Wp (aC U t Z) λr=>(r=P8->Wp (aa U a Z) Q)/\(r=Qb->Wp (aa U b Z) Q)):Wp (aa U (.ifx t a b) Z) Q:=by
 obtain⟨r,er,q1,q2⟩:=h
 cases r with
 |true=>obtain⟨x,ex,q⟩:=q1 rfl;exact⟨x,by rw[sA,er];exact ex,q⟩
 |false=>obtain⟨x,ex,q⟩:=q2 rfl;exact⟨x,by rw[sA,er];exact ex,q⟩
theorem jc(h:Wp (aa U a Z) λx=>Wp (eM U lo Z) λl=>Wp (eM U hi Z) λu=>Wp (FI (P6 x) (P6 l) (P6 u)) Q):Wp (aa U (.sl a lo hi) Z) Q:=by
 obtain⟨x,ex,l,el,u,eu,z,ez,q⟩:=h;exact⟨z,by rw[DH,ex,el,eu];exact ez,q⟩
theorem AG(h:Wp (aJ U es Z) λx=>Wp (i5 ks (P6 x)) Q):Wp (aa U (.dspN ks es) Z) Q:=by
 obtain⟨x,ex,z,ez,q⟩:=h;exact⟨z,by rw[wU,ex];exact ez,q⟩
theorem xM{i:Nat}(hU:U i=P6 B)(h:Wp (aJ U es Z) λkds=>Wp (qB B kds) Q):Wp (aa U (.fn i es) Z) Q:=by
 obtain⟨x,ex,z,ez,q⟩:=h;exact⟨z,by rw[wV,ex,hU];exact ez,q⟩
theorem m6{x:Str}(h:Wp (aJ U es Z) λkds=>Wp (eK x kds) Q):Wp (aa U (.blt x es) Z) Q:=by
 obtain⟨y,ey,z,ez,q⟩:=h;exact⟨z,by rw[zU,ey];exact ez,q⟩
theorem q9{T:Str}(h:Wp (aa U a Z) λx=>Wp (oF T x.2) λb=>Q (.sh,.bl b)):Wp (aa U (.isi T a) Z) Q:=by
 obtain⟨y,ey,z,ez,q⟩:=h;exact⟨_,by rw[sB,ey];show bV (oF T y.2)=_;rw[ez];rfl,q⟩
theorem o6(h:Wp (aa U a Z) Q):Wp (aa U (.bool op (.cons a .nil)) Z) Q:=by
 obtain⟨y,ey,q⟩:=h;exact⟨y,by rw[gT,ki];exact ey,q⟩
theorem o8(h:Wp (aa U a Z) λx=>∃z,x.2=.bl z/\((op==.And)=z->Wp (aa U (.bool op (.cons b r)) Z) Q)/\((op==.And)≠z->Q (.sh,.bl z))):Wp (aa U (.bool op (.cons a (.cons b r))) Z) Q:=by
 obtain⟨⟨k,d⟩,ey,z,hz,q1,q2⟩:=h;have hz:d=.bl z:=hz;subst hz;by_cases hh:(op==.And)=z
 ·obtain⟨y,e2,q⟩:=q1 hh;rw[gT] at e2;exact⟨y,by rw[gT,ki,ey];exact(if_pos hh).trans e2,q⟩
 ·exact⟨_,by rw[gT,ki,ey];exact if_neg hh,q2 hh⟩
theorem hG(h:Wp (bR U it Z) λp=>p.2.length<=100000/\Wp (aM r (dH tg (cw U ts) (aa U elt) (a9 Z cap)) p.2) λys=>Q (.fr (.own [] r),.lst ys)):Wp (aa U (.comp r cap tg it ts elt) Z) Q:=by
 obtain⟨p,ep,hl,ys,ey,q⟩:=h;obtain⟨bs,ds⟩:=p
 exact⟨_,by rw[oJ,ep];show(if ds.length<=100000 then _ else _)=_;rw[if_pos hl,ey],q⟩
variable {T:Bool->Prop}
theorem xN(h:Wp (aa U a Z) λx=>Wp (aa U b Z) λy=>Wp (aT op x.2 y.2) T):Wp (aC U (.cmp op a b) Z) T:=by
 obtain⟨x,ex,y,ey,z,ez,q⟩:=h;exact⟨_,by rw[oK,ex,ey];exact ez,q⟩
theorem o9(h:Wp (aC U a Z) T):Wp (aC U (.bool op (.cons a .nil)) Z) T:=by
 obtain⟨y,ey,q⟩:=h;exact⟨y,by rw[fq,eV];exact ey,q⟩
theorem kI(h:Wp (aC U a Z) λz=>((op==.And)=z->Wp (aC U (.bool op (.cons b r)) Z) T)/\((op==.And)≠z->T z)):Wp (aC U (.bool op (.cons a (.cons b r))) Z) T:=by
 obtain⟨z,ey,q1,q2⟩:=h;by_cases hh:(op==.And)=z
 ·obtain⟨y,e2,q⟩:=q1 hh;rw[fq] at e2;exact⟨y,by rw[fq,eV,ey];exact(if_pos hh).trans e2,q⟩
 ·exact⟨_,by rw[fq,eV,ey];exact if_neg hh,q2 hh⟩
variable {L:List KD->Prop}
theorem aY(q:L []):Wp (aJ U .nil Z) L:=⟨_,by rw[aJ],q⟩
theorem br(h:Wp (aa U a Z) λx=>Wp (aJ U r Z) λxs=>L (x::xs)):Wp (aJ U (.cons a r) Z) L:=by
 obtain⟨x,ex,xs,exs,q⟩:=h;exact⟨_,by rw[aJ,ex,exs];rfl,q⟩
theorem iS{P:Option Int->Prop}(q:P P7):Wp (eM U .non Z) P:=⟨_,by rw[eM],q⟩
theorem eA{P:Option Int->Prop}(h:Wp (aa U a Z) λx=>∃i,x.2=.int i/\P (P6 i)):Wp (eM U (.som a) Z) P:=by
 obtain⟨⟨k,d⟩,ex,i,hi,q⟩:=h;have hi:d=.int i:=hi;subst hi;exact⟨_,by rw[eM,ex];rfl,q⟩
variable {P:List Nat×List D->Prop}
theorem xO(h:Wp (aa U a Z) λx=>Wp (oE (P6 x)) P):Wp (bR U (.e a) Z) P:=by
 obtain⟨x,ex,z,ez,q⟩:=h;exact⟨z,by rw[bR,ex];exact ez,q⟩
theorem xP(h:Wp (aa U a Z) λx=>Wp (uQ (P6 x)) P):Wp (bR U (.enm a) Z) P:=by
 obtain⟨x,ex,z,ez,q⟩:=h;exact⟨z,by rw[bR,ex];exact ez,q⟩
theorem BO(h:Wp (aa U a Z) λx=>Wp (aa U b Z) λy=>Wp (qz (P6 x) (P6 y)) P):Wp (bR U (.zp a b) Z) P:=by
 obtain⟨x,e,y,e',h⟩:=h;show Wp (qz (aa U a Z) (aa U b Z)) P;rw[e,e'];exact h
theorem rc(h:Wp (aa U a Z) λx=>Wp (aa U b Z) λy=>Wp (gO (P6 x) (P6 y)) P):Wp (bR U (.rng a b) Z) P:=by
 obtain⟨x,ex,y,ey,z,ez,q⟩:=h;exact⟨z,by rw[bR,ex,ey];exact ez,q⟩
end
section
variable {Q:KD->Prop} {k k':Kd} {i j:Int}
theorem rf(q:Q (.sh,.int (i+j))):Wp (eJ .Add (k,.int i) (k',.int j)) Q:=mZ q
theorem xQ(q:Q (.sh,.int (i-j))):Wp (eJ .Sub (k,.int i) (k',.int j)) Q:=mZ q
theorem Ew(h:i.natAbs<lim/\j.natAbs<lim)(q:Q (.sh,.int (i*j))):Wp (eJ .Mult (k,.int i) (k',.int j)) Q:=⟨_,gI (if_pos h),q⟩
theorem AH(h:0<j/\j.natAbs<lim)(q:Q (.sh,.int (i / j))):Wp (eJ .FloorDiv (k,.int i) (k',.int j)) Q:=⟨_,gI (if_pos h),q⟩
theorem Ey(h:0<j)(q:Q (.sh,.int (i%j))):Wp (eJ .Mod (k,.int i) (k',.int j)) Q:=⟨_,gI (if_pos h),q⟩
theorem Ez(h:0<=j/\j<=1000000/\i.natAbs<lim)(q:Q (.sh,.int (i*2^j.toNat))):Wp (eJ .LShift (k,.int i) (k',.int j)) Q:=⟨_,gI (if_pos h),q⟩
theorem EA(h:0<=j)(q:Q (.sh,.int (i / 2^j.toNat))):Wp (eJ .RShift (k,.int i) (k',.int j)) Q:=⟨_,gI (if_pos h),q⟩
theorem EB{xs ys:List D}(h:i3 k xs=P8/\i3 k' ys=P8/\xs.length+ys.length<=100000)(q:Q (.fr bj,.lst (xs++ys))):Wp (eJ .Add (k,.lst xs) (k',.lst ys)) Q:=⟨_,if_pos h,q⟩
variable {T:Bool->Prop}
theorem EC(h:gh 90 x=P8/\gh 90 y=P8)(q:T (vt x y)):Wp (aT .Eq x y) T:=⟨_,if_pos h,q⟩
theorem ED(h:gh 90 x=P8/\gh 90 y=P8)(q:T (!vt x y)):Wp (aT .NotEq x y) T:=⟨_,if_pos h,q⟩
theorem tM:vt (.int i) (.int j)=decide (i=j):=by
 unfold vt py;simp[PyData.eqv]
 try rfl
theorem tN(q:T (decide (i=j))):Wp (aT .Eq (.int i) (.int j)) T:=EC ⟨rfl,rfl⟩ (by rw[tM];exact q)
theorem BQ(q:T (!decide (i=j))):Wp (aT .NotEq (.int i) (.int j)) T:=ED ⟨rfl,rfl⟩ (by rw[tM];exact q)
variable {xs:List D} {d:D} {n:Nat}
theorem EE{z:Int}(hj:jv xs.length z=P6 n)(hd:xs[n]?=P6 d)(q:Q (ou k n,d)):Wp (sr (P6 (k,.nd .lst xs)) (P6 (k',.int z))) Q:=⟨_,by show(match jv xs.length z with|some j=>(xs[j]?).map (λd=>(ou k j,d))|none=>P7)=_;rw[hj];show(xs[n]?).map _=_;rw[hd];rfl,q⟩
theorem EF{z:Int}(hj:jv xs.length z=P6 n)(hd:xs[n]?=P6 d)(q:Q (ou k n,d)):Wp (sr (P6 (k,.nd .tup xs)) (P6 (k',.int z))) Q:=⟨_,by show(match jv xs.length z with|some j=>(xs[j]?).map (λd=>(ou k j,d))|none=>P7)=_;rw[hj];show(xs[n]?).map _=_;rw[hd];rfl,q⟩
theorem tO{m:Nat}{z:Int}(h0:0<=z)(h1:z<m):jv m z=P6 z.toNat:=by unfold jv;rw[if_pos h0,if_pos h1]
end
theorem EG{Q:KD->Prop}{n:Nat}(h:zC d=P6 n)(q:Q (.sh,.int n)):Wp (eK "len" [(k,d)]) Q:=by
 refine⟨(.sh,.int n),?_,q⟩;have e:eK "len" = wF:=by unfold eK;rw[if_pos rfl]
 rw[e];unfold wF;dsimp only;rw[h];rfl
theorem xR{Q:KD->Prop}{i j:Int}(q:Q (.sh,.int (if j<i then j else i))):Wp (eK "min" [(k,.int i),(k',.int j)]) Q:=⟨_,rfl,q⟩
theorem tP{Q:KD->Prop}(h:i3 k ds=P8)(q:Q (.fr bj,.lst ds)):Wp (eK "list" [(k,.nd .lst ds)]) Q:=⟨_,if_pos h,q⟩
theorem EH{Q:KD->Prop}{bs:List Bool}(q:Q (.sh,.bl (bs.all id))):Wp (eK "all" [(k,.nd .lst (bs.map D.bl))]) Q:=by
 refine⟨(.sh,.bl (bs.all id)),?_,q⟩;have e:eK "all" [(k,.nd .lst (bs.map D.bl))]=(cL (bs.map D.bl)).map λbs=>(Kd.sh,D.bl (bs.all id)):=rfl;rw[e,i4];rfl
theorem pe{B:Fn}{kds:List KD}{Q:KD->Prop}(h:Wp (B (kds.map (·.2))) λr=>aX r.1=Qb/\((kds.all λp=>i0 p.1 p.2)=P8\/j9 r.1 r.2=P8)/\Q r):Wp (qB B kds) Q:=by
 obtain⟨⟨kd,d⟩,e,hb,ho,q⟩:=h;refine⟨(kd,d),?_,q⟩;unfold qB;rw[e];dsimp only;by_cases ha:(kds.all λp=>i0 p.1 p.2)=P8
 ·rw[if_pos ha,if_neg (by simpa using hb)]
 ·rw[if_neg ha,if_pos (ho.resolve_left ha)]
section
variable {U:GG} {Z:Ro} {Q:Kd×D×Ro->Prop}
theorem bt(h:Wp (aa U.fn e Z) λx=>Q (x.1,x.2,Z)):Wp (aH U (.p e) Z) Q:=by
 obtain⟨x,ex,q⟩:=h;exact⟨_,by rw[xm,ex];rfl,q⟩
theorem pf{i:Nat}(h:Z[i]?=P6 (P6 ⟨Qb,.own es r,d⟩))(q:Q (.fr (.own es r),d,Z.set i P7)):Wp (aH U (.mv i) Z) Q:=⟨_,by rw[D9];unfold uS;rw[h];rfl,q⟩
theorem xS{i:Nat}(h:Z[i]?=P6 (P6 ⟨Qb,k,d⟩))(q:Q (.sh,d,Z.set i (P6 ⟨Qb,.fz,d⟩))):Wp (aH U (.fz i) Z) Q:=⟨_,by rw[Ea];unfold uT;rw[h],q⟩
theorem lR{f:Nat}{B:Fm}(hB:U.fm f=P6 B)(h:Wp (cQ U as Z) λp=>(cy p.1).Nodup/\∃ks,ef p.2 p.1=P6 ks/\Wp (B ks) λo=>aX o.1=Qb/\o.2.2.length=p.1.length/\Q (o.1,o.2.1,df p.1 (o.2.2.map FJ) p.2)):Wp (aH U (.io f as) Z) Q:=by
 obtain⟨⟨ras,Z1⟩,ea,hn,ks,hk,⟨kd,d,os⟩,eo,hb,hl,q⟩:=h;refine⟨_,?_,q⟩;rw[qM,hB,ea];unfold DW;dsimp only;rw[if_pos hn,hk];dsimp only;rw[eo];dsimp only;exact if_neg (by rw[hb];simpa using hl)
theorem BR{f:Nat}(hB:U.fn f=P6 B)(h:Wp (aS U as Z) λp=>Wp (qB B p.1) λr=>Q (r.1,r.2,p.2)):Wp (aH U (.fn f as) Z) Q:=by
 obtain⟨⟨kds,Z1⟩,ea,r,er,q⟩:=h
 exact⟨_,by rw[qN,hB];show oS (qB B) _=_;rw[ea];show(match qB B kds with|some (kd,d)=>P6 (kd,d,Z1)|none=>P7)=_;rw[er],q⟩
theorem ph{f:List KD->Option KD}(h:Wp a λp=>Wp (f p.1) λr=>Q (r.1,r.2,p.2)):Wp (oS f a) Q:=by
 obtain⟨⟨kds,Z1⟩,ea,r,er,q⟩:=h
 exact⟨_,by rw[ea];show(match f kds with|some (kd,d)=>P6 (kd,d,Z1)|none=>P7)=_;rw[er],q⟩
theorem rg{x:Str}(h:Wp (aS U as Z) λp=>Wp (eK x p.1) λr=>Q (r.1,r.2,p.2)):Wp (aH U (.blt x as) Z) Q:=by rw[Ad];exact ph h
theorem dI(h:Wp (aS U as Z) λp=>Wp (gJ k (P6 p.1)) λr=>Q (r.1,r.2,p.2)):Wp (aH U (.tup k as) Z) Q:=by rw[Ae];exact ph h
theorem xT(h:Wp (aS U as Z) λp=>∃x y,p.1=[x,y]/\Wp (eJ op x y) λr=>Q (r.1,r.2,p.2)):Wp (aH U (.bin op as) Z) Q:=by
 rw[Af];exact ph (h.mono λp ⟨x,y,e,w⟩=>by rw[e];exact w)
theorem xU(h:Wp (aS U as Z) λp=>∃x y,p.1=[x,y]/\Wp (sr (P6 x) (P6 y)) λr=>Q (r.1,r.2,p.2)):Wp (aH U (.ix as) Z) Q:=by
 rw[Eb];exact ph (h.mono λp ⟨x,y,e,w⟩=>by rw[e];exact w)
theorem tQ{cap:List (Option Nat)}(h:Wp (cA U it Z) λp=>p.1=[]/\p.2.1.length<=100000/\Wp (aE r (fy cap tg (mS U ts) (aH U elt)) p.2.1 (a9 p.2.2 cap)) λz=>z.2.length=cap.length/\Q (.fr (.own [] r),.lst z.1,df (gZ cap) z.2 p.2.2)):Wp (aH U (.comp r cap tg it ts elt) Z) Q:=by
 obtain⟨⟨bs,ds,Z1⟩,ep,hb,hl,⟨ys,Zc⟩,ey,hz,q⟩:=h;refine⟨_,?_,q⟩;rw[oR,ep];unfold eZ;dsimp only at hb hl ey hz⊢;rw[if_pos ⟨hb,hl⟩,ey];dsimp only;rw[if_pos hz]
variable {A:List RA×Ro->Prop}
theorem f8(q:A ([],Z)):Wp (cQ U .nil Z) A:=⟨_,by rw[cQ],q⟩
theorem f9{i:Nat}(hs:Z[i]?=P6 (P6 s))(h:Wp (cQ U r Z) λp=>A (.ref i::p.1,p.2)):Wp (cQ U (.ref i r) Z) A:=by
 obtain⟨⟨ras,Z1⟩,ea,q⟩:=h;exact⟨_,by rw[cQ,hs,ea];rfl,q⟩
theorem dl(h:Wp (aH U a Z) λx=>aX (cP x.1 x.2.1)=Qb/\Wp (cQ U r x.2.2) λp=>A (.val (cP x.1 x.2.1) x.2.1::p.1,p.2)):Wp (cQ U (.val a r) Z) A:=by
 obtain⟨⟨kd,d,Z1⟩,ea,hb,⟨ras,Z2⟩,er,q⟩:=h;refine⟨_,?_,q⟩;rw[cQ,ea]
 show(if aX (cP kd d)=P8 then P7 else _)=_
 dsimp only at hb er;rw[if_neg (by rw[hb];decide),er]
variable {S:List KD×Ro->Prop}
theorem bu(h:Wp (aH U a Z) λx=>Wp (aJ U.fn r x.2.2) λxs=>S ((x.1,x.2.1)::xs,x.2.2)):Wp (aS U (.fin a r) Z) S:=by
 obtain⟨⟨kd,d,Z1⟩,ea,xs,ex,q⟩:=h;refine⟨_,?_,q⟩;rw[aS,ea]
 show(match aJ U.fn r Z1 with|some kds=>P6 ((kd,d)::kds,Z1)|none=>P7)=_
 dsimp only at ex;rw[ex]
theorem aG(h:Wp (aH U a Z) λx=>aX (cP x.1 x.2.1)=Qb/\Wp (aS U r x.2.2) λp=>S ((cP x.1 x.2.1,x.2.1)::p.1,p.2)):Wp (aS U (.cons a r) Z) S:=by
 obtain⟨⟨kd,d,Z1⟩,ea,hb,⟨kds,Z2⟩,er,q⟩:=h;refine⟨_,?_,q⟩;rw[aS,ea]
 show(if aX (cP kd d)=P8 then P7 else _)=_
 dsimp only at hb er;rw[if_neg (by rw[hb];decide),er]
variable {T:Bool×Ro->Prop}
theorem xV(h:Wp (aC U.fn e Z) λb=>T (b,Z)):Wp (bp U (.p e) Z) T:=by
 obtain⟨x,ex,q⟩:=h;exact⟨_,by rw[bp,ex];rfl,q⟩
theorem tR(h:Wp (aS U as Z) λp=>∃x y,p.1=[x,y]/\Wp (aT op x.2 y.2) λb=>T (b,p.2)):Wp (bp U (.cmp op as) Z) T:=by
 obtain⟨⟨kds,Z1⟩,ea,x,y,e,b,eb,q⟩:=h;dsimp only at e;subst e
 exact⟨_,by rw[bp,ea];show(match aT op x.2 y.2 with|some b=>P6 (b,Z1)|none=>P7)=_;rw[eb],q⟩
variable {I:List Nat×List D×Ro->Prop}
theorem tS(h:Wp (bR U.fn it Z) λp=>I (p.1,p.2,Z)):Wp (cA U (.p it) Z) I:=by
 obtain⟨x,ex,q⟩:=h;exact⟨_,by rw[cA,ex];rfl,q⟩
theorem EI{g:Option KD->Option (List Nat×List D)}(h:Wp a λx=>Wp (g (P6 (cP x.1 x.2.1,x.2.1))) λp=>I (p.1,p.2,x.2.2)):Wp (Bz g a) I:=by
 obtain⟨⟨kd,d,Z1⟩,ea,p,ep,q⟩:=h;exact⟨_,by rw[ea];show DX (g (P6 (cP kd d,d))) Z1=_;dsimp only at ep;rw[ep];rfl,q⟩
theorem m7(h:Wp (aH U a Z) λx=>Wp (gO (P6 (.sh,.int 0)) (P6 (cP x.1 x.2.1,x.2.1))) λp=>I (p.1,p.2,x.2.2)):Wp (cA U (.rng a) Z) I:=by rw[cA];exact EI h
end
theorem m8{i j:Int}{P:List Nat×List D->Prop}(h:d8 i j=P8)(q:P ([],gN i j)):Wp (gO (P6 (k,.int i)) (P6 (k',.int j))) P:=⟨_,if_pos h,q⟩
theorem ge{i j:Int}(h1:-100000<=i)(h2:i<=100000)(h3:-100000<=j)(h4:j<=100000)(h5:j-i<=100000):d8 i j=P8:=by
 simp only[d8,MA,decide_eq_true_eq]
 lia
theorem xW{i j:Int}{n:Nat}(h:(gN i j)[n]?=P6 d):d=.int (i+n)/\i+n<j:=by
 unfold gN at h;rw[MF] at h;obtain⟨m,hm,rfl⟩:=aL h;have hl:=(MJ.mp hm).1;rw[N6] at hl;rw[Oc hl] at hm;cases hm;exact⟨rfl,by lia⟩
theorem pi{i j:Int}:(gN i j).length=(j-i).toNat:=by simp[gN]
theorem m9{P:List Nat×List D->Prop}(h:i3 k ds=P8)(q:P (k7 k,ds)):Wp (oE (P6 (k,.nd .lst ds))) P:=⟨_,if_pos h,q⟩
theorem EJ{P:List Nat×List D->Prop}(h:i3 k ds=P8)(q:P ([],ds)):Wp (oE (P6 (k,.nd .tup ds))) P:=⟨_,if_pos h,q⟩
noncomputable def Kt(U:GG)(N:Nat)(rest:bC)(pn:List Nat)(Q:Res->Prop):Res->Prop
 |.nx Z=>Wp (aP U N rest pn Z) Q
 |r=>Q r
section
variable {U:GG} {N:Nat} {pn:List Nat} {Z:Ro} {Q:Res->Prop} {rest:bC}
theorem jd(h:Wp (aP U N rest pn Z) Q):Kt U N rest pn Q (.nx Z):=h
theorem dW(h:Q (.rt k d Z)):Kt U N rest pn Q (.rt k d Z):=h
theorem ca(q:Q (.nx Z)):Wp (aP U N .nil pn Z) Q:=⟨_,by rw[aP],q⟩
theorem eB(h:Wp (eh U N s pn Z) (Kt U N rest pn Q)):Wp (aP U N (.cons s rest) pn Z) Q:=by
 obtain⟨r,er,q⟩:=h
 cases r with
 |nx Z1=>obtain⟨z,ez,q⟩:=q;exact⟨z,by rw[aP,er];exact ez,q⟩
 |rt k d Z1=>exact⟨_,by rw[aP,er];rfl,q⟩
 |ct Z1=>exact⟨_,by rw[aP,er];rfl,q⟩
 |bk Z1=>exact⟨_,by rw[aP,er];rfl,q⟩
theorem cD{i:Nat}(h:Wp (aH U a Z) λx=>(aX (cP x.1 x.2.1)=Qb/\i∉pn)/\Wp (aP U N rest pn (x.2.2.set i (P6 ⟨Qb,FK (cP x.1 x.2.1),x.2.1⟩))) Q):Wp (aP U N (.cons (.asg i a) rest) pn Z) Q:=by
 obtain⟨⟨kd,d,Z1⟩,ea,hb,w⟩:=h;refine eB ⟨.nx _,?_,jd w⟩;rw[Am,ea];exact if_neg (by dsimp only at hb;rw[hb.1];simpa using hb.2)
theorem rh{is:List Nat}(h:Wp (aH U a Z) λx=>∃ds es r,x.2.1=.nd .tup ds/\iM x.1 ds=P6 (es,r)/\(is.length=ds.length/\(is.all λi=>!pn.contains i)=P8)/\Wp (aP U N rest pn (uX is ds es r x.2.2)) Q):Wp (aP U N (.cons (.unp is a) rest) pn Z) Q:=by
 obtain⟨⟨kd,d,Z1⟩,ea,ds,es,r,hd,hk,hl,w⟩:=h;dsimp only at hd hk;subst hd;refine eB ⟨.nx _,?_,jd w⟩;rw[Ao,ea]
 show(match iM kd ds with|some (es,r)=>if is.length=ds.length/\(is.all λi=>!pn.contains i)=P8 then P6 (Res.nx (uX is ds es r Z1)) else P7|none=>P7)=_
 rw[hk];exact if_pos hl
theorem tU{b:BP}(h:Wp (aH U a Z) λx=>Wp (sV U.fn b x.2.2) λp=>Wp (aa U.fn k x.2.2) λy=>∃es r hd ds kk d0,p.1=.own es r/\p.2.1=.nd hd ds/\x.2.2[b.slot]?=P6 (P6 ⟨Qb,kk,d0⟩)/\Wp (lc es r hd ds y.2 (cP x.1 x.2.1,x.2.1)) λz=>Wp (aP U N rest pn (x.2.2.set b.slot (P6 ⟨Qb,kk,p.2.2 (.nd z.1 z.2)⟩))) Q):Wp (aP U N (.cons (.put b k a) rest) pn Z) Q:=by
 obtain⟨⟨kd,d,Z1⟩,ea,⟨pk,pd,up⟩,ep,⟨ky,dy⟩,ey,es,r,hd,ds,kk,d0,e1,e2,e3,⟨hd',ds'⟩,ez,w⟩:=h;dsimp only at e1 e2 e3 ep ey ez;subst e1 e2;refine eB ⟨.nx _,?_,jd w⟩;rw[Ap,ea];unfold uZ;dsimp only;rw[ep,ey,e3];dsimp only;rw[ez]
theorem dF(h:Wp (aH U a Z) λx=>aX (cP x.1 x.2.1)=Qb/\Q (.rt (cP x.1 x.2.1) x.2.1 x.2.2)):Wp (aP U N (.cons (.ret a) rest) pn Z) Q:=by
 obtain⟨⟨kd,d,Z1⟩,ea,hb,q⟩:=h;refine eB ⟨.rt _ _ _,?_,dW q⟩;rw[Aq,ea];exact if_neg (by dsimp only at hb;rw[hb];decide)
theorem pj(h:Wp (aH U a Z) λx=>Wp (aP U N rest pn x.2.2) Q):Wp (aP U N (.cons (.exp a) rest) pn Z) Q:=by
 obtain⟨⟨kd,d,Z1⟩,ea,w⟩:=h;refine eB ⟨.nx _,?_,jd w⟩;rw[Ar,ea];rfl
theorem BS(h:Wp (bp U t Z) λp=>(p.1=P8->Wp (aP U N a pn p.2) (Kt U N rest pn Q))/\(p.1=Qb->Wp (aP U N b pn p.2) (Kt U N rest pn Q))):Wp (aP U N (.cons (.ifs t a b) rest) pn Z) Q:=by
 obtain⟨⟨r,Z1⟩,er,q1,q2⟩:=h
 cases r with
 |true=>obtain⟨x,ex,q⟩:=q1 rfl;exact eB ⟨x,by rw[tB,er];exact ex,q⟩
 |false=>obtain⟨x,ex,q⟩:=q2 rfl;exact eB ⟨x,by rw[tB,er];exact ex,q⟩
theorem pp{fb:Ro->Option Res}(I:Nat->Ro->Prop):∀(ds:List D) (j:Nat) (Z:Ro),I j Z->(∀(i:Nat) d Z,ds[i]?=P6 d->I (j+i) Z->∃ps,pQ tg d=P6 ps/\(ps.all λp=>!pn.contains p.1)=P8/\Wp (fb (setAll ps (clrN fg Z))) λr=>∃Z',(r=.nx Z'\/r=.ct Z')/\I (j+i+1) Z')->
  ∃Z',fR pn fg tg fb ds Z=P6 (.nx (clrN fg Z'))/\I (j+ds.length) Z'
 |[],j,Z,h0,_=>⟨Z,rfl,h0⟩
 |d::ds,j,Z,h0,hs=>by
  obtain⟨ps,e1,e2,r,er,Z1,hr,h1⟩:=hs 0 d Z rfl h0
  obtain⟨Z2,e3,h2⟩:=pp I ds (j+1) Z1 h1 λi d' Z' e hI=>by
   have:=hs (i+1) d' Z' (by simpa using e) (by rw[show j+(i+1)=j+1+i by lia];exact hI);rw[show j+(i+1)+1=j+1+i+1 by lia] at this;exact this
  refine⟨Z2,?_,by rw[MY,show j+(ds.length+1)=j+1+ds.length by lia];exact h2⟩;unfold fR;rw[e1];dsimp only;rw[if_pos e2,er];rcases hr with rfl|rfl
  ·exact e3
  ·exact e3
theorem xX(h:Wp (cA U it Z) λp=>∃I:Nat->Ro->Prop,I 0 (clrN p.1 p.2.2)/\(∀(i:Nat) d Z,p.2.1[i]?=P6 d->I i Z->∃ps,pQ tg d=P6 ps/\(ps.all λq=>!(pn++p.1).contains q.1)=P8/\Wp (aP U N b (pn++p.1) (setAll ps (clrN fg Z))) λr=>∃Z',(r=.nx Z'\/r=.ct Z')/\I (i+1) Z')/\
  ∀Z',I p.2.1.length Z'->Wp (aP U N rest pn (yJ p.1 p.2.2 (clrN fg Z'))) Q):Wp (aP U N (.cons (.fo fg tg it b) rest) pn Z) Q:=by
 obtain⟨⟨bs,ds,Z0⟩,ep,I,h0,hs,hq⟩:=h
 obtain⟨Z',e1,h1⟩:=pp (pn:=pn++bs) I ds 0 (clrN bs Z0) h0 λi d Z e hI=>by
  have:=hs i d Z e (by simpa using hI);simpa using this
 refine eB ⟨.nx _,?_,jd (hq Z' (by simpa using h1))⟩;rw[En,ep];show xx bs Z0 (fR (pn++bs) fg tg (aP U N b (pn++bs)) ds (clrN bs Z0))=_;rw[e1];rfl
end
theorem BT{f:D->Ro->Option (Option KD×Ro)}{Q:List D×Ro->Prop}{ds:List D}{Z:Ro}(I:Nat->List D->Ro->Prop)(h0:I 0 [] Z)(hs:∀(i:Nat) d ys Z,ds[i]?=P6 d->I i ys Z->Wp (f d Z) λo=>∃kd,o.1=P6 kd/\bB r kd=P8/\I (i+1) (ys++[kd.2]) o.2)(hq:∀ys Z,I ds.length ys Z->Q (ys,Z)):Wp (aE r f ds Z) Q:=by
 have key:∀n,n<=ds.length->∃ys Z',aE r f (ds.take n) Z=P6 (ys,Z')/\I n ys Z':=by
  intro n
  induction n with
  |zero=>intro _;exact⟨[],Z,by simp[aE],h0⟩
  |succ n ih=>
   intro hn;obtain⟨ys,Z1,e1,h1⟩:=ih (by lia);have hd:ds[n]?=P6 ds[n]:=MK (by lia);obtain⟨⟨o,Z2⟩,eo,kd,ek,hf,hI⟩:=hs n _ ys Z1 hd h1;dsimp only at ek hI;subst ek;have ht:ds.take (n+1)=ds.take n++[ds[n]]:=by rw[NK,hd];rfl
   refine⟨ys++[kd.2],Z2,?_,hI⟩;rw[ht];exact cz e1 (by simp[aE,eo,hf])
 obtain⟨ys,Z',e,h⟩:=key ds.length (MH _);rw[Nk] at e;exact⟨_,e,hq ys Z' h⟩
theorem KA{f:D->Option (Option KD)}{Q:List D->Prop}{ds:List D}(P:Nat->D->Prop)(hs:∀(i:Nat) d,ds[i]?=P6 d->Wp (f d) λo=>∃kd,o=P6 kd/\bB r kd=P8/\P i kd.2)(hq:∀ys,ys.length=ds.length->(∀(i:Nat) y,ys[i]?=P6 y->P i y)->Q ys):Wp (aM r f ds) Q:=by
 have key:∀(ds:List D) (j:Nat),(∀(i:Nat) d,ds[i]?=P6 d->Wp (f d) λo=>∃kd,o=P6 kd/\bB r kd=P8/\P (j+i) kd.2)->∃ys,aM r f ds=P6 ys/\ys.length=ds.length/\∀(i:Nat) y,ys[i]?=P6 y->P (j+i) y:=by
  intro ds
  induction ds with
  |nil=>intro j _;exact⟨[],rfl,rfl,λi y e=>by simp at e⟩
  |cons d ds ih=>
   intro j h;obtain⟨o,eo,kd,rfl,hf,hp⟩:=h 0 d rfl
   obtain⟨ys,e1,e2,e3⟩:=ih (j+1) λi d' e=>by
    have:=h (i+1) d' (by simpa using e);rw[show j+(i+1)=j+1+i by lia] at this;exact this
   refine⟨kd.2::ys,by simp[aM,eo,e1,hf],by simp[e2],λi y e=>?_⟩
   cases i with
   |zero=>simp at e;subst e;exact hp
   |succ i=>
    rw[show j+(i+1)=j+1+i by lia];exact e3 i y (by simpa using e)
 obtain⟨ys,e1,e2,e3⟩:=key ds 0 λi d e=>by simpa using hs i d e
 exact⟨ys,e1,hq ys e2 λi y e=>by simpa using e3 i y e⟩
theorem BU{ft:Ro->Option Bool}{fe:Ro->Option KD}{Q:Option KD->Prop}(h1:pQ tg d=P6 ps)(h2:bI ps Z0=P8)(ht:ft (setAll ps Z0)=P6 P8)(h:Wp (fe (setAll ps Z0)) λx=>Q (P6 x)):Wp (dH tg ft fe Z0 d) Q:=by
 obtain⟨x,ex,q⟩:=h;refine⟨_,?_,q⟩;unfold dH;rw[h1];dsimp only;rw[if_pos h2,ht];dsimp only;rw[ex];rfl
theorem EK{ft:Ro->Option (Bool×Ro)}{fe:Ro->MR}{Q:Option KD×Ro->Prop}(h1:pQ tg d=P6 ps)(h2:bI ps Z0=P8/\xf cap ps=P8)(h:Wp (ft (setAll ps Z0)) λb=>(b.1=P8->Wp (fe b.2) λx=>Q (P6 (cP x.1 x.2.1,x.2.1),clr ps x.2.2))/\(b.1=Qb->Q (P7,clr ps b.2))):Wp (fy cap tg ft fe d Z0) Q:=by
 obtain⟨⟨b,Zt⟩,et,q1,q2⟩:=h
 cases b with
 |true=>
  obtain⟨⟨kd,d',Z1⟩,ex,q⟩:=q1 rfl;refine⟨_,?_,q⟩;unfold fy;rw[h1];dsimp only;rw[if_pos h2,et];dsimp only at ex⊢;rw[ex]
 |false=>
  refine⟨_,?_,q2 rfl⟩;unfold fy;rw[h1];dsimp only;rw[if_pos h2,et]
theorem xY{ft:Ro->Option (Bool×Ro)}{fe:Ro->MR}{Q:Option KD×Ro->Prop}(h1:pQ tg d=P6 ps)(h2:bI ps Z0=P8/\xf cap ps=P8)(ht:ft (setAll ps Z0)=P6 (P8,setAll ps Z0))(h:Wp (fe (setAll ps Z0)) λx=>Q (P6 (cP x.1 x.2.1,x.2.1),clr ps x.2.2)):Wp (fy cap tg ft fe d Z0) Q:=
 EK h1 h2 ⟨_,ht,λ_=>h,λe=>by cases e⟩
theorem xZ{N m k:Nat}{ds:List D}(hl:ds.length=m)(h:Wp (aP U N body [] (kG k (ds.map AC))) λr=>Wp (fC (P6 r)) Q):Wp (cj U N m k body ds) Q:=by
 obtain⟨r,er,z,ez,q⟩:=h;exact⟨z,by unfold cj;rw[if_pos hl,er];exact ez,q⟩
theorem x3{N m k:Nat}{ks:List i8}(hl:ks.length=m)(h:Wp (aP U N body pn (kG k ks)) λr=>Wp (fU m pn (P6 r)) Q):Wp (iR U N m k pn body ks) Q:=by
 obtain⟨r,er,z,ez,q⟩:=h;exact⟨z,by unfold iR;rw[if_pos hl,er];exact ez,q⟩
theorem hJ{Q:KD->Prop}(hb:aX kd=Qb)(q:Q (kd,d)):Wp (fC (P6 (.rt kd d Z))) Q:=⟨_,if_neg (by rw[hb];decide),q⟩
theorem je{m:Nat}{Q:Kd×D×List (Option i8)->Prop}(hb:aX kd=Qb)(q:Q (kd,d,outs m pn Z)):Wp (fU m pn (P6 (.rt kd d Z))) Q:=⟨_,if_neg (by rw[hb];decide),q⟩
end J
namespace J
open PySem PySem.Spec L2
theorem nc{p1:Ow}{p2:D}{o:Option (Option Sl)}{es:List Ow}{r:Ow}{hd:Hd}{ds:List D}{kk:Ow}{d0:D}{P:List Ow->Ow->Hd->List D->Ow->D->Prop}(e1:p1=.own es r)(e2:p2=.nd hd ds)(e3:o=P6 (P6 ⟨Qb,kk,d0⟩))(h:P es r hd ds kk d0):∃es r hd ds kk d0,p1=.own es r/\p2=.nd hd ds/\o=P6 (P6 ⟨Qb,kk,d0⟩)/\P es r hd ds kk d0:=⟨es,r,hd,ds,kk,d0,e1,e2,e3,h⟩
theorem AI{Q:Ow×D×(D->D)->Prop}(h:sV U b Z=P6 r)(q:Q r):Wp (sV U b Z) Q:=⟨r,h,q⟩
theorem ng{Q:Hd×List D->Prop}(h:lc es k hd ds d x=P6 r)(q:Q r):Wp (lc es k hd ds d x) Q:=⟨r,h,q⟩
theorem dJ{Q:KD->Prop}(h:gJ k a=P6 r)(q:Q r):Wp (gJ k a) Q:=⟨r,h,q⟩
end J
namespace J
open PySem PySem.Spec L2
mutual
theorem tV:∀{d:D} {n:Nat},gh n d=P8->(py d).canLay0=P8
 |.non,_,_=>by simp[py,PyData.canLay0]
 |.bl _,_,_=>by simp[py,PyData.canLay0]
 |.int _,_,_=>by simp[py,PyData.canLay0]
 |.str x,_,h=>by simpa[py,PyData.canLay0,gh] using h
 |.scr ns,_,_=>by simpa[py,PyData.canLay0] using(jy ns).1
 |.nd .lst ds,n,h=>by
  simp only[gh,MA] at h;simpa[py,PyData.canLay0] using kJ h.2
 |.nd .tup ds,n,h=>by
  simp only[gh,MA] at h;simpa[py,PyData.canLay0] using kJ h.2
 |.nd (.dic _ _) _,n,h=>by simp[gh] at h
 |.nd (.obj _ _) _,n,h=>by simp[gh] at h
theorem kJ:∀{ds:List D} {n:Nat},kZ n ds=P8->PyData.canLayAll0 (lE ds)=P8
 |[],_,_=>by simp[lE,PyData.canLayAll0]
 |d::ds,n,h=>by
  simp only[kZ,MA] at h;simp[lE,PyData.canLayAll0,tV h.1,kJ h.2]
end
theorem x4{n:Nat}(h:gh n d=P8):vt d d=P8:=by unfold vt;exact PySem.SeqAt.eqv_refl _ (tV h)
theorem nh{n:Nat}:∀{ds:List D},(∀d∈ds,gh n d=P8)->kZ n ds=P8
 |[],_=>rfl
 |d::ds,h=>by simp only[kZ,MA];exact⟨h d M1,nh λd hd=>h d (MS _ hd)⟩
end J
section
open PySem L2 J
local macro_rules | `(tactic| walk_at "fsc")=>`(tactic| exact ⟨rfl,rfl,rfl,by decide +kernel,rfl,by decide +kernel,by decide +kernel⟩)
namespace K27
open PySem L2 J
noncomputable abbrev nL(i:Int):IE:=.lit (.int i)
noncomputable abbrev sL(s:Str):IE:=.lit (.str s)
noncomputable def jJ(i:Nat):Ql:=PySem.Challenge.pw_gatepapers_k27_expressions_worked.main.body.getD i (.Pass ⟨0,0,0,0⟩)
noncomputable def fns:Nms:=⟨["rows_of","turn","stateful","part_turn","scene_of","next_room","valued","ones","compared","reckoned","_law_pot","_law_next","_law_names","_law_few","_law_leaf","_law_grown","_law_bits","_law_number","_law_summed","_law_two","_law_worth","_law_whole","_law_same","law","Scene"],[],λl c=>match l,c with|214,21=>P6 (.own [.fz] .fz)|35,11=>P6 (.own [] (.own [] .fz))|_,_=>P7,λl c=>match l,c with|165,11=>P6 P8|195,31=>P6 P8|209,45=>P6 P8|220,41=>P6 Qb|220,79=>P6 Qb|26,67=>P6 P8|35,12=>P6 P8|44,11=>P6 P8|_,_=>P7,λi=>match i with|11=>P6 [P8,Qb]|12=>P6 [P8]|13=>P6 [P8,Qb]|14=>P6 [P8,Qb,Qb]|15=>P6 [P8,Qb,Qb,Qb]|_=>P7,λ_ _=>[],[("Scene",["names","rooms","outs"])]⟩
noncomputable def an:An:=⟨λl=>match l with|31=>[12]|38=>[5]|42=>[4]|46=>[4]|111=>[4]|162=>[4,5]|212=>[3,10,11,13,14,15,12]|215=>[5,12]|219=>[15,16,17]|_=>[],λl=>match l with|95=>[3]|212=>[4]|217=>[11]|_=>[],λ_=>Qb,λl=>match l with|7=>P8|18=>P8|23=>P8|25=>P8|26=>P8|27=>P8|28=>P8|30=>P8|32=>P8|33=>P8|34=>P8|41=>P8|43=>P8|_=>Qb⟩
noncomputable abbrev s0:Ql:=jJ 1
section
local macro_rules | `($a :: $b) => `(.cons $a $b)
noncomputable def b0:bC:=.ret (.p (.comp .fz [P7,P7,P6 1] (.nm 1) (.e (.var 0)) (.som (.cmp .Eq (.ix (.var 1) (nL 0)) (.var 2))) (.var 1)))::.nil
theorem L9:b5 fns an 60 ["rows","word"] s0=P6 b0:=by rfl
theorem Ma:ar ["rows","word"] ["rows","word"] (ab s0):=by walk_at "fsc"
noncomputable abbrev s1:Ql:=jJ 3
noncomputable def b1:bC:=.unp [4,5] (.p (.fn 3 (.blt "dict" (.var 0::.nil)::.var 1::.var 2::.var 3::.nil)))::.stk::.nil
noncomputable abbrev LL:List Str:=["program","name","state","ins","outs","after"]
theorem Mb:ar LL ["program","name","state","ins"] (ab s1):=by walk_at "fsc"
noncomputable abbrev s2:Ql:=jJ 5
noncomputable def b2:bC:=.ret (.p (.comp .fz [P7,P7] (.nm 1) (.e (.var 0)) (.som (.cmp .In (.ix (.var 1) (nL 0)) (.tup .fz (sL "memory"::sL "rooms"::sL "use"::.nil)))) (.var 1)))::.nil
theorem Mc:b5 fns an 60 ["rows"] s2=P6 b2:=by rfl
theorem Md:ar ["rows"] ["rows"] (ab s2):=by walk_at "fsc"
noncomputable abbrev s3:Ql:=jJ 6
noncomputable def b3:bC:=.asg 4 (.p (.ix (.var 0) (.var 1)))::.stk::.asg 7 (.p (.fn 4 (.var 4::.var 6::.var 3::.nil)))::.asg 8 (.p (.dnew 0 .fz))::.fo [] (.nm 5) (.p (.e (.var 4))) (.ifs (.p (.cmp .Eq (.ix (.var 5) (nL 0)) (sL "wire"))) (.stk::.nil) (.ifs (.p (.cmp .Eq (.ix (.var 5) (nL 0)) (sL "use"))) (.stk::.stk::.stk::.stk::.nil) .nil::.nil)::.nil)::.fo [] (.nm 5) (.p (.e (.fn 0 (.var 4::sL "memory"::.nil)))) (.stk::.nil)::.fo [12] (.nm 5) (.p (.e (.fn 0 (.var 4::sL "rooms"::.nil)))) (.stk::.stk::.nil)::.stk::.ret (.tup (.own [] (.own [] .fz)) (.fin (.mv 13) (.comp .fz [P7,P7,P6 8] (.nm 1) (.e (.fn 2 (.var 4::.nil))) .non (.ix (.var 2) (.ix (.var 1) (nL 1)))::.nil)))::.nil
noncomputable abbrev LM:List Str:=["parts","name","state","ins","rows","row","before","scene","after","handed","used","later","goings","outs"]
theorem Me:ar LM ["parts","name","state","ins"] (ab s3):=by walk_at "fsc"
noncomputable abbrev s4:Ql:=jJ 7
noncomputable def b4:bC:=.asg 3 (.p (.fn 24 .nil))::.fo [5] (.tp [.nm 4,.nm 5]) (.p (.zp (.fn 0 (.var 0::sL "in"::.nil)) (.var 2))) (.put (.fld (.nm 3) "names") (.ix (.var 4) (nL 1)) (.p (.tup .fz (.var 5::.ix (.var 4) (nL 2)::.nil)))::.nil)::.fo [] (.nm 4) (.p (.e (.fn 0 (.var 0::sL "memory"::.nil)))) (.stk::.nil)::.fo [4] (.nm 4) (.p (.e (.fn 0 (.var 0::sL "rooms"::.nil)))) (.stk::.nil)::.ret (.mv 3)::.nil
noncomputable abbrev LN:List Str:=["rows","before","ins","scene","row","value"]
theorem Mf:b5 fns an 60 LN s4=P6 b4:=by rfl
theorem Mg:ar LN ["rows","before","ins"] (ab s4):=by walk_at "fsc"
noncomputable abbrev s6:Ql:=jJ 9
noncomputable def b6:bC:=.asg 2 (.p (.ix (.var 0) (nL 0)))::.ifs (.p (.cmp .Eq (.var 2) (sL "name"))) (.ret (.p (.ix (.fld "names" (.var 1)) (.ix (.var 0) (nL 1))))::.nil) .nil::.ifs (.p (.cmp .Eq (.var 2) (sL "number"))) (.ret (.p (.tup .fz (.ix (.var 0) (nL 2)::.ix (.var 0) (nL 1)::.nil)))::.nil) .nil::.ifs (.p (.cmp .Eq (.var 2) (sL "of"))) (.ret (.p (.ix (.ix (.fld "outs" (.var 1)) (.ix (.var 0) (nL 1))) (.ix (.var 0) (nL 2))))::.nil) .nil::.ifs (.p (.cmp .Eq (.var 2) (sL "at"))) (.ret (.p (.tup .fz (.ix (.ix (.fld "rooms" (.var 1)) (.ix (.var 0) (nL 1))) (.ix (.var 0) (nL 2))::nL 1::.nil)))::.nil) .nil::.unp [3,4] (.p (.fn 6 (.ix (.var 0) (nL 1)::.var 1::.nil)))::.ifs (.p (.cmp .Eq (.var 2) (sL "not"))) (.ret (.p (.tup .fz (.bin .BitXor (.var 3) (.fn 7 (.var 4::.nil))::.var 4::.nil)))::.nil) .nil::.ifs (.p (.cmp .Eq (.var 2) (sL "cut"))) (.ret (.p (.tup .fz (.bin .BitAnd (.bin .RShift (.var 3) (.ix (.var 0) (nL 2))) (.fn 7 (.ix (.var 0) (nL 3)::.nil))::.ix (.var 0) (nL 3)::.nil)))::.nil) .nil::.ifs (.p (.cmp .Eq (.var 2) (sL "if"))) (.ret (.p (.fn 6 (.ifx (.cmp .Eq (.var 3) (nL 1)) (.ix (.var 0) (nL 2)) (.ix (.var 0) (nL 3))::.var 1::.nil)))::.nil) .nil::.unp [5,6] (.p (.fn 6 (.ix (.var 0) (nL 2)::.var 1::.nil)))::.ifs (.p (.cmp .Eq (.var 2) (sL "join"))) (.ret (.p (.tup .fz (.bin .BitOr (.var 3) (.bin .LShift (.var 5) (.var 4))::.bin .Add (.var 4) (.var 6)::.nil)))::.nil) .nil::.ifs (.p (.cmp .In (.var 2) (.tup .fz (sL "same"::sL "less"::.nil)))) (.ret (.p (.tup .fz (.fn 8 (.var 2::.var 3::.var 5::.nil)::nL 1::.nil)))::.nil) .nil::.ret (.p (.tup .fz (.bin .BitAnd (.fn 9 (.var 2::.var 3::.var 5::.nil)) (.fn 7 (.var 4::.nil))::.var 4::.nil)))::.nil
noncomputable abbrev LO:List Str:=["expression","scene","word","value","width","other","above"]
theorem Mh:b5 fns an 60 LO s6=P6 b6:=by rfl
theorem Mi:ar LO ["expression","scene"] (ab s6):=by walk_at "fsc"
noncomputable abbrev s7:Ql:=jJ 10
noncomputable def b7:bC:=.ret (.p (.bin .Sub (.bin .LShift (nL 1) (.var 0)) (nL 1)))::.nil
theorem Mj:b5 fns an 60 ["width"] s7=P6 b7:=by rfl
theorem Ml:ar ["width"] ["width"] (ab s7):=by walk_at "fsc"
noncomputable abbrev s8:Ql:=jJ 11
noncomputable def b8:bC:=.asg 3 (.p (.ifx (.cmp .Eq (.var 0) (sL "same")) (.cmp .Eq (.var 1) (.var 2)) (.cmp .Lt (.var 1) (.var 2))))::.ret (.p (.ifx (.var 3) (nL 1) (nL 0)))::.nil
noncomputable abbrev LP:List Str:=["word","value","other","holds"]
theorem Mm:b5 fns an 60 LP s8=P6 b8:=by rfl
theorem Mn:ar LP ["word","value","other"] (ab s8):=by walk_at "fsc"
noncomputable abbrev s9:Ql:=jJ 12
noncomputable def b9:bC:=.ifs (.p (.cmp .Eq (.var 0) (sL "and"))) (.ret (.p (.bin .BitAnd (.var 1) (.var 2)))::.nil) .nil::.ifs (.p (.cmp .Eq (.var 0) (sL "or"))) (.ret (.p (.bin .BitOr (.var 1) (.var 2)))::.nil) .nil::.ifs (.p (.cmp .Eq (.var 0) (sL "xor"))) (.ret (.p (.bin .BitXor (.var 1) (.var 2)))::.nil) .nil::.ifs (.p (.cmp .Eq (.var 0) (sL "plus"))) (.ret (.p (.bin .Add (.var 1) (.var 2)))::.nil) .nil::.ret (.p (.bin .Sub (.var 1) (.var 2)))::.nil
theorem Mo:b5 fns an 60 ["word","value","other"] s9=P6 b9:=by rfl
theorem Mp:ar ["word","value","other"] ["word","value","other"] (ab s9):=by walk_at "fsc"
noncomputable abbrev tX:Ql:=jJ 14
noncomputable def KB:bC:=.asg 1 (.p (nL 5))::.fo [] (.nm 2) (.p (.e (.sl (.var 0) .non (.som (nL 63))))) (.asg 1 (.p (.bin .Mod (.bin .Add (.bin .Add (.bin .Mult (.var 1) (nL 7919)) (.bin .Mod (.var 2) (.bin .Pow (nL 10) (nL 20)))) (nL 3)) (nL 2147483629)))::.nil)::.asg 3 (.p (.bin .Add (.comp .fz [P7,P7] (.nm 1) (.e (.sl (.var 0) .non (.som (nL 1)))) .non (.bin .FloorDiv (.var 1) (nL 2))) (.sl (.var 0) (.som (nL 1)) (.som (nL 63)))))::.asg 4 (.p (.bool .And (.cmp .Gt (.blt "len" (.var 0::.nil)) (nL 0)::.cmp .Eq (.bin .Mod (.ix (.var 0) (nL 0)) (nL 2)) (nL 1)::.nil)))::.pre [3] (.ret (.p (.dspN [.str "digits",.str "cells",.str "number",.str "seed",.str "room",.str "rows"] (.var 4::.var 3::nL 0::.var 1::nL 40::nL 24::.nil))))::.nil
noncomputable abbrev HQ:List Str:=["_law_script","_law_seed","_law_cell","_law_cells","_law_odd"]
theorem KC:b5 fns an 60 HQ tX=P6 KB:=by rfl
theorem KF:ar HQ ["_law_script"] (ab tX):=by walk_at "fsc"
noncomputable abbrev nD:Ql:=jJ 15
noncomputable def HR:bC:=.wh [] (.p (.bool .And (.ix (.var 0) (sL "digits")::.cmp .Eq (.ix (.var 0) (sL "number")) (nL 0)::.cmp .Gt (.blt "len" (.ix (.var 0) (sL "cells")::.nil)) (nL 0)::.nil))) (.put (.nm 0) (sL "number") (.p (.bin .Mod (.ix (.ix (.var 0) (sL "cells")) (nL 0)) (.bin .Pow (nL 10) (nL 60))))::.put (.nm 0) (sL "cells") (.p (.sl (.ix (.var 0) (sL "cells")) (.som (nL 1)) .non))::.nil)::.ifs (.p (.bool .And (.ix (.var 0) (sL "digits")::.cmp .Gt (.ix (.var 0) (sL "number")) (nL 0)::.nil))) (.asg 2 (.p (.bin .Mod (.ix (.var 0) (sL "number")) (.var 1)))::.put (.nm 0) (sL "number") (.p (.bin .FloorDiv (.ix (.var 0) (sL "number")) (.var 1)))::.ret (.p (.var 2))::.nil) .nil::.put (.nm 0) (sL "seed") (.p (.bin .Mod (.bin .Add (.bin .Mult (.ix (.var 0) (sL "seed")) (nL 48271)) (nL 1009)) (nL 2147483647)))::.asg 3 (.p (.bin .Mod (.bin .Mult (.bin .Add (.bin .Mod (.ix (.var 0) (sL "seed")) (nL 65521)) (nL 17)) (.bin .Add (.bin .FloorDiv (.ix (.var 0) (sL "seed")) (nL 31)) (nL 7))) (nL 2147483587)))::.ret (.p (.bin .Mod (.bin .FloorDiv (.var 3) (nL 11)) (.var 1)))::.nil
noncomputable abbrev HS:List Str:=["_law_pot_here","_law_many","_law_digit","_law_twice"]
theorem KG:b5 fns an 60 HS nD=P6 HR:=by rfl
theorem KH:ar HS ["_law_pot_here","_law_many"] (ab nD):=by walk_at "fsc"
noncomputable abbrev pq:Ql:=jJ 16
noncomputable def HU:bC:=.asg 1 (.bin .Add (.p (nL 2)::.fin (.io 11 (.ref 0 (.val (.p (nL 7)) .nil))) .nil))::.asg 2 (.io 11 (.ref 0 (.val (.p (.var 1)) .nil)))::.asg 3 (.p (.lst (.own [] .fz) .nil))::.fo [4] (.nm 4) (.p (.e (sL "qjv"))) (.exp (.mut "extend" (.nm 3) (.comp .fz [P7,P7,P6 2,P6 4,P6 1] (.nm 1) (.e (sL "bcdfghjklmnprstvwxyz")) .non (.bin .Add (.bin .Add (.bin .Mult (.var 3) (.var 2)) (.var 1)) (.bin .Mult (.var 3) (.bin .Sub (.bin .Sub (.var 4) (nL 1)) (.var 2))))::.nil))::.nil)::.ifs (.cmp .Eq (.fin (.io 11 (.ref 0 (.val (.p (nL 2)) .nil))) (nL 1::.nil))) (.asg 3 (.p (.comp .fz [P7,P7] (.nm 1) (.rng (nL 0) (nL 60)) .non (.bin .Add (.ix (sL "bdghkmnp") (.bin .FloorDiv (.var 1) (nL 8))) (.bin .Mult (sL "q") (.bin .Mod (.var 1) (nL 8))))))::.nil) .nil::.asg 5 (.io 11 (.ref 0 (.val (.p (nL 60)) .nil)))::.asg 6 (.ix (.p (.lst (.own [] .fz) (nL 1::nL 7::nL 11::nL 13::nL 17::nL 19::nL 23::nL 29::.nil))::.fin (.io 11 (.ref 0 (.val (.p (nL 8)) .nil))) .nil))::.ret (.p (.comp .fz [P7,P7,P6 5,P6 3,P6 6] (.nm 1) (.rng (nL 0) (nL 60)) .non (.ix (.var 3) (.bin .Mod (.bin .Add (.var 2) (.bin .Mult (.var 4) (.var 1))) (nL 60)))))::.nil
noncomputable abbrev HV:List Str:=["_law_pot_here","_law_size","_law_at","_law_names_here","_law_fill","_law_first","_law_stride"]
theorem KI:b5 fns an 60 HV pq=P6 HU:=by rfl
theorem KJ:ar HV ["_law_pot_here"] (ab pq):=by walk_at "fsc"
noncomputable abbrev nE:Ql:=jJ 17
noncomputable def FO:bC:=.asg 2 (.ix (.p (.lst (.own [] .fz) (.var 1::nL 9::.nil))::.fin (.blt "int" (.fin (.cmp .Eq (.fin (.io 11 (.ref 0 (.val (.p (nL 8)) .nil))) (nL 0::.nil))) .nil)) .nil))::.asg 3 (.blt "min" (.p (.ix (.var 0) (sL "rows"))::.fin (.io 11 (.ref 0 (.val (.p (.bin .Add (.var 2) (nL 1))) .nil))) .nil))::.ifs (.p (.cmp .Lt (.ix (.var 0) (sL "room")) (nL 0))) (.asg 3 (.p (nL 0))::.nil) .nil::.put (.nm 0) (sL "rows") (.p (.bin .Sub (.ix (.var 0) (sL "rows")) (.var 3)))::.ret (.p (.var 3))::.nil
noncomputable abbrev HW:List Str:=["_law_pot_here","_law_most","_law_great","_law_many"]
theorem KL:b5 fns an 60 HW nE=P6 FO:=by rfl
theorem KM:ar HW ["_law_pot_here","_law_most"] (ab nE):=by walk_at "fsc"
noncomputable abbrev nG:Ql:=jJ 18
noncomputable def KN:bC:=.asg 3 (.p (.comp .fz [P7,P7,P7,P6 2] (.tp [.nm 1,.nm 2]) (.e (.var 1)) (.som (.cmp .Eq (.var 2) (.var 3))) (.var 1)))::.asg 4 (.io 11 (.ref 0 (.val (.p (.bin .Add (.blt "len" (.var 3::.nil)) (nL 1))) .nil)))::.ifs (.p (.cmp .Lt (.var 4) (.blt "len" (.var 3::.nil)))) (.ret (.p (.ix (.var 3) (.var 4)))::.nil) .nil::.ret (.tup .fz (.p (sL "number")::.p (.var 2)::.fin (.io 11 (.ref 0 (.val (.p (.bin .LShift (nL 1) (.var 2))) .nil))) .nil))::.nil
noncomputable abbrev HX:List Str:=["_law_pot_here","_law_leaves","_law_width","_law_some","_law_at"]
theorem KO:b5 fns an 60 HX nG=P6 KN:=by rfl
theorem KP:ar HX ["_law_pot_here","_law_leaves","_law_width"] (ab nG):=by walk_at "fsc"
noncomputable abbrev pv:Ql:=jJ 19
noncomputable def EL:bC:=.put (.nm 0) (sL "room") (.p (.bin .Sub (.ix (.var 0) (sL "room")) (nL 1)))::.asg 4 (.io 11 (.ref 0 (.val (.p (nL 14)) .nil)))::.ifs (.p (.bool .Or (.cmp .Eq (.var 3) (nL 0)::.cmp .Lt (.ix (.var 0) (sL "room")) (nL 9)::.cmp .Lt (.var 4) (nL 3)::.nil))) (.ret (.io 14 (.ref 0 (.val (.p (.var 1)) (.val (.p (.var 2)) .nil))))::.nil) .nil::.ifs (.p (.cmp .Eq (.var 4) (nL 3))) (.ret (.tup .fz (.p (sL "not")::.fin (.io 15 (.ref 0 (.val (.p (.var 1)) (.val (.p (.var 2)) (.val (.p (.bin .Sub (.var 3) (nL 1))) .nil))))) .nil))::.nil) .nil::.ifs (.p (.cmp .Lt (.var 4) (nL 9))) (.asg 5 (.io 15 (.ref 0 (.val (.p (.var 1)) (.val (.p (.var 2)) (.val (.p (.bin .Sub (.var 3) (nL 1))) .nil)))))::.ret (.tup .fz (.p (.ix (.lst (.own [] .fz) (sL "and"::sL "or"::sL "xor"::sL "plus"::sL "minus"::.nil)) (.bin .Sub (.var 4) (nL 4)))::.p (.var 5)::.fin (.io 15 (.ref 0 (.val (.p (.var 1)) (.val (.p (.var 2)) (.val (.p (.bin .Sub (.var 3) (nL 1))) .nil))))) .nil))::.nil) .nil::.ifs (.p (.cmp .Eq (.var 4) (nL 9))) (.asg 6 (.io 15 (.ref 0 (.val (.p (.var 1)) (.val (.p (nL 1)) (.val (.p (.bin .Sub (.var 3) (nL 1))) .nil)))))::.asg 5 (.io 15 (.ref 0 (.val (.p (.var 1)) (.val (.p (.var 2)) (.val (.p (.bin .Sub (.var 3) (nL 1))) .nil)))))::.ret (.tup .fz (.p (sL "if")::.p (.var 6)::.p (.var 5)::.fin (.io 15 (.ref 0 (.val (.p (.var 1)) (.val (.p (.var 2)) (.val (.p (.bin .Sub (.var 3) (nL 1))) .nil))))) .nil))::.nil) .nil::.ifs (.p (.bool .And (.cmp .Eq (.var 4) (nL 10)::.cmp .Gt (.var 2) (nL 1)::.nil))) (.asg 7 (.bin .Add (.p (nL 1)::.fin (.io 11 (.ref 0 (.val (.p (.bin .Sub (.var 2) (nL 1))) .nil))) .nil))::.asg 5 (.io 15 (.ref 0 (.val (.p (.var 1)) (.val (.p (.var 7)) (.val (.p (.bin .Sub (.var 3) (nL 1))) .nil)))))::.ret (.tup .fz (.p (sL "join")::.p (.var 5)::.fin (.io 15 (.ref 0 (.val (.p (.var 1)) (.val (.p (.bin .Sub (.var 2) (.var 7))) (.val (.p (.bin .Sub (.var 3) (nL 1))) .nil))))) .nil))::.nil) .nil::.ifs (.p (.bool .And (.cmp .Gt (.var 4) (nL 11)::.cmp .Eq (.var 2) (nL 1)::.nil))) (.asg 8 (.bin .Add (.p (nL 1)::.fin (.io 11 (.ref 0 (.val (.p (nL 8)) .nil))) .nil))::.asg 5 (.io 15 (.ref 0 (.val (.p (.var 1)) (.val (.p (.var 8)) (.val (.p (.bin .Sub (.var 3) (nL 1))) .nil)))))::.ret (.tup .fz (.p (.ix (.lst (.own [] .fz) (sL "same"::sL "less"::.nil)) (.bin .Sub (.var 4) (nL 12)))::.p (.var 5)::.fin (.io 15 (.ref 0 (.val (.p (.var 1)) (.val (.p (.var 8)) (.val (.p (.bin .Sub (.var 3) (nL 1))) .nil))))) .nil))::.nil) .nil::.asg 8 (.bin .Add (.p (.var 2)::.fin (.io 11 (.ref 0 (.val (.p (.bin .Sub (nL 9) (.var 2))) .nil))) .nil))::.asg 7 (.io 11 (.ref 0 (.val (.p (.bin .Add (.bin .Sub (.var 8) (.var 2)) (nL 1))) .nil)))::.ret (.tup .fz (.p (sL "cut")::.fin (.io 15 (.ref 0 (.val (.p (.var 1)) (.val (.p (.var 8)) (.val (.p (.bin .Sub (.var 3) (nL 1))) .nil))))) (.var 7::.var 2::.nil)))::.nil
noncomputable abbrev HY:List Str:=["_law_pot_here","_law_leaves","_law_width","_law_deep","_law_way","_law_one","_law_first","_law_low","_law_wide"]
theorem KQ:b5 fns an 60 HY pv=P6 EL:=by rfl
theorem KR:ar HY ["_law_pot_here","_law_leaves","_law_width","_law_deep"] (ab pv):=by walk_at "fsc"
noncomputable abbrev pw:Ql:=jJ 20
noncomputable def KS:bC:=.ret (.p (.comp .fz [P7,P7,P6 0] (.nm 1) (.rng (nL 0) (.var 1)) .non (.bin .Mod (.bin .FloorDiv (.var 2) (.bin .LShift (nL 1) (.var 1))) (nL 2))))::.nil
noncomputable abbrev HZ:List Str:=["_law_number_here","_law_width"]
theorem KU:b5 fns an 60 HZ pw=P6 KS:=by rfl
theorem KW:ar HZ ["_law_number_here","_law_width"] (ab pw):=by walk_at "fsc"
noncomputable abbrev pA:Ql:=jJ 21
noncomputable def KY:bC:=.ret (.p (.blt "sum" (.comp .fz [P7,P7,P7] (.tp [.nm 1,.nm 2]) (.enm (.var 0)) .non (.bin .LShift (.var 2) (.var 1))::.nil)))::.nil
theorem KZ:b5 fns an 60 ["_law_bits_here"] pA=P6 KY:=by rfl
theorem K0:ar ["_law_bits_here"] ["_law_bits_here"] (ab pA):=by walk_at "fsc"
noncomputable abbrev Jd:Ql:=jJ 22
noncomputable def K1:bC:=.asg 3 (.p (.lst (.own [] .fz) .nil))::.fo [4,5] (.tp [.nm 4,.nm 5]) (.p (.zp (.var 0) (.var 1))) (.exp (.mut "append" (.nm 3) (.bin .Mod (.bin .Add (.bin .Add (.var 4) (.var 5)) (.var 2)) (nL 2)::.nil))::.asg 2 (.p (.bin .FloorDiv (.bin .Add (.bin .Add (.var 4) (.var 5)) (.var 2)) (nL 2)))::.nil)::.ret (.mv 3)::.nil
noncomputable abbrev H9:List Str:=["_law_one","_law_other","_law_carry","_law_found","_law_a","_law_b"]
theorem K2:b5 fns an 60 H9 Jd=P6 K1:=by rfl
theorem K3:ar H9 ["_law_one","_law_other","_law_carry"] (ab Jd):=by walk_at "fsc"
noncomputable abbrev Je:Ql:=jJ 23
noncomputable def Ia:bC:=.ifs (.p (.cmp .Eq (.var 0) (sL "and"))) (.ret (.p (.comp .fz [P7,P7,P7] (.tp [.nm 1,.nm 2]) (.zp (.var 1) (.var 2)) .non (.bin .Mult (.var 1) (.var 2))))::.nil) .nil::.ifs (.p (.cmp .Eq (.var 0) (sL "or"))) (.ret (.p (.comp .fz [P7,P7,P7,P7] (.tp [.nm 1,.nm 2]) (.zp (.var 1) (.var 2)) .non (.blt "max" (.var 1::.var 2::.nil))))::.nil) .nil::.ifs (.p (.cmp .Eq (.var 0) (sL "xor"))) (.ret (.p (.comp .fz [P7,P7,P7,P7] (.tp [.nm 1,.nm 2]) (.zp (.var 1) (.var 2)) .non (.blt "int" (.cmp .NotEq (.var 1) (.var 2)::.nil))))::.nil) .nil::.ifs (.p (.cmp .Eq (.var 0) (sL "plus"))) (.ret (.p (.fn 18 (.var 1::.var 2::nL 0::.nil)))::.nil) .nil::.ifs (.p (.cmp .Eq (.var 0) (sL "minus"))) (.ret (.p (.fn 18 (.var 1::.comp .fz [P7,P7] (.nm 1) (.e (.var 2)) .non (.bin .Sub (nL 1) (.var 1))::nL 1::.nil)))::.nil) .nil::.ifs (.p (.cmp .Eq (.var 0) (sL "same"))) (.ret (.p (.lst (.own [] .fz) (.blt "int" (.cmp .Eq (.var 1) (.var 2)::.nil)::.nil)))::.nil) .nil::.ifs (.p (.cmp .Eq (.var 0) (sL "less"))) (.ret (.p (.lst (.own [] .fz) (.blt "int" (.cmp .Lt (.lrev (.var 1)) (.lrev (.var 2))::.nil)::.nil)))::.nil) .nil::.ret (.p (.bin .Add (.var 1) (.var 2)))::.nil
noncomputable abbrev Ib:List Str:=["_law_word","_law_one","_law_other"]
theorem K4:b5 fns an 60 Ib Je=P6 Ia:=by rfl
theorem K5:ar Ib ["_law_word","_law_one","_law_other"] (ab Je):=by walk_at "fsc"
noncomputable abbrev Jf:Ql:=jJ 24
noncomputable def x5:bC:=.asg 2 (.p (.ix (.var 0) (nL 0)))::.ifs (.p (.cmp .In (.var 2) (.tup .fz (sL "name"::sL "of"::sL "at"::.nil)))) (.ret (.p (.ix (.var 1) (.var 0)))::.nil) .nil::.ifs (.p (.cmp .Eq (.var 2) (sL "number"))) (.ret (.p (.fn 16 (.ix (.var 0) (nL 2)::.ix (.var 0) (nL 1)::.nil)))::.nil) .nil::.asg 3 (.p (.fn 20 (.ix (.var 0) (nL 1)::.var 1::.nil)))::.ifs (.p (.cmp .Eq (.var 2) (sL "not"))) (.ret (.p (.comp .fz [P7,P7] (.nm 1) (.e (.var 3)) .non (.bin .Sub (nL 1) (.var 1))))::.nil) .nil::.ifs (.p (.cmp .Eq (.var 2) (sL "cut"))) (.ret (.p (.sl (.var 3) (.som (.ix (.var 0) (nL 2))) (.som (.bin .Add (.ix (.var 0) (nL 2)) (.ix (.var 0) (nL 3))))))::.nil) .nil::.ifs (.p (.cmp .Eq (.var 2) (sL "if"))) (.ret (.p (.fn 20 (.ix (.var 0) (.bin .Sub (nL 3) (.ix (.var 3) (nL 0)))::.var 1::.nil)))::.nil) .nil::.ret (.fn 19 (.p (.var 2)::.fin (.mv 3) (.fn 20 (.ix (.var 0) (nL 2)::.var 1::.nil)::.nil)))::.nil
noncomputable abbrev Ic:List Str:=["_law_formula","_law_known","_law_word","_law_one"]
theorem K6:b5 fns an 60 Ic Jf=P6 x5:=by rfl
theorem K7:ar Ic ["_law_formula","_law_known"] (ab Jf):=by walk_at "fsc"
noncomputable abbrev Jg:Ql:=jJ 25
noncomputable def K8:bC:=.ret (.p (.bool .And (.isi "int" (.var 0)::.not (.isi "bool" (.var 0))::.nil)))::.nil
theorem K9:b5 fns an 60 ["_law_found"] Jg=P6 K8:=by rfl
theorem La:ar ["_law_found"] ["_law_found"] (ab Jg):=by walk_at "fsc"
noncomputable abbrev Jh:Ql:=jJ 26
noncomputable def AJ:bC:=.ifs (.p (.isi "list" (.var 1))) (.ifs (.p (.bool .Or (.not (.isi "list" (.var 0))::.cmp .NotEq (.blt "len" (.var 0::.nil)) (.blt "len" (.var 1::.nil))::.nil))) (.ret (.p (.lit (.bl Qb)))::.nil) .nil::.ret (.p (.blt "all" (.comp .fz [P7,P7,P7,P7] (.tp [.nm 1,.nm 2]) (.zp (.var 0) (.var 1)) .non (.fn 22 (.var 1::.var 2::.nil))::.nil)))::.nil) .nil::.ret (.p (.bool .And (.fn 21 (.var 0::.nil)::.cmp .Eq (.var 0) (.var 1)::.nil)))::.nil
theorem Lb:b5 fns an 60 ["_law_found","_law_due"] Jh=P6 AJ:=by rfl
theorem Lc:ar ["_law_found","_law_due"] ["_law_found","_law_due"] (ab Jh):=by walk_at "fsc"
noncomputable abbrev jA:Ql:=jJ 27
noncomputable def FQ:bC:=.asg 1 (.p (.fn 10 (.var 0::.nil)))::.asg 2 (.io 12 (.ref 1 .nil))::.asg 4 (.comp .fz [P7,P7,P7,P6 2,P6 1] (.nm 1) (.rng (.io 13 (.ref 1 (.val (.p (nL 4)) .nil)))) .non (.tup .fz (.p (sL "in")::.p (.ix (.var 3) (.var 1))::.fin (.bin .Add (.p (nL 1)::.fin (.io 11 (.ref 4 (.val (.p (nL 8)) .nil))) .nil)) .nil)))::.asg 6 (.p (.comp .fz [P7,P7] (.nm 1) (.e (.var 4)) .non (.tup .fz (.tup .fz (sL "name"::.ix (.var 1) (nL 1)::.nil)::.ix (.var 1) (nL 2)::.nil))))::.asg 7 (.io 15 (.ref 1 (.val (.mv 6) (.val (.bin .Add (.p (nL 1)::.fin (.io 11 (.ref 1 (.val (.p (nL 8)) .nil))) .nil)) (.val (.p (nL 5)) .nil)))))::.asg 8 (.io 11 (.ref 1 (.val (.p (.bin .Add (.blt "len" (.var 4::.nil)) (nL 1))) .nil)))::.asg 9 (.p (.lst (.own [] .fz) (.tup .fz (.ix (.var 2) (nL 9)::.bin .Add (.bin .Add (.sl (.var 4) .non (.som (.var 8))) (.lst (.own [] .fz) (.tup .fz (sL "out"::.ix (.var 2) (nL 0)::.var 7::.nil)::.nil))) (.sl (.var 4) (.som (.var 8)) .non)::.nil)::.nil)))::.pre [4] (.fo [3,10,11,13,14,15,12] (.nm 3) (.rng (.bin .Add (.p (nL 1)::.fin (.io 11 (.ref 1 (.val (.p (nL 6)) .nil))) .nil))) (.asg 10 (.comp .fz [P7,P7,P7,P6 1] (.nm 1) (.p (.e (.var 4))) .non (.io 11 (.ref 3 (.val (.p (.bin .LShift (nL 1) (.ix (.var 1) (nL 2)))) .nil))))::.asg 11 (.p (.dnew 1 .fz))::.fo [5,12] (.tp [.nm 5,.nm 12]) (.p (.zp (.var 4) (.var 10))) (.put (.nm 11) (.tup .fz (sL "name"::.ix (.var 5) (nL 1)::.nil)) (.p (.fn 16 (.var 12::.ix (.var 5) (nL 2)::.nil)))::.nil)::.pre [11] (.asg 13 (.p (.lst (.own [] .fz) (.fn 17 (.fn 20 (.var 7::.var 11::.nil)::.nil)::.nil))))::.asg 14 (.p (.blt "list" (.var 10::.nil)))::.fo [15,16,17] (.nm 15) (.p (.rng (nL 0) (nL 2))) (.unp [16,17] (.fn 1 (.fz 9::.p (.ix (.var 2) (nL 9))::.p (.lst (.own [] .fz) .nil)::.fin (.fz 14) .nil))::.ifs (.p (.bool .Or (.not (.fn 22 (.var 16::.var 13::.nil))::.not (.fn 22 (.var 17::.lst (.own [] .fz) .nil::.nil))::.cmp .NotEq (.var 14) (.var 10)::.nil))) (.ret (.p (.lit (.bl Qb)))::.nil) .nil::.exp (.mut "append" (.nm 16) (nL 1::.nil))::.exp (.mut "append" (.nm 17) (nL 2::.nil))::.nil)::.nil))::.ret (.p (.lit (.bl P8)))::.nil
noncomputable abbrev Ie:List Str:=["_law_script","_law_pot_here","_law_names_here","_law_k","_law_ins","_law_row","_law_leaves","_law_formula","_law_at","_law_program","_law_numbers","_law_known","_law_number_here","_law_due","_law_handed","_law_again","_law_outs","_law_state"]
theorem Ld:b5 fns an 60 Ie jA=P6 FQ:=by rfl
theorem Lf:ar Ie ["_law_script"] (ab jA):=by walk_at "fsc"
noncomputable abbrev zN:Ql:=match jJ 4 with|.ClassDef _ _ _ b ..=>b.getD 0 (.Pass ⟨0,0,0,0⟩)|s=>s
noncomputable def LQ:bC:=.putF "Scene" (.nm 0) "names" (.p (.dnew 0 .fz))::.putF "Scene" (.nm 0) "rooms" (.p (.dnew 0 .fz))::.putF "Scene" (.nm 0) "outs" (.p (.dnew 0 .fz))::.nil
end
theorem Lg:b5 fns an 60 ["self"] zN=P6 LQ:=by rfl
theorem Lh:ar ["self"] ["self"] (ab zN):=by walk_at "fsc"
noncomputable def U0:GG:=⟨λ_=>P7,λ_=>P7⟩
noncomputable def ψ0:Fn:=cj U0 1000 2 2 b0
noncomputable def U_0:GG:=U0.addI 0 ψ0
noncomputable def ψ2:Fn:=cj U_0 1000 1 1 b2
noncomputable def U_2:GG:=U_0.addI 2 ψ2
noncomputable def Lj:Fn:=AE (.own [] (.own [] .fz)) "Scene" (iR U_2 1000 1 1 [0] LQ)
noncomputable def U_24:GG:=U_2.addI 24 Lj
noncomputable def ψ4:Fn:=cj U_24 1000 3 6 b4
noncomputable def U_4:GG:=U_24.addI 4 ψ4
noncomputable def ψ7:Fn:=cj U_4 1000 1 1 b7
noncomputable def U_7:GG:=U_4.addI 7 ψ7
noncomputable def ψ8:Fn:=cj U_7 1000 3 4 b8
noncomputable def U_8:GG:=U_7.addI 8 ψ8
noncomputable def ψ9:Fn:=cj U_8 1000 3 3 b9
noncomputable def U_9:GG:=U_8.addI 9 ψ9
noncomputable def ψ6:Fn:=recI U_9 6 1000 2 7 b6 40
noncomputable def U_6:GG:=U_9.addI 6 ψ6
noncomputable def rm:bC->Nat->bC
 |.cons s _,0=>.cons s .nil
 |.cons _ r,n+1=>rm r n
 |.nil,_=>.nil
noncomputable def Lk:IEs:=(.cons (.comp .fz [P7,P7] (.nm 1) (.e (.fn 2 (.cons (.var 4) .nil))) .non (.ix (.var 1) (nL 1))) (.cons (.var 2) .nil))
noncomputable def Ji:Ro->Option Res:=λZ=>kA [] 6 ((LK (aJ U_6.fn Lk Z)).map λp=>(p.1,p.2,Z))
noncomputable def Ll:II:=.e (.fn 0 (.cons (.var 4) (.cons (sL "out") .nil)))
noncomputable def EM:IE:=.ix (.var 1) (nL 1)
noncomputable def AK:IE:=.fn 6 (.cons (.ix (.var 1) (nL 2)) (.cons (.var 3) .nil))
noncomputable def Jj:Ro->Option Res:=λZ=>kA [] 13 ((iQ 0 (bR U_6.fn Ll Z) (fA (.nm 1) (λ_=>P6 P8) (aa U_6.fn EM) (aa U_6.fn AK) (a9 Z [P7,P7,P7,P6 7]))).map λp=>(p.1,p.2,Z))
noncomputable def pt(n:Nat):Ro->Option Res:=aP U_6 1000 (rm b3 n) []
noncomputable def Ig:Ro->Option Res:=λZ=>bH (pt 0 Z) λZ=>bH (Ji Z) λZ=>bH (pt 2 Z) λZ=>bH (pt 3 Z) λZ=>bH (pt 4 Z) λZ=>bH (pt 5 Z) λZ=>bH (pt 6 Z) λZ=>bH (Jj Z) λZ=>pt 8 Z
noncomputable def ψ3:Fn:=qY Ig 4 14
noncomputable def U_3:GG:=U_6.addI 3 ψ3
noncomputable def LR:Ro->MR:=λZ=>eZ .fz (xD 4 Z) (fy [P7,P7,P7] (.tp [.nm 1,.nm 2]) (λZ=>P6 (P8,Z)) (aH U_3 (.p (.var 1)))) [P7,P7,P7]
noncomputable def LS:Ro->Option (List KD×Ro):=λZ=>eW (LR Z) λZ=>eX (aH U_3 (.mv 5) Z) λ_=>P6 []
noncomputable def LU:Ro->Option Res:=λZ=>uY ((LS Z).bind λp=>(gJ (.own [] (.own [] .fz)) (P6 p.1)).map λq=>(q.1,q.2,p.2))
noncomputable def Ih:Ro->Option Res:=λZ=>bH (aP U_3 1000 (rm b1 0) [] Z) LU
noncomputable def ψ1:Fn:=qY Ih 4 6
noncomputable def Mq:GG:=U_3.addI 1 ψ1
noncomputable abbrev U_5:GG:=Mq
noncomputable def Jk:Fn:=cj U_5 1000 1 5 KB
noncomputable def U_10:GG:=U_5.addI 10 Jk
noncomputable def AL:Fm:=iR U_10 1000 2 4 [0] HR
noncomputable def U_11:GG:=U_10.addM 11 AL
noncomputable def Jl:Fm:=iR U_11 1000 1 7 [0] HU
noncomputable def U_12:GG:=U_11.addM 12 Jl
noncomputable def Jm:Fm:=iR U_12 1000 2 4 [0] FO
noncomputable def U_13:GG:=U_12.addM 13 Jm
noncomputable def Jn:Fm:=iR U_13 1000 3 5 [0] KN
noncomputable def U_14:GG:=U_13.addM 14 Jn
noncomputable def LV:Fm:=recM U_14 15 1000 4 9 [0] EL 40
noncomputable def U_15:GG:=U_14.addM 15 LV
noncomputable def Jo:Fn:=cj U_15 1000 2 2 KS
noncomputable def U_16:GG:=U_15.addI 16 Jo
noncomputable def Jp:Fn:=cj U_16 1000 1 1 KY
noncomputable def U_17:GG:=U_16.addI 17 Jp
noncomputable def Jq:Fn:=cj U_17 1000 3 6 K1
noncomputable def U_18:GG:=U_17.addI 18 Jq
noncomputable def yL:Fn:=cj U_18 1000 3 3 Ia
noncomputable def U_19:GG:=U_18.addI 19 yL
noncomputable def LW:Fn:=recI U_19 20 1000 2 4 x5 40
noncomputable def U_20:GG:=U_19.addI 20 LW
noncomputable def Jr:Fn:=cj U_20 1000 1 1 K8
noncomputable def U_21:GG:=U_20.addI 21 Jr
noncomputable def LX:Fn:=recI U_21 22 1000 2 2 AJ 40
noncomputable def U_22:GG:=U_21.addI 22 LX
noncomputable def Ii:Fn:=cj U_22 1000 1 18 FQ
noncomputable abbrev z3:Cz:=⟨ab s3,LM,λ_=>P8⟩
noncomputable abbrev l3(i:Nat):List Ql:=((aQ s3).drop i).take 1
noncomputable abbrev r7:Ql:=(l3 7).getD 0 (.Pass ⟨0,0,0,0⟩)
noncomputable abbrev n0:P9:=.Name "" ⟨0,0,0,0⟩
noncomputable abbrev kE:P9:=match r7 with|.Assign _ (.DictComp k _ _ _ _) _=>k|_=>n0
noncomputable abbrev vE:P9:=match r7 with|.Assign _ (.DictComp _ v _ _ _) _=>v|_=>n0
noncomputable abbrev tE:P9:=match r7 with|.Assign _ (.DictComp _ _ (g::_) _ _) _=>g.target|_=>n0
noncomputable abbrev iE:P9:=match r7 with|.Assign _ (.DictComp _ _ (g::_) _ _) _=>g.iter|_=>n0
noncomputable abbrev sE:Qo:=match r7 with|.Assign _ (.DictComp _ _ _ s _) _=>s|_=>ab s3
noncomputable abbrev Mr:Pos:=match r7 with|.Assign _ (.DictComp _ _ _ _ p) _=>p|_=>⟨0,0,0,0⟩
noncomputable abbrev pE:Pos:=match r7 with|.Assign [.Name _ p] _ _=>p|_=>⟨0,0,0,0⟩
noncomputable abbrev qE:Pos:=match r7 with|.Assign _ _ p=>p|_=>⟨0,0,0,0⟩
theorem Lm{s:Ql}(h:cR X pn f s):bZ X pn f [s]:=λZ r e g Y H Dn se q=>qP (yT Hy) (h Z r e g Y H Dn se q)
theorem x6(X:Cx)(O:ao X (bx fns U_6) z3)(hp:PassesOwn (Qg X.prog X.w) X.A X.env X.xe):bZ X [] Ig (aQ s3):=by
 have sq:∀{st:List Ql} {b:bC},cB fns an 60 z3 60 st=P6 b->bZ X [] (aP U_6 1000 b []) st:=λh=>iP U_6 (λs is h=>o5 fns U_6 O hp 60 h) h [];have hE:=λ(Yq:Cx) (c:Cz) (P:ao Yq (bx fns U_6) c)=>(cx (fm:=jo fns U_6) fns U_6.fn 60).1 Yq c P;have h1:bZ X [] Ji (l3 1):=Lm (BF O (x:="before") (i:=6) (by rfl) (by rfl) (by rfl) (AB O (by rfl) (by rfl) (by rfl) (by rfl) (dD U_6.fn (hE X z3 O) (show _=P6 Lk by rfl)).1).m)
 have h7:bZ X [] Jj (l3 7):=by
  have h:=Et (pn:=[]) O (x:="outs") (i:=13) (z:=0) (n:=4) (t:=.nm 1) (ft:=λ_=>P6 P8) (fk:=aa U_6.fn EM) (fe:=aa U_6.fn AK) (kx:=kE) (elt:=vE) (tg:=tE) (iter:=iE) (ifs:=[]) (scope:=sE) (cp:=Mr) (p:=pE) (pos:=qE) (by rfl) (by rfl) (by rfl) (by rfl) (sI fns U_6.fn O (hE X z3 O) (show _=P6 Ll by rfl)) (by rfl) (λC s H ex=>Bv) (λC s H ex=>hE _ _ (cr O (by rfl) C s H ex) _ EM (by rfl)) (λC s H ex=>hE _ _ (cr O (by rfl) C s H ex) _ AK (by rfl));rw[show aq z3 sE=[P7,P7,P7,P6 7] by rfl] at h;exact Lm h
 have hq:∀n,cB fns an 60 z3 60 (l3 n)=P6 (rm b3 n)->bZ X [] (pt n) (l3 n):=λn h=>sq h;have hh:bZ X [] Ig (l3 0++(l3 1++(l3 2++(l3 3++(l3 4++(l3 5++(l3 6++(l3 7++l3 8)))))))):=g9 (hq 0 (by rfl)) <| g9 h1 <| g9 (hq 2 (by rfl)) <| g9 (hq 3 (by rfl)) <| g9 (hq 4 (by rfl)) <| g9 (hq 5 (by rfl)) <| g9 (hq 6 (by rfl)) <| g9 h7 (hq 8 (by rfl));exact hh
noncomputable abbrev z1:Cz:=⟨ab s1,LL,λ_=>P8⟩
noncomputable abbrev l1(i:Nat):List Ql:=((aQ s1).drop i).take 1
noncomputable abbrev q1:Ql:=(l1 1).getD 0 (.Pass ⟨0,0,0,0⟩)
noncomputable abbrev BV:P9:=match q1 with|.Return (P6 (.Tuple (e::_) _ _)) _=>e|_=>n0
noncomputable abbrev Ln:P9:=match BV with|.ListComp e _ _ _=>e|_=>n0
noncomputable abbrev Lo:P9:=match BV with|.ListComp _ (g::_) _ _=>g.target|_=>n0
noncomputable abbrev Ms:P9:=match BV with|.ListComp _ (g::_) _ _=>g.iter|_=>n0
noncomputable abbrev Ij:Qo:=match BV with|.ListComp _ _ s _=>s|_=>ab s1
noncomputable abbrev Mt:Pos:=match BV with|.ListComp _ _ _ p=>p|_=>⟨0,0,0,0⟩
noncomputable abbrev Lp:P9:=match q1 with|.Return (P6 (.Tuple [_,e] _ _)) _=>e|_=>n0
noncomputable abbrev Mu:Pos:=match q1 with|.Return (P6 (.Tuple _ _ p)) _=>p|_=>⟨0,0,0,0⟩
noncomputable abbrev k1:=match q1 with|.Return (P6 (.Tuple _ k _)) _=>k|_=>0
noncomputable abbrev Mv:Pos:=match q1 with|.Return _ p=>p|_=>⟨0,0,0,0⟩
theorem x8(X:Cx)(O:ao X (bx fns U_3) z1)(hp:PassesOwn (Qg X.prog X.w) X.A X.env X.xe):bZ X [] Ih (aQ s1):=by
 have h0:bZ X [] (aP U_3 1000 (rm b1 0) []) (l1 0):=iP U_3 (λs is h=>o5 fns U_3 O hp 60 h) (show cB fns an 60 z1 60 (l1 0)=P6 (rm b1 0) by rfl) [];have hM:=λ(Yq:Cx) (c:Cz) (P:ao Yq (bx fns U_3) c)=>(fN fns U_3 60).1 Yq c P
 have hv:bd X LR BV:=by
  have h:=sU O (r:=.fz) (n:=4) (t:=.tp [.nm 1,.nm 2]) (ft:=λZ=>P6 (P8,Z)) (fe:=aH U_3 (.p (.var 1))) (elt:=Ln) (tg:=Lo) (iter:=Ms) (ifs:=[]) (scope:=Ij) (pos:=Mt) (by rfl) (by rfl) (HP O (x:="outs") (i:=4) (by rfl) (by rfl) (by rfl)) (by rfl) (λC s H ex=>xg) (λC s H ex=>hM _ _ (cr O (by rfl) C s H ex) _ _ (by rfl));rw[show aq z1 Ij=[P7,P7,P7] by rfl] at h;exact h
 have ha:lJ X LS [BV,Lp]:=sN (by rfl) hv (xc (fa:=aH U_3 (.mv 5)) (fr:=λ_=>P6 []) (by rfl) (show bd X (aH U_3 (.mv 5)) Lp from By O (x:="after") (i:=5) (by rfl) _) (dD (es:=[]) U_3.fn ((cx (fm:=jo fns U_3) fns U_3.fn 60).1 X z1 O) (show _=P6 IEs.nil by rfl)).1);have hr:bZ X [] LU (l1 1):=Lm (BG (e:=.Tuple [BV,Lp] k1 Mu) (pos:=Mv) (n_tup.m ha));exact(g9 h0 hr:bZ X [] Ih (l1 0++l1 1))
end K27
namespace K27
noncomputable def bS:Nat->Nat->List Bool
 |_,0=>[]
 |a,w+1=>decide (a%2=1)::bS (a / 2) w
theorem ay:∀(a w:Nat),(bS a w).length=w
 |_,0=>rfl
 |a,w+1=>by rw[bS,MY,ay]
theorem bF:∀(a w k:Nat),k<w->(bS a w)[k]?=P6 (a.testBit k)
 |a,w+1,0,_=>by rw[bS,O3,Nat.testBit_zero]
 |a,w+1,k+1,h=>by rw[bS,Oh,bF (a / 2) w k (by lia),Nat.testBit_succ]
theorem iT{l:List Bool}{a w:Nat}(hl:l.length=w)(h:∀k,k<w->l[k]?=P6 (a.testBit k)):l=bS a w:=by
 refine Oj λk=>?_;by_cases hk:k<w
 ·rw[h k hk,bF a w k hk]
 ·rw[Nd (by lia),Nd (by rw[ay];lia)]
theorem nj{f:Bool->Bool->Bool}{g:Nat->Nat->Nat}(hg:∀a b k,(g a b).testBit k=f (a.testBit k) (b.testBit k))(a b w:Nat):Nc f (bS a w) (bS b w)=bS (g a b) w:=by
 refine iT (by rw[Pw,ay,ay,PF]) λk hk=>?_;rw[Pn,bF a w k hk,bF b w k hk,hg]
theorem AM(a b w:Nat):Nc and (bS a w) (bS b w)=bS (a &&& b) w:=nj (λa b k=>Nat.testBit_and a b k) a b w
theorem EN(a b w:Nat):Nc or (bS a w) (bS b w)=bS (a ||| b) w:=nj (λa b k=>Nat.testBit_or a b k) a b w
theorem AN(a b w:Nat):Nc xor (bS a w) (bS b w)=bS (a ^^^ b) w:=nj (λa b k=>Pd a b k) a b w
theorem tY(a w:Nat):(bS a w).map not=bS (a ^^^ (2^w-1)) w:=by
 refine iT (by rw[MB,ay]) λk hk=>?_;rw[MF,bF a w k hk,Pd,N7,decide_eq_true hk];simp
theorem AO{a W lo w:Nat}(h:lo+w<=W):((bS a W).drop lo).take w=bS ((a >>> lo) &&& (2^w-1)) w:=by
 refine iT (by rw[M8,On,ay];lia) λk hk=>?_;rw[OX hk,List.getElem?_drop,bF a W (lo+k) (by lia),Nat.testBit_and,Nat.testBit_shiftRight,N7,decide_eq_true hk,Bool.and_true]
theorem x9{a b w v:Nat}(h:a<2^w):bS a w++bS b v=bS (a ||| b <<< w) (w+v):=by
 refine iT (by rw[MX,ay,ay]) λk hk=>?_;rw[Nat.testBit_or,Nat.testBit_shiftLeft];by_cases hw:k<w
 ·rw[Nq (by rw[ay];exact hw),bF a w k hw,decide_eq_false (by lia:¬k ≥ w),Bool.false_and,Ps]
 ·rw[NT (by rw[ay];lia),ay,bF b v (k-w) (by lia),decide_eq_true (by lia:k ≥ w),N4 (MG h (NJ (by decide) (by lia))),Bool.false_or,Bool.true_and]
theorem tZ(a w:Nat):bS (a%2^w) w=bS a w:=by
 refine iT (ay _ _) λk hk=>?_;rw[bF _ w k hk,Nat.testBit_mod_two_pow,decide_eq_true hk,Bool.true_and]
theorem AQ{a b w:Nat}(h:bS a w=bS b w)(ha:a<2^w)(hb:b<2^w):a=b:=by
 refine Po λk=>?_;by_cases hk:k<w
 ·have:=bF a w k hk;rw[h,bF b w k hk] at this;exact(Option.some.inj this).symm
 ·rw[N4 (MG ha (NJ (by decide) (by lia))),N4 (MG hb (NJ (by decide) (by lia)))]
noncomputable def bn(b:Bool):Nat:=if b then 1 else 0
noncomputable def rn:List Bool->List Bool->Bool->List Bool
 |a::r,b::t,c=>decide ((bn a+bn b+bn c)%2=1)::rn r t (decide ((bn a+bn b+bn c) / 2=1))
 |_,_,_=>[]
theorem kK(a:Nat):bn (decide (a%2=1))=a%2:=by
 unfold bn;split
 ·rename_i h;exact(of_decide_eq_true h).symm
 ·rename_i h;have:¬a%2=1:=λz=>h (decide_eq_true z);lia
theorem nk:∀(w a b:Nat) (c:Bool),rn (bS a w) (bS b w) c=bS (a+b+bn c) w
 |0,_,_,_=>rfl
 |w+1,a,b,c=>by
  have hc:bn c=0\/bn c=1:=by cases c;exact .inl rfl;exact .inr rfl
  rw[bS,bS,rn,kK,kK,nk w,bS];have e1:(a%2+b%2+bn c)%2=(a+b+bn c)%2:=by lia
  have e2:bn (decide ((a%2+b%2+bn c) / 2=1))=(a%2+b%2+bn c) / 2:=by
   have:(a%2+b%2+bn c) / 2=0\/(a%2+b%2+bn c) / 2=1:=by lia
   rcases this with h|h<;>rw[h]<;>rfl
  rw[e1,e2];congr 2
  lia
theorem AR{a b w:Nat}(hb:b<2^w):rn (bS a w) ((bS b w).map not) P8=bS (a+2^w-b) w:=by
 have e:b ^^^ (2^w-1)=2^w-1-b:=by
  refine Po λk=>?_;rw[Pd,N7,show 2^w-1-b=2^w-(b+1) by lia,Nat.testBit_two_pow_sub_succ hb];by_cases hk:k<w
  ·simp[hk]
  ·rw[N4 (MG hb (NJ (by decide) (by lia)))];simp[hk]
 rw[tY,nk,e];congr 1;show a+(2^w-1-b)+1=a+2^w-b
 lia
noncomputable def num:List Bool->Nat
 |[]=>0
 |b::r=>bn b+2*num r
theorem t0:∀(w a:Nat),a<2^w->num (bS a w)=a
 |0,a,h=>by
  have:a=0:=by simpa using h
  subst this;rfl
 |w+1,a,h=>by
  rw[bS,num,kK,t0 w (a / 2) (by rw[PH] at h;lia)]
  lia
theorem pB(a w:Nat):bS a (w+1)=bS a w++[a.testBit w]:=by
 refine(iT (by rw[MX,ay];rfl) λk hk=>?_).symm;by_cases hw:k<w
 ·rw[Nq (by rw[ay];exact hw),bF a w k hw]
 ·have:k=w:=by lia
  subst this;rw[NT (by rw[ay];exact MH _),ay,Nat.sub_self];rfl
noncomputable def iL(l:List Bool):List Int:=l.map λb=>(bn b:Int)
theorem pC(a w:Nat):a%2^(w+1)=a%2^w+2^w*bn (a.testBit w):=by
 have e:bn (a.testBit w)=a / 2^w%2:=by
  rw[Op,kK]
 rw[e,PH,Nat.mod_mul]
theorem ya:∀(w a b:Nat),G.nC (iL (bS a w).reverse) (iL (bS b w).reverse)=decide (a%2^w<b%2^w)
 |0,a,b=>by simp[bS,iL,G.nC,Nat.mod_one]
 |w+1,a,b=>by
  rw[pB,pB,Px,Px];show G.nC ((bn (a.testBit w):Int)::iL (bS a w).reverse) ((bn (b.testBit w):Int)::iL (bS b w).reverse)=_;rw[G.nC,ya w,pC a w,pC b w];have ha:=Pp a (Nj w);have hb:=Pp b (Nj w);generalize a%2^w=x at ha⊢;generalize b%2^w=y at hb⊢
  cases a.testBit w<;>cases b.testBit w<;>simp[bn]<;>lia
end K27
namespace K27
open PySem
inductive AS where
 |and|or|xor|plus|minus
inductive Fo where
 |name (x:Str)|num (w v:Nat)|not (a:Fo)|two (o:AS) (a b:Fo)|ite (c a b:Fo)|join (a b:Fo)|cmp (less:Bool) (a b:Fo)|cut (a:Fo) (lo w:Nat)
section
variable (L E:Str->Nat)
noncomputable def wid:Fo->Nat
 |.name x=>L x
 |.num w _=>w
 |.not a=>wid a
 |.two _ a _=>wid a
 |.ite _ a _=>wid a
 |.join a b=>wid a+wid b
 |.cmp _ _ _=>1
 |.cut _ _ w=>w
noncomputable def Wf:Fo->Prop
 |.name _=>True
 |.num w v=>v<2^w
 |.not a=>Wf a
 |.two _ a b=>Wf a/\Wf b/\wid L a=wid L b
 |.ite c a b=>Wf c/\Wf a/\Wf b/\wid L c=1/\wid L a=wid L b
 |.join a b=>Wf a/\Wf b
 |.cmp _ a b=>Wf a/\Wf b/\wid L a=wid L b
 |.cut a lo w=>Wf a/\lo+w<=wid L a
noncomputable def val:Fo->Nat
 |.name x=>E x
 |.num _ v=>v
 |.not a=>val a ^^^ (2^wid L a-1)
 |.two o a b=>(match o with
  |.and=>val a &&& val b
  |.or=>val a ||| val b
  |.xor=>val a ^^^ val b
  |.plus=>(val a+val b)%2^wid L a
  |.minus=>(val a+2^wid L a-val b)%2^wid L a)
 |.ite c a b=>if val c=1 then val a else val b
 |.join a b=>val a ||| val b <<< wid L a
 |.cmp less a b=>if less then bn (decide (val a<val b)) else bn (decide (val a=val b))
 |.cut a lo w=>(val a >>> lo) &&& (2^w-1)
noncomputable def ck:Fo->List Bool
 |.name x=>bS (E x) (L x)
 |.num w v=>bS v w
 |.not a=>(ck a).map not
 |.two o a b=>(match o with
  |.and=>Nc and (ck a) (ck b)
  |.or=>Nc or (ck a) (ck b)
  |.xor=>Nc xor (ck a) (ck b)
  |.plus=>rn (ck a) (ck b) Qb
  |.minus=>rn (ck a) ((ck b).map not) P8)
 |.ite c a b=>if(ck c)[0]?=P6 P8 then ck a else ck b
 |.join a b=>ck a++ck b
 |.cmp less a b=>[if less then G.nC (iL (ck a).reverse) (iL (ck b).reverse) else decide (ck a=ck b)]
 |.cut a lo w=>((ck a).drop lo).take w
theorem yb(b:Bool):bS (bn b) 1=[b]:=by cases b<;>rfl
theorem BW(b:Bool):bn b<2^1:=by cases b<;>decide
theorem aD(hE:∀x,E x<2^L x):∀f:Fo,Wf L f->ck L E f=bS (val L E f) (wid L f)/\val L E f<2^wid L f
 |.name x,_=>⟨rfl,hE x⟩
 |.num w v,h=>⟨rfl,h⟩
 |.not a,h=>by
  obtain⟨e,l⟩:=aD hE a h;refine⟨by rw[ck,e,tY];rfl,OD l (Nat.sub_lt (Nj _) (by decide))⟩
 |.two o a b,⟨ha,hb,hw⟩=>by
  obtain⟨e,l⟩:=aD hE a ha;obtain⟨e',l'⟩:=aD hE b hb;rw[<- hw] at e' l'
  cases o with
  |and=>exact⟨by simp only[ck];rw[e,e',AM];rfl,OE _ l'⟩
  |or=>exact⟨by simp only[ck];rw[e,e',EN];rfl,OS l l'⟩
  |xor=>exact⟨by simp only[ck];rw[e,e',AN];rfl,OD l l'⟩
  |plus=>exact⟨by simp only[ck];rw[e,e',nk];exact(tZ _ _).symm,Pp _ (Nj _)⟩
  |minus=>exact⟨by simp only[ck];rw[e,e',AR l'];exact(tZ _ _).symm,Pp _ (Nj _)⟩
 |.ite c a b,⟨hc,ha,hb,h1,hw⟩=>by
  obtain⟨e,l⟩:=aD hE a ha;obtain⟨e',l'⟩:=aD hE b hb;obtain⟨e2,l2⟩:=aD hE c hc;rw[<- hw] at e' l';rw[h1] at e2 l2;have:val L E c=0\/val L E c=1:=by lia
  rcases this with h|h
  ·exact⟨by simp only[ck,val];rw[e2,h,if_neg (by decide),if_neg (by decide),e'];rfl,by simp only[val,h];rw[if_neg (by decide)];exact l'⟩
  ·exact⟨by simp only[ck,val];rw[e2,h,if_pos (by decide),if_pos rfl,e];rfl,by simp only[val,h];rw[if_pos trivial];exact l⟩
 |.join a b,⟨ha,hb⟩=>by
  obtain⟨e,l⟩:=aD hE a ha;obtain⟨e',l'⟩:=aD hE b hb;refine⟨by simp only[ck];rw[e,e',x9 l];rfl,?_⟩;refine OS (MG l (NJ (by decide) (Nl _ _))) ?_;rw[O0,wid,Nat.add_comm,Nat.pow_add];exact OF l' (Nj _)
 |.cmp less a b,⟨ha,hb,hw⟩=>by
  obtain⟨e,l⟩:=aD hE a ha;obtain⟨e',l'⟩:=aD hE b hb;rw[<- hw] at e' l'
  cases less with
  |true=>exact⟨by simp only[ck];rw[e,e',if_pos trivial,ya,NN l,NN l'];exact(yb _).symm,BW _⟩
  |false=>
   refine⟨?_,BW _⟩;simp only[ck];rw[e,e',if_neg (by decide),decide_eq_decide.mpr (show bS (val L E a) (wid L a)=bS (val L E b) (wid L a)↔val L E a=val L E b from⟨λz=>AQ z l l',λz=>by rw[z]⟩)];exact(yb _).symm
 |.cut a lo w,⟨ha,hw⟩=>by
  obtain⟨e,l⟩:=aD hE a ha;refine⟨by simp only[ck];rw[e,AO hw];rfl,OE _ (Nat.sub_lt (Nj _) (by decide))⟩
end
theorem fc(a w:Nat):Builtin.bitAnd (a:Int) ((2^w-1:Nat):Int)=((a%2^w:Nat):Int):=by
 rw[PyProof.Rows.bitAnd_pp (by lia) (by lia),Nx,Nx,Ot]
theorem yc{a b w:Nat}(ha:a<2^w)(hb:b<2^w):Builtin.bitAnd ((a:Int)-b) ((2^w-1:Nat):Int)=(((a+2^w-b)%2^w:Nat):Int):=by
 by_cases h:b<=a
 ·rw[show(a:Int)-b=((a-b:Nat):Int) by lia,fc,show a+2^w-b=a-b+2^w by lia,Nat.add_mod_right]
 ·rw[PyProof.Rows.bitAnd_np (by lia) (by lia),Nx,show(Builtin.bitNot ((a:Int)-b)).toNat=b-a-1 by unfold Builtin.bitNot;lia,Nat.and_comm,Ot,NN (by lia),NN (by lia)]
  lia
noncomputable abbrev iD(n:Nat):D:=.int (n:Int)
noncomputable def EO:AS->Str
 |.and=>"and" |.or=>"or" |.xor=>"xor" |.plus=>"plus" |.minus=>"minus"
noncomputable def dt:Fo->D
 |.name x=>.tup [.str "name",.str x]
 |.num w v=>.tup [.str "number",iD w,iD v]
 |.not a=>.tup [.str "not",dt a]
 |.two o a b=>.tup [.str (EO o),dt a,dt b]
 |.ite c a b=>.tup [.str "if",dt c,dt a,dt b]
 |.join a b=>.tup [.str "join",dt a,dt b]
 |.cmp l a b=>.tup [.str (if l then "less" else "same"),dt a,dt b]
 |.cut a lo w=>.tup [.str "cut",dt a,iD lo,iD w]
noncomputable def dep:Fo->Nat
 |.name _=>0
 |.num _ _=>0
 |.not a=>dep a+1
 |.two _ a b=>max (dep a) (dep b)+1
 |.ite c a b=>max (dep c) (max (dep a) (dep b))+1
 |.join a b=>max (dep a) (dep b)+1
 |.cmp _ a b=>max (dep a) (dep b)+1
 |.cut a _ _=>dep a+1
noncomputable def yM(ins:List (Str×Nat×Nat)):D:=.nd (.obj "Scene" ["names","rooms","outs"]) [.nd (.dic 0 (ins.map λp=>.inl (.inr p.1))) (ins.map λp=>.tup [iD p.2.2,iD p.2.1]),.nd (.dic 0 []) [],.nd (.dic 0 []) []]
noncomputable abbrev pD(v w:Nat):D:=.tup [iD v,iD w]
noncomputable abbrev vl(n:Nat):Fn:=recI U_9 6 1000 2 7 b6 n
example:ψ6=vl 40:=rfl
noncomputable abbrev bD(b:Bool):D:=iD (bn b)
noncomputable abbrev k0:Ow:=.own [] .fz
theorem no(a b:Nat):Builtin.bitAnd (a:Int) b=((a &&& b:Nat):Int):=by
 rw[PyProof.Rows.bitAnd_pp (by lia) (by lia)];rfl
theorem az(h:Wp B λx=>x=r):B=P6 r:=by obtain⟨x,e,rfl⟩:=h;exact e
section
variable {U:GG} {N:Nat} {pn:List Nat} {Z:Ro} {Q:Res->Prop} {rest:bC}
theorem dX(h:Wp (aP U N rest pn Z) Q):Wp (aP U N .nil pn Z) (Kt U N rest pn Q):=ca (jd h)
end
section
variable {U:Nat->Option Fn} {Z:Ro} {Q:KD->Prop} {k k':Kd}
theorem EQ{a b:Nat}(q:Q (.sh,iD (a &&& b))):Wp (eJ .BitAnd (k,iD a) (k',iD b)) Q:=⟨(.sh,.int (Builtin.bitAnd a b)),rfl,by rw[no];exact q⟩
theorem ER{α:Type}{f:α->D}{l:List α}{ys:List D}(hl:ys.length=l.length)(h:∀(i:Nat) y,ys[i]?=P6 y->∃a,l[i]?=P6 a/\y=f a):ys=l.map f:=by
 refine Oj λi=>?_;rw[MF]
 cases e:ys[i]? with
 |none=>
  have:l[i]?=P7:=Nd (by have:=NV.mp e;lia);rw[this];rfl
 |some y=>
  obtain⟨a,e1,rfl⟩:=h i y e;rw[e1];rfl
theorem t5{α:Type}{l:List α}{f g:α->D}{r:Ow}{fe:D->Option (Option KD)}(h:∀a∈l,Wp (fe (f a)) λo=>∃kd,o=P6 (kd,g a)/\bB r (kd,g a)=P8):Wp (aM r fe (l.map f)) λys=>ys=l.map g:=by
 refine KA (λj y=>∃a,l[j]?=P6 a/\y=g a) (λj d hd=>?_) λys hy hp=>ER (by rw[hy,MB]) hp;rw[MF] at hd
 cases e:l[j]? with
 |none=>rw[e] at hd;cases hd
 |some a=>
  rw[e] at hd;cases hd;exact(h a (Nf e)).mono λo ⟨kd,e1,e2⟩=>⟨_,e1,e2,a,rfl,rfl⟩
theorem t6(n:Nat):gN 0 n=(Np n).map iD:=by
 unfold gN;rw[PD,Nx];exact Ox λk _=>by rw[Int.zero_add]
theorem ES{fe:Ro->Option KD}{Q:Option KD->Prop}(hn:bI [(1,d)] Z0=P8)(h:Wp (fe (setAll [(1,d)] Z0)) λx=>Q (P6 x)):Wp (dH (.nm 1) (cw U .non) fe Z0 d) Q:=BU (ps:=[(1,d)]) rfl hn rfl h
theorem Lq{a b:D}{fe:Ro->Option KD}{Z0:Ro}{Q:Option KD->Prop}(hn:bI [(1,a),(2,b)] Z0=P8)(h:Wp (fe (setAll [(1,a),(2,b)] Z0)) λx=>Q (P6 x)):Wp (dH (.tp [.nm 1,.nm 2]) (cw U .non) fe Z0 (.tup [a,b])) Q:=BU (ps:=[(1,a),(2,b)]) rfl hn rfl h
end
section
variable {U:Nat->Option Fn} {Z:Ro} {a b:IE} {r:IEs} {T:Bool->Prop}
end
noncomputable abbrev fS(d:D):Option Sl:=P6 ⟨Qb,.fz,d⟩
theorem pR{α:Type}{B:Option α}{r:α}(h:Wp B λx=>x=r):B=P6 r:=by obtain⟨x,e,rfl⟩:=h;exact e
theorem wv{α:Type}{a:Option α}{r:α}{Q:α->Prop}(h:a=P6 r)(q:Q r):Wp a Q:=⟨r,h,q⟩
section
variable {U:Nat->Option Fn} {Z:Ro} {a b c:IE} {r:IEs} {k k' k'':Kd} {i j l:Int} {x y z:Bool} {d d':D} {xs:List D} {hd:Hd}
theorem cF(ha:aa U a Z=P6 (.sh,.int i))(hb:aa U b Z=P6 (.sh,.int j)):aa U (.bin .Add a b) Z=P6 (.sh,.int (i+j)):=az (bP (wv ha (wv hb (rf rfl))))
theorem bJ(ha:aa U a Z=P6 (.sh,.int i))(hb:aa U b Z=P6 (.sh,.int j)):aa U (.bin .Sub a b) Z=P6 (.sh,.int (i-j)):=az (bP (wv ha (wv hb (xQ rfl))))
theorem dY(h:0<j)(ha:aa U a Z=P6 (.sh,.int i))(hb:aa U b Z=P6 (.sh,.int j)):aa U (.bin .Mod a b) Z=P6 (.sh,.int (i%j)):=az (bP (wv ha (wv hb (Ey h rfl))))
theorem t7{xs ys:List D}(h:i3 k xs=P8/\i3 k' ys=P8/\xs.length+ys.length<=100000)(ha:aa U a Z=P6 (k,.lst xs))(hb:aa U b Z=P6 (k',.lst ys)):aa U (.bin .Add a b) Z=P6 (.fr bj,.lst (xs++ys)):=az (bP (wv ha (wv hb (EB h rfl))))
theorem BX{z:Int}{n:Nat}(hh:hd=.lst\/hd=.tup)(hz:jv xs.length z=P6 n)(hx:xs[n]?=P6 d):sr (P6 (k,.nd hd xs)) (P6 (k',.int z))=P6 (ou k n,d):=by
 rcases hh with rfl|rfl
 ·exact az (EE hz hx rfl)
 ·exact az (EF hz hx rfl)
theorem BY{m n:Nat}{z:Int}(hz:z=n)(h:n<m):jv m z=P6 n:=by subst hz;rw[tO (by lia) (by lia)];rfl
theorem eC{n:Nat}{z:Int}(ha:aa U a Z=P6 (k,.nd hd xs))(hb:aa U b Z=P6 (.sh,.int z))(hh:hd=.lst\/hd=.tup)(hz:z=n)(hx:xs[n]?=P6 d):aa U (.ix a b) Z=P6 (ou k n,d):=by
 rw[mK,ha,hb];exact BX hh (BY hz (MJ.mp hx).1) hx
theorem fv(n:Nat)(ha:aa U a Z=P6 (.sh,.tup xs):=by rfl)(hx:xs[n]?=P6 d:=by rfl):aa U (.ix a (.lit (.int (n:Int)))) Z=P6 (.sh,d):=eC (k:=.sh) ha rfl (.inr rfl) rfl hx
theorem hUq{n:Nat}(ha:aa U a Z=P6 (k,d))(h:zC d=P6 n):aa U (.blt "len" (.cons a .nil)) Z=P6 (.sh,.int n):=az (m6 (br (wv ha (aY (EG h rfl)))))
theorem e1{p:KD}(ha:aa U a Z=P6 p):aJ U (.cons a .nil) Z=P6 [p]:=pR (br (wv ha (aY rfl)))
theorem e2(ha:aa U a Z=P6 p)(hb:aa U b Z=P6 q):aJ U (.cons a (.cons b .nil)) Z=P6 [p,q]:=pR (br (wv ha (br (wv hb (aY rfl)))))
theorem e3(ha:aa U a Z=P6 p)(hb:aa U b Z=P6 q)(hc:aa U c Z=P6 u):aJ U (.cons a (.cons b (.cons c .nil))) Z=P6 [p,q,u]:=pR (br (wv ha (br (wv hb (br (wv hc (aY rfl)))))))
theorem e4(ha:aa U a Z=P6 p)(hb:aa U b Z=P6 q)(hc:aa U c Z=P6 u)(he:aa U e Z=P6 t):aJ U (.cons a (.cons b (.cons c (.cons e .nil)))) Z=P6 [p,q,u,t]:=pR (br (wv ha (br (wv hb (br (wv hc (br (wv he (aY rfl)))))))))
theorem cm{n:Nat}{B:Fn}{kds:List KD}{p:KD}(hU:U n=P6 B)(he:aJ U es Z=P6 kds)(hk:(kds.all λp=>i0 p.1 p.2)=P8)(hd:kds.map (·.2)=ds)(hB:B ds=P6 p)(hb:aX p.1=Qb):aa U (.fn n es) Z=P6 p:=
 az (xM hU (wv he (pe ⟨p,by rw[hd];exact hB,hb,.inl hk,rfl⟩)))
theorem t8{n:Nat}{B:Fn}{kds:List KD}{p:KD}(hU:U n=P6 B)(he:aJ U es Z=P6 kds)(hk:j9 p.1 p.2=P8)(hd:kds.map (·.2)=ds)(hB:B ds=P6 p)(hb:aX p.1=Qb):aa U (.fn n es) Z=P6 p:=
 az (xM hU (wv he (pe ⟨p,by rw[hd];exact hB,hb,.inr hk,rfl⟩)))
/- tests -/
theorem fK(ha:aa U a Z=P6 (k,d))(hb:aa U b Z=P6 (k',d'))(h:aT op d d'=P6 x):aC U (.cmp op a b) Z=P6 x:=pR (xN (wv ha (wv hb (wv h rfl))))
theorem jf(ha:aa U a Z=P6 (.sh,d))(hb:aa U b Z=P6 (.sh,d'))(h:aT op d d'=P6 x):aC U (.cmp op a b) Z=P6 x:=fK ha hb h
theorem bT(ha:aa U a Z=P6 (.sh,d):=by rfl)(hb:aa U b Z=P6 (.sh,d'):=by rfl)(h:aT op d d'=P6 x:=by decide +kernel):aC U (.cmp op a b) Z=P6 x:=fK ha hb h
theorem u9(ha:aa U a Z=P6 (.sh,.int i))(hb:aa U b Z=P6 (.sh,.int j)):aC U (.cmp .Lt a b) Z=P6 (decide (i<j)):=fK ha hb rfl
theorem va(ha:aa U a Z=P6 (.sh,.int i))(hb:aa U b Z=P6 (.sh,.int j)):aC U (.cmp .Gt a b) Z=P6 (decide (j<i)):=fK ha hb rfl
theorem kM(ha:aa U a Z=P6 (.sh,.int i))(hb:aa U b Z=P6 (.sh,.int j)):aC U (.cmp .Eq a b) Z=P6 (decide (i=j)):=fK ha hb (pR (tN rfl))
theorem ET(ha:aa U a Z=P6 (.sh,.int i))(hb:aa U b Z=P6 (.sh,.int j)):aC U (.cmp .NotEq a b) Z=P6 (!decide (i=j)):=fK ha hb (pR (BQ rfl))
theorem lG(h:aC U a Z=P6 x):aC U (.not a) Z=P6 (!x):=by rw[wX,h];rfl
theorem jg(h:aC U a Z=P6 x):aC U (.bool op (.cons a .nil)) Z=P6 x:=pR (o9 (wv h rfl))
theorem vb(h:aC U a Z=P6 x)(h2:x=Qb->aC U (.bool .Or (.cons b r)) Z=P6 y):aC U (.bool .Or (.cons a (.cons b r))) Z=P6 (x||y):=by
 refine pR (kI (wv h ?_));cases x
 ·exact⟨λ_=>wv (h2 rfl) rfl,λh=>absurd rfl h⟩
 ·exact⟨λh=>absurd h (by decide),λ_=>rfl⟩
theorem pF(h:aC U a Z=P6 x)(h2:x=P8->aC U (.bool .And (.cons b r)) Z=P6 y):aC U (.bool .And (.cons a (.cons b r))) Z=P6 (x&&y):=by
 refine pR (kI (wv h ?_));cases x
 ·exact⟨λh=>absurd h (by decide),λ_=>rfl⟩
 ·exact⟨λ_=>wv (h2 rfl) rfl,λh=>absurd rfl h⟩
theorem Ik{n:Nat}(h:aa U (.fn n es) Z=P6 (k,.bl x)):aC U (.fn n es) Z=P6 x:=by rw[zW,<- wV,h];rfl
theorem pG{T:Str}(ha:aa U a Z=P6 (k,d))(h:oF T d=P6 x):aC U (.isi T a) Z=P6 x:=by
 rw[wZ,<- sB,show aa U (.isi T a) Z=P6 (.sh,.bl x) from az (q9 (wv ha (wv h rfl)))];rfl
theorem Il{n:Nat}{s:Sl}(h:Z[n]?=P6 (P6 s))(ht:qm s.d=P6 x):aC U (.var n) Z=P6 x:=by
 rw[wY,h];show dQ (P6 (og n s))=_;unfold dQ;obtain⟨bo,ks,ds⟩:=s
 cases bo<;>(unfold og;first|exact ht|(split<;>exact ht))
theorem Im(h:aa U (.ix a b) Z=P6 (k,d))(ht:qm d=P6 x):aC U (.ix a b) Z=P6 x:=by rw[zV,<- mK,h];exact ht
/- truths as values -/
theorem hV(h:aC U (.cmp op a b) Z=P6 x):aa U (.cmp op a b) Z=P6 (.sh,.bl x):=by rw[zR,<- oK,h];rfl
theorem BZ{T:Str}(ha:aa U a Z=P6 (k,d))(h:oF T d=P6 x):aa U (.isi T a) Z=P6 (.sh,.bl x):=az (q9 (wv ha (wv h rfl)))
theorem Io(h:aa U a Z=P6 (k,d))(ht:qm d=P6 x):aa U (.not a) Z=P6 (.sh,.bl (!x)):=az (xK (wv h (wv ht rfl)))
theorem yd(h:aa U a Z=P6 p):aa U (.bool op (.cons a .nil)) Z=P6 p:=az (o6 (wv h rfl))
theorem t9(h:aa U a Z=P6 (k,.bl x))(h2:x=P8->aa U (.bool .And (.cons b r)) Z=P6 (.sh,.bl y)):aa U (.bool .And (.cons a (.cons b r))) Z=P6 (.sh,.bl (x&&y)):=by
 refine az (o8 (wv h ⟨x,rfl,?_⟩));cases x
 ·exact⟨λh=>absurd h (by decide),λ_=>rfl⟩
 ·exact⟨λ_=>wv (h2 rfl) rfl,λh=>absurd rfl h⟩
theorem ua(h:aC U t Z=P6 x)(h1:x=P8->aa U a Z=P6 p)(h2:x=Qb->aa U b Z=P6 p):aa U (.ifx t a b) Z=P6 p:=az (xL (wv h ⟨λe=>wv (h1 e) rfl,λe=>wv (h2 e) rfl⟩))
/- comprehensions -/
theorem LY{α:Type}{l:List α}{f g:α->D}{hd:Hd}{r:Ow}{cap:List (Option Nat)}{tg:IT}{a elt:IE}(hh:hd=.lst\/hd=.tup)(ha:aa U a Z=P6 (k,.nd hd (l.map f)))(ho:i3 k (l.map f)=P8)(hl:l.length<=100000)
  (h:∀a∈l,Wp (dH tg (cw U .non) (aa U elt) (a9 Z cap) (f a)) λo=>∃kd,o=P6 (kd,g a)/\bB r (kd,g a)=P8):aa U (.comp r cap tg (.e a) .non elt) Z=P6 (.fr (.own [] r),.lst (l.map g)):=by
 refine az (hG (xO (wv ha ?_)));rcases hh with rfl|rfl
 ·exact m9 ho ⟨by simpa using hl,(t5 h).mono λys e=>by rw[e]⟩
 ·exact EJ ho ⟨by simpa using hl,(t5 h).mono λys e=>by rw[e]⟩
theorem Lr{n:Nat}{g:Nat->D}{r:Ow}{cap:List (Option Nat)}{tg:IT}{a elt:IE}(ha:aa U a Z=P6 (k,iD n))(hn:n<=100000)
  (h:∀i,i<n->Wp (dH tg (cw U .non) (aa U elt) (a9 Z cap) (iD i)) λo=>∃kd,o=P6 (kd,g i)/\bB r (kd,g i)=P8):aa U (.comp r cap tg (.rng (nL 0) a) .non elt) Z=P6 (.fr (.own [] r),.lst ((Np n).map g)):=by
 refine az (hG (rc (bi (wv ha (m8 (ge (by lia) (by lia) (by lia) (by lia) (by lia)) ⟨?_,?_⟩)))))
 ·show(gN 0 (n:Int)).length<=_;rw[t6,MB,N6];exact hn
 ·show Wp (aM r _ (gN 0 (n:Int))) _;rw[t6];exact(t5 λi hi=>h i (Oy.mp hi)).mono λys e=>by rw[e]
/- all,any,sum,min over a comprehension -/
theorem B5{bs:List Bool}(h:aa U a Z=P6 (k,.lst (bs.map D.bl))):aa U (.blt "all" (.cons a .nil)) Z=P6 (.sh,.bl (bs.all id)):=az (m6 (br (wv h (aY (EH rfl)))))
end
section
variable {U:GG} {N:Nat} {pn:List Nat} {Z:Ro} {Q:Res->Prop} {rest:bC}
theorem gf{z:Bool}(h:aC U.fn t Z=P6 z)(h1:z=P8->Wp (aP U N a pn Z) (Kt U N rest pn Q))(h2:z=Qb->Wp (aP U N b pn Z) (Kt U N rest pn Q)):Wp (aP U N (.cons (.ifs (.p t) a b) rest) pn Z) Q:=
 BS (xV (wv h ⟨h1,h2⟩))
theorem bc{i:Nat}{x:KD}(h:aa U.fn e Z=P6 x)(hb:aX (cP x.1 x.2)=Qb)(hn:i∉pn)(w:Wp (aP U N rest pn (Z.set i (P6 ⟨Qb,FK (cP x.1 x.2),x.2⟩))) Q):Wp (aP U N (.cons (.asg i (.p e)) rest) pn Z) Q:=
 cD (bt (wv h ⟨⟨hb,hn⟩,w⟩))
theorem bK{x:KD}(h:aa U.fn e Z=P6 x)(hb:aX (cP x.1 x.2)=Qb)(q:Q (.rt (cP x.1 x.2) x.2 Z)):Wp (aP U N (.cons (.ret (.p e)) rest) pn Z) Q:=dF (bt (wv h ⟨hb,q⟩))
end
theorem dZ{N m k:Nat}{ds:List D}(hl:ds.length=m)(h:Wp (aP U N body [] (kG k (ds.map AC))) λr=>Wp (fC (P6 r)) λx=>x=p):cj U N m k body ds=P6 p:=az (xZ hl h)
theorem bG(hb:aX kd=Qb)(q:(kd,d)=p):Wp (fC (P6 (.rt kd d Z))) λx=>x=p:=hJ hb q
section
variable {U:GG} {N:Nat} {pn:List Nat} {Z:Ro} {Q:Res->Prop} {rest:bC}
theorem ae(h:aC U.fn t Z=P6 Qb)(w:Wp (aP U N rest pn Z) Q):Wp (aP U N (.cons (.ifs (.p t) a .nil) rest) pn Z) Q:=gf h (λe=>by cases e) λ_=>dX w
theorem bE{x:KD}(h:aC U.fn t Z=P6 P8)(h1:aa U.fn e Z=P6 x)(hb:aX (cP x.1 x.2)=Qb)(q:Q (.rt (cP x.1 x.2) x.2 Z)):Wp (aP U N (.cons (.ifs (.p t) (.cons (.ret (.p e)) .nil) b) rest) pn Z) Q:=gf h (λ_=>bK h1 hb (dW q)) λe=>by cases e
theorem yf{i j:Nat}(h:aa U.fn e Z=P6 (.sh,.tup [a,b]))(hp:(!pn.contains i&&!pn.contains j)=P8)(w:Wp (aP U N rest pn ((Z.set i (fS a)).set j (fS b))) Q):Wp (aP U N (.cons (.unp [i,j] (.p e)) rest) pn Z) Q:=
 rh (bt (wv h ⟨_,_,_,rfl,rfl,⟨rfl,by simpa using hp⟩,w⟩))
end
section
variable {U:Nat->Option Fn} {Z:Ro} {a b c:IE} {k k' k'':Kd} {i j l:Int} {m n:Nat} {d d':D}
theorem dL(ha:aa U a Z=P6 (.sh,d))(hb:aa U b Z=P6 (.sh,d')):aa U (.tup .fz (.cons a (.cons b .nil))) Z=P6 (.sh,.tup [d,d']):=by
 rw[mJ,e2 ha hb];rfl
theorem Ca(ha:aa U a Z=P6 (.sh,iD m))(hb:aa U b Z=P6 (.sh,iD n)):aa U (.bin .BitAnd a b) Z=P6 (.sh,iD (m &&& n)):=az (bP (wv ha (wv hb (EQ rfl))))
theorem EU(a b:Nat):Builtin.bitOr (a:Int) b=((a ||| b:Nat):Int):=by
 have:=PyProof.Rows.nat_or_add_and a b;rw[PyProof.Rows.bitOr_and,no];lia
theorem AT:∀a b:Nat,a+b=(a ^^^ b)+2*(a &&& b):=by
 intro a
 induction a using Nat.strongRecOn with
 |ind a ih=>
  intro b;by_cases h0:a=0
  ·subst h0;simp
  have:=ih (a / 2) (by lia) (b / 2);rw[<- Nat.xor_div_two,<- Nat.and_div_two] at this;have h1:(a &&& b)%2=1↔a%2=1/\b%2=1:=Nat.and_mod_two_eq_one;have h2:(a ^^^ b)%2=1↔¬(a%2=1↔b%2=1):=Nat.xor_mod_two_eq_one
  lia
theorem AU(a b:Nat):Builtin.bitXor (a:Int) b=((a ^^^ b:Nat):Int):=by
 rw[PyProof.Rows.bitXor_and,no];have:=AT a b
 lia
theorem Ip(ha:aa U a Z=P6 (.sh,iD m))(hb:aa U b Z=P6 (.sh,iD n)):aa U (.bin .BitOr a b) Z=P6 (.sh,iD (m ||| n)):=az (bP (wv ha (wv hb ⟨_,rfl,by rw[EU]⟩)))
theorem Cb(ha:aa U a Z=P6 (.sh,iD m))(hb:aa U b Z=P6 (.sh,iD n)):aa U (.bin .BitXor a b) Z=P6 (.sh,iD (m ^^^ n)):=az (bP (wv ha (wv hb ⟨_,rfl,by rw[AU]⟩)))
theorem EV(ha:aa U a Z=P6 (.sh,.int i))(hb:aa U b Z=P6 (.sh,.int j)):aa U (.bin .BitAnd a b) Z=P6 (.sh,.int (Builtin.bitAnd i j)):=az (bP (wv ha (wv hb ⟨_,rfl,rfl⟩)))
theorem kN{m:Nat}(h:m<2^64):(m:Int).natAbs<lim:=by
 rw[Int.natAbs_natCast];exact MG h (by decide +kernel)
theorem lS(hm:m<2^64)(hn:n<=1000)(ha:aa U a Z=P6 (.sh,iD m))(hb:aa U b Z=P6 (.sh,iD n)):aa U (.bin .LShift a b) Z=P6 (.sh,iD (m <<< n)):=by
 refine az (bP (wv ha (wv hb (Ez ⟨by lia,by lia,kN hm⟩ ?_))));rw[Nx,O0];congr 2
theorem Iq(ha:aa U a Z=P6 (.sh,iD m))(hb:aa U b Z=P6 (.sh,iD n)):aa U (.bin .RShift a b) Z=P6 (.sh,iD (m >>> n)):=by
 refine az (bP (wv ha (wv hb (EA (by lia) ?_))));rw[Nx,Nat.shiftRight_eq_div_pow];congr 2
theorem Ir{f cn:Str}{xs:List D}{j:Nat}(ha:aa U a Z=P6 (.sh,.nd (.obj cn ns) xs))(hf:aN f ns=P6 j)(hx:xs[j]?=P6 d):aa U (.fld f a) Z=P6 (.sh,d):=by
 rw[zT,ha]
 show(match aN f ns with|some j=>(xs[j]?).map λd=>(ou .sh j,d)|none=>P7)=_
 rw[hf];show(xs[j]?).map _=_;rw[hx];rfl
theorem ub{t:Nat}{ds:List D}{j:Nat}(ha:aa U a Z=P6 (k,.nd (.dic t ks) ds))(hb:aa U b Z=P6 (k',d'))(hq:j0 d'=P6 q)(hf:iy t q=P8)(hj:aI ks q=P6 j)(hd:ds[j]?=P6 d):aa U (.ix a b) Z=P6 (ou k j,d):=by
 rw[mK,ha,hb];show qr k (t,ks,ds) d'=_;unfold qr;rw[hq]
 show(if iy t q=P8 then(match aI ks q with|some j=>(ds[j]?).map λd=>(ou k j,d)|none=>P7) else P7)=_
 rw[if_pos hf,hj];show(ds[j]?).map _=_;rw[hd];rfl
end
theorem AV{w:Nat}(h:w<=64):ψ7 [iD w]=P6 (.sh,iD (2^w-1)):=by
 unfold ψ7;refine dZ rfl ?_;unfold b7;refine bK (x:=(.sh,iD (2^w-1))) ?_ rfl (bG rfl rfl);rw[bJ (lS (by decide) (by lia) rfl rfl) rfl];have:=Nj w;rw[No];congr 3
 lia
noncomputable def Al(P:Fo->Prop):Fo->Prop
 |.name x=>P (.name x)
 |.num w v=>P (.num w v)
 |.not a=>P (.not a)/\Al P a
 |.two o a b=>P (.two o a b)/\Al P a/\Al P b
 |.ite c a b=>P (.ite c a b)/\Al P c/\Al P a/\Al P b
 |.join a b=>P (.join a b)/\Al P a/\Al P b
 |.cmp l a b=>P (.cmp l a b)/\Al P a/\Al P b
 |.cut a lo w=>P (.cut a lo w)/\Al P a
theorem Al.at{P:Fo->Prop}:∀{f:Fo},Al P f->P f
 |.name _,h=>h
 |.num _ _,h=>h
 |.not _,h=>h.1
 |.two _ _ _,h=>h.1
 |.ite _ _ _,h=>h.1
 |.join _ _,h=>h.1
 |.cmp _ _ _,h=>h.1
 |.cut _ _ _,h=>h.1
noncomputable def Pc(L:Str->Nat)(X:Str->Prop)(f:Fo):Prop:=wid L f<=8/\∀x,f=.name x->X x
theorem EW{w:Nat}{a b:Nat}{s:Bool}:ψ8 [.str (if s then "less" else "same"),iD a,iD b]=P6 (.sh,iD (if s then bn (decide (a<b)) else bn (decide (a=b)))):=by
 unfold ψ8;refine dZ rfl ?_;unfold b8
 let z:Bool:=if s then decide (a<b) else decide (a=b)
 have hz:aa U_7.fn (.ifx (.cmp .Eq (.var 0) (sL "same")) (.cmp .Eq (.var 1) (.var 2)) (.cmp .Lt (.var 1) (.var 2))) [fS (.str (if s then "less" else "same")),fS (iD a),fS (iD b),P7]=P6 (.sh,.bl z):=by
  cases s with
  |true=>
   refine ua (x:=Qb) bT (λe=>by cases e) λ_=>?_;rw[hV (u9 rfl rfl)];show P6 (Kd.sh,D.bl _)=P6 (Kd.sh,D.bl (decide (a<b)));rw[decide_eq_decide.mpr Int.ofNat_lt]
  |false=>
   refine ua (x:=P8) bT (λ_=>?_) λe=>by cases e
   rw[hV (kM rfl rfl)];show P6 (Kd.sh,D.bl _)=P6 (Kd.sh,D.bl (decide (a=b)));rw[decide_eq_decide.mpr Int.ofNat_inj]
 refine bc hz rfl (by decide) ?_;refine bK (x:=(.sh,iD (bn z))) ?_ rfl (bG rfl ?_)
 ·refine ua (Il rfl rfl) (λe=>?_) λe=>?_<;>rw[e]<;>rfl
 ·show(Kd.sh,iD (bn (if s then decide (a<b) else decide (a=b))))=_
  cases s<;>rfl
noncomputable def LZ(o:AS)(a b:Nat):Int:=match o with
 |.and=>((a &&& b:Nat):Int)|.or=>((a ||| b:Nat):Int)|.xor=>((a ^^^ b:Nat):Int)|.plus=>(a:Int)+b|.minus=>(a:Int)-b
theorem EX{a b:Nat}:ψ9 [.str (EO o),iD a,iD b]=P6 (.sh,.int (LZ o a b)):=by
 unfold ψ9;refine dZ rfl ?_;unfold b9
 cases o with
 |and=>
  refine bE (x:=(.sh,iD (a &&& b))) bT ?_ rfl (bG rfl rfl);exact Ca rfl rfl
 |or=>
  refine ae bT ?_;refine bE (x:=(.sh,iD (a ||| b))) bT ?_ rfl (bG rfl rfl);exact Ip rfl rfl
 |xor=>
  refine ae bT ?_;refine ae bT ?_;refine bE (x:=(.sh,iD (a ^^^ b))) bT ?_ rfl (bG rfl rfl);exact Cb rfl rfl
 |plus=>
  refine ae bT ?_;refine ae bT ?_;refine ae bT ?_;refine bE (x:=(.sh,.int ((a:Int)+b))) bT ?_ rfl (bG rfl rfl);exact cF rfl rfl
 |minus=>
  refine ae bT ?_;refine ae bT ?_;refine ae bT ?_;refine ae bT ?_;refine bK (x:=(.sh,.int ((a:Int)-b))) ?_ rfl (bG rfl rfl);exact bJ rfl rfl
noncomputable def dr:bC->Nat->bC
 |r,0=>r
 |.cons _ r,n+1=>dr r n
 |.nil,_+1=>.nil
noncomputable def jq(w s:Str):Bool:=aT .Eq (.str w) (.str s)==P6 Qb
theorem bz{w s:Str}(h:jq w s=P8):aT .Eq (.str w) (.str s)=P6 Qb:=by simpa[jq] using h
theorem Iu{n:Nat}{w:Str}(h1:jq w "name" = P8)(h2:jq w "number" = P8)(h3:jq w "of" = P8)(h4:jq w "at" = P8)(h:Wp (aP (U_9.addI 6 (vl n)) 1000 (dr b6 5) [] [fS (.tup (.str w::xs)),fS sc,fS (.str w),P7,P7,P7,P7]) λr=>Wp (fC (P6 r)) λx=>x=p):vl (n+1) [.tup (.str w::xs),sc]=P6 p:=by
 show cj (U_9.addI 6 (vl n)) 1000 2 7 b6 [.tup (.str w::xs),sc]=_;refine dZ rfl ?_;unfold b6 at h⊢;refine bc (fv 0) rfl (by decide) ?_;refine ae (jf rfl rfl (bz h1)) ?_;refine ae (jf rfl rfl (bz h2)) ?_;refine ae (jf rfl rfl (bz h3)) ?_;refine ae (jf rfl rfl (bz h4)) ?_;exact h
theorem nq{n:Nat}{w:Str}{v l:Nat}(h1:jq w "name" = P8)(h2:jq w "number" = P8)(h3:jq w "of" = P8)(h4:jq w "at" = P8)(ha:vl n [a,sc]=P6 (.sh,pD v l))(h:Wp (aP (U_9.addI 6 (vl n)) 1000 (dr b6 6) [] [fS (.tup (.str w::a::xs)),fS sc,fS (.str w),fS (iD v),fS (iD l),P7,P7]) λr=>Wp (fC (P6 r)) λx=>x=p):vl (n+1) [.tup (.str w::a::xs),sc]=P6 p:=by
 refine Iu h1 h2 h3 h4 ?_;unfold b6 at h⊢;refine yf ?_ rfl h;exact cm rfl (e2 (fv 1) rfl) rfl rfl ha rfl
theorem rq{n:Nat}{w:Str}{v l v' l':Nat}(h1:jq w "name" = P8)(h2:jq w "number" = P8)(h3:jq w "of" = P8)(h4:jq w "at" = P8)(ha:vl n [a,sc]=P6 (.sh,pD v l))(hb:vl n [b,sc]=P6 (.sh,pD v' l'))(h5:jq w "not" = P8)(h6:jq w "cut" = P8)(h7:jq w "if" = P8)(h:Wp (aP (U_9.addI 6 (vl n)) 1000 (dr b6 10) [] [fS (.tup (.str w::a::b::xs)),fS sc,fS (.str w),fS (iD v),fS (iD l),fS (iD v'),fS (iD l')]) λr=>Wp (fC (P6 r)) λx=>x=p):vl (n+1) [.tup (.str w::a::b::xs),sc]=P6 p:=by
 refine nq h1 h2 h3 h4 ha ?_;unfold b6 at h⊢;refine ae (jf rfl rfl (bz h5)) ?_;refine ae (jf rfl rfl (bz h6)) ?_;refine ae (jf rfl rfl (bz h7)) ?_;refine yf ?_ rfl h;exact cm rfl (e2 (fv 2) rfl) rfl rfl hb rfl
noncomputable def Sc(L E:Str->Nat)(sc:D)(x:Str):Prop:=∃ks ds r o j,sc=.nd (.obj "Scene" ["names","rooms","outs"]) [.nd (.dic 0 ks) ds,r,o]/\aI ks (.inl (.inr x))=P6 j/\ds[j]?=P6 (pD (E x) (L x))
section
variable {L E:Str->Nat} {sc:D} {n:Nat}
theorem AW{x:Str}(h:Sc L E sc x):vl (n+1) [dt (.name x),sc]=P6 (.sh,pD (E x) (L x)):=by
 obtain⟨ks,ds,r,o,j,rfl,hj,hd⟩:=h;show cj (U_9.addI 6 (vl n)) 1000 2 7 b6 [.tup [.str "name",.str x],_]=_;refine dZ rfl ?_;unfold b6;refine bc (fv 0) rfl (by decide) ?_;refine bE (x:=(.sh,pD (E x) (L x))) (bT) ?_ rfl (bG rfl rfl);exact ub (Ir (j:=0) rfl (by decide +kernel) rfl) (fv 1) rfl rfl hj hd
theorem EY{w v:Nat}:vl (n+1) [dt (.num w v),sc]=P6 (.sh,pD v w):=by
 show cj (U_9.addI 6 (vl n)) 1000 2 7 b6 [.tup [.str "number",iD w,iD v],_]=_;refine dZ rfl ?_;unfold b6;refine bc (fv 0) rfl (by decide) ?_;refine ae (bT) ?_;refine bE (x:=(.sh,pD v w)) (bT) ?_ rfl (bG rfl rfl);exact dL (fv 2) (fv 1)
theorem rz{U:Nat->Option Fn}{w:Nat}(hU:U 7=P6 ψ7)(h:w<=64)(ha:aa U a Z=P6 (.sh,iD w)):aa U (.fn 7 (.cons a .nil)) Z=P6 (.sh,iD (2^w-1)):=cm hU (e1 ha) rfl rfl (AV h) rfl
theorem AX(o:AS){a b w:Nat}(ha:a<2^w)(hb:b<2^w):Builtin.bitAnd (LZ o a b) ((2^w-1:Nat):Int)=((match o with|.and=>a &&& b|.or=>a ||| b|.xor=>a ^^^ b|.plus=>(a+b)%2^w|.minus=>(a+2^w-b)%2^w:Nat):Int):=by
 cases o with
 |and=>exact(fc _ w).trans (by rw[NN (OE _ hb)])
 |or=>exact(fc _ w).trans (by rw[NN (OS ha hb)])
 |xor=>exact(fc _ w).trans (by rw[NN (OD ha hb)])
 |plus=>exact(show Builtin.bitAnd ((a:Int)+b) _=_ by rw[<- N3];exact fc _ w)
 |minus=>exact yc ha hb
theorem EZ(o:AS):(["name","number","of","at","not","cut","if","join"]:List Str).all (jq (EO o))=P8:=by cases o<;>decide +kernel
theorem E1(o:AS):aT .In (.str (EO o)) (.tup [.str "same",.str "less"])=P6 Qb:=by cases o<;>decide +kernel
end
theorem Ls{v w:Nat}(h:w<=8)(hv:v<2^w):v<2^64:=MG hv (NJ (by decide) (by lia))
theorem eG{L E:Str->Nat}(hE:∀x,E x<2^L x):∀(f:Fo) (n:Nat),Wf L f->Al (Pc L (Sc L E sc)) f->dep f<n->vl n [dt f,sc]=P6 (.sh,pD (val L E f) (wid L f))
 |f,0,_,_,h=>absurd h (Ou _)
 |.name x,n+1,_,hp,_=>AW (hp.2 x rfl)
 |.num w v,n+1,_,_,_=>EY
 |.not a,n+1,hw,⟨hp,ha⟩,hd=>by
  have i:=eG hE a n hw ha (by simp only[dep] at hd;lia);refine nq (by decide +kernel) (by decide +kernel) (by decide +kernel) (by decide +kernel) i ?_;unfold b6;refine bE (x:=(.sh,pD (val L E a ^^^ (2^wid L a-1)) (wid L a))) (bT) ?_ rfl (bG rfl rfl);exact dL (Cb rfl (rz rfl (by have:=ha.at.1;lia) rfl)) rfl
 |.cut a lo w,n+1,⟨hw,hl⟩,⟨hp,ha⟩,hd=>by
  have i:=eG hE a n hw ha (by simp only[dep] at hd;lia);refine nq (by decide +kernel) (by decide +kernel) (by decide +kernel) (by decide +kernel) i ?_;unfold b6;refine ae (bT) ?_;refine bE (x:=(.sh,pD ((val L E a >>> lo) &&& (2^w-1)) w)) (bT) ?_ rfl (bG rfl rfl);refine dL (Ca (Iq rfl (fv 2)) (rz rfl ?_ (fv 3))) (fv 3);have:=ha.at.1
  lia
 |.ite c a b,n+1,⟨hc,ha,hb,h1,hw⟩,⟨hp,pc,pa,pb⟩,hd=>by
  simp only[dep] at hd;have i:=eG hE c n hc pc (by lia);have ia:=eG hE a n ha pa (by lia);have ib:=eG hE b n hb pb (by lia);refine nq (by decide +kernel) (by decide +kernel) (by decide +kernel) (by decide +kernel) i ?_;unfold b6;refine ae (bT) ?_;refine ae (bT) ?_;refine bE (x:=(.sh,pD (val L E (.ite c a b)) (wid L a))) (bT) ?_ rfl (bG rfl rfl)
  have hx:aa (U_9.addI 6 (vl n)).fn (.ifx (.cmp .Eq (.var 3) (nL 1)) (.ix (.var 0) (nL 2)) (.ix (.var 0) (nL 3))) [fS (dt (.ite c a b)),fS sc,fS (.str "if"),fS (iD (val L E c)),fS (iD (wid L c)),P7,P7]=P6 (.sh,if val L E c=1 then dt a else dt b):=by
   refine ua (kM rfl rfl) (λe=>?_) λe=>?_
   ·have e:val L E c=1:=by have:=of_decide_eq_true e;lia
    rw[if_pos e];exact fv 2
   ·have e:¬val L E c=1:=by have:=of_decide_eq_false e;lia
    rw[if_neg e];exact fv 3
  refine cm (ds:=[if val L E c=1 then dt a else dt b,sc]) rfl (e2 hx rfl) rfl rfl ?_ rfl
  by_cases e:val L E c=1
  ·rw[if_pos e,ia];simp only[val,if_pos e]
  ·rw[if_neg e,ib];simp only[val,if_neg e,hw]
 |.join a b,n+1,⟨ha,hb⟩,⟨hp,pa,pb⟩,hd=>by
  simp only[dep] at hd;have ia:=eG hE a n ha pa (by lia);have ib:=eG hE b n hb pb (by lia);refine rq (by decide +kernel) (by decide +kernel) (by decide +kernel) (by decide +kernel) ia ib (by decide +kernel) (by decide +kernel) (by decide +kernel) ?_;unfold b6;refine bE (x:=(.sh,pD (val L E a ||| val L E b <<< wid L a) (wid L a+wid L b))) (bT) ?_ rfl (bG rfl rfl);refine dL (Ip rfl (lS (Ls pb.at.1 (aD L E hE b hb).2) (by have:=pa.at.1;lia) rfl rfl)) ?_;rw[cF rfl rfl,<- N3]
 |.cmp s a b,n+1,⟨ha,hb,hw⟩,⟨hp,pa,pb⟩,hd=>by
  simp only[dep] at hd;have ia:=eG hE a n ha pa (by lia);have ib:=eG hE b n hb pb (by lia)
  have hs:((["name","number","of","at","not","cut","if","join"]:List Str).all (jq (if s then "less" else "same")))=P8:=by cases s<;>decide +kernel
  simp only[Nu,PJ,MA] at hs;obtain⟨q1,q2,q3,q4,q5,q6,q7,q8,_⟩:=hs;refine rq q1 q2 q3 q4 ia ib q5 q6 q7 ?_;unfold b6;refine ae (jf rfl rfl (bz q8)) ?_
  refine bE (x:=(.sh,pD (val L E (.cmp s a b)) 1)) (jf rfl rfl (by cases s<;>decide +kernel)) ?_ rfl (bG rfl rfl)
  exact dL (cm rfl (e3 rfl rfl rfl) rfl rfl (EW (w:=0)) rfl) rfl
 |.two o a b,n+1,⟨ha,hb,hw⟩,⟨hp,pa,pb⟩,hd=>by
  simp only[dep] at hd;have ia:=eG hE a n ha pa (by lia);have ib:=eG hE b n hb pb (by lia);have hs:=EZ o;simp only[Nu,PJ,MA] at hs;obtain⟨q1,q2,q3,q4,q5,q6,q7,q8,_⟩:=hs;refine rq q1 q2 q3 q4 ia ib q5 q6 q7 ?_;unfold b6;refine ae (jf rfl rfl (bz q8)) ?_;refine ae (jf rfl rfl (E1 o)) ?_;refine bK (x:=(.sh,pD (val L E (.two o a b)) (wid L a))) ?_ rfl (bG rfl rfl);refine dL ?_ rfl;have l:=(aD L E hE a ha).2;have l':=(aD L E hE b hb).2;rw[<- hw] at l';rw[EV (cm rfl (e3 rfl rfl rfl) rfl rfl EX rfl) (rz rfl (by have:=pa.at.1;lia) rfl),AX o l l'];rfl
theorem Cc{fe:D->Option (Option KD)}:∀{ds:List D},(∀d∈ds,∃kd,fe d=P6 (if t d=P8 then P6 (kd,d) else P7)/\bB r (kd,d)=P8)->aM r fe ds=P6 (ds.filter t)
 |[],_=>rfl
 |d::ds,h=>by
  obtain⟨kd,e,hf⟩:=h d M1;rw[aM,e,Cc λx hx=>h x (MS _ hx)];by_cases ht:t d=P8
  ·rw[if_pos ht]
   show(if bB r (kd,d)=P8 then P6 (d::ds.filter t) else P7)=_
   rw[if_pos hf,O4 ht]
  ·rw[if_neg ht,O5 ht]
section
variable {U:Nat->Option Fn} {Z:Ro}
theorem Cd{z:Bool}(hn:bI [(1,d)] Z0=P8)(ht:aC U t (setAll [(1,d)] Z0)=P6 z)(he:aa U e (setAll [(1,d)] Z0)=P6 (kd,d)):dH (.nm 1) (cw U (.som t)) (aa U e) Z0 d=P6 (if z=P8 then P6 (kd,d) else P7):=by
 show(if bI [(1,d)] Z0=P8 then(match aC U t (setAll [(1,d)] Z0) with|some P8=>(aa U e (setAll [(1,d)] Z0)).map P6|some Qb=>P6 P7|none=>P7) else P7)=_
 rw[if_pos hn,ht,he]
 cases z<;>rfl
theorem Iv{ds:List D}(ha:aa U a Z=P6 (.sh,.lst ds))(hl:ds.length<=100000)(h:∀d∈ds,∃kd,dH (.nm 1) (cw U (.som t)) (aa U e) (a9 Z cap) d=P6 (if tt d=P8 then P6 (kd,d) else P7)/\bB .fz (kd,d)=P8):aa U (.comp .fz cap (.nm 1) (.e a) (.som t) e) Z=P6 (.fr k0,.lst (ds.filter tt)):=
 az (hG (xO (wv ha (m9 rfl ⟨hl,wv (Cc h) rfl⟩))))
end
noncomputable def Rw(w:Str)(t:D->Bool)(d:D):Prop:=∃w' xs,d=.tup (.str w'::xs)/\aT .Eq (.str w') (.str w)=P6 (t d)
theorem AY{w:Str}{ds:List D}(hl:ds.length<=100000)(h:∀d∈ds,Rw w t d):ψ0 [.lst ds,.str w]=P6 (.fr k0,.lst (ds.filter t)):=by
 unfold ψ0;refine dZ rfl ?_;unfold b0;refine bK (Iv rfl hl λd hd=>?_) rfl (bG rfl rfl);obtain⟨w',xs,rfl,e⟩:=h d hd;exact⟨.sh,Cd rfl (jf (fv 0) rfl e) rfl,rfl⟩
theorem yg{ds:List D}(hl:ds.length<=100000)(h:∀d∈ds,∃w' xs,d=.tup (.str w'::xs)/\aT .In (.str w') (.tup [.str "memory",.str "rooms",.str "use"])=P6 Qb):ψ2 [.lst ds]=P6 (.fr k0,.lst []):=by
 unfold ψ2;refine dZ rfl ?_;unfold b2;refine bK (x:=(.fr k0,.lst (ds.filter λ_=>Qb))) (Iv rfl hl λd hd=>?_) rfl (bG rfl ?_)
 ·obtain⟨w',xs,rfl,e⟩:=h d hd;exact⟨.sh,Cd rfl (jf (fv 0) rfl e) rfl,rfl⟩
 ·rw[Pg.mpr (λ_ _ h=>by cases h)];rfl
section
variable {U:GG} {N:Nat} {pn fg:List Nat} {Z:Ro} {Q:Res->Prop} {rest b:bC} {tg:IT} {it:II} {ds:List D}
theorem kO(h:bR U.fn it Z=P6 ([],ds))(I:Nat->Ro->Prop)(h0:I 0 Z)(hs:∀(i:Nat) d Z,ds[i]?=P6 d->I i Z->∃ps,pQ tg d=P6 ps/\(ps.all λq=>!pn.contains q.1)=P8/\Wp (aP U N b pn (setAll ps (clrN fg Z))) λr=>∃Z',(r=.nx Z'\/r=.ct Z')/\I (i+1) Z')(hq:∀Z',I ds.length Z'->Wp (aP U N rest pn (clrN fg Z')) Q):Wp (aP U N (.cons (.fo fg tg (.p it) b) rest) pn Z) Q:=by
 refine xX (tS (wv h ⟨I,h0,λi d Z e hi=>?_,hq⟩));rw[NQ];exact hs i d Z e hi
theorem nr(h:bR U.fn it Z=P6 ([],[]))(hq:Wp (aP U N rest pn (clrN fg Z)) Q):Wp (aP U N (.cons (.fo fg tg (.p it) b) rest) pn Z) Q:=
 kO h (λ_ Z'=>Z'=Z) rfl (λi d Z e=>by cases e) λZ' e=>by rw[e];exact hq
end
section
variable {U:Nat->Option Fn} {Z:Ro} {a b:IE} {k k':Kd} {xs ys:List D}
theorem ff(ha:aa U a Z=P6 (k,.lst xs))(h:i3 k xs=P8):bR U (.e a) Z=P6 (k7 k,xs):=pR (xO (wv ha (m9 h rfl)))
theorem lT(ha:aa U a Z=P6 (k,.lst xs))(hb:aa U b Z=P6 (k',.lst ys))(h:i3 k xs=P8)(h':i3 k' ys=P8):bR U (.zp a b) Z=P6 (k7 k++k7 k',mF xs ys):=by
 refine pR (BO (wv ha (wv hb ?_)));refine⟨_,?_,rfl⟩;unfold qz;rw[show eE (P6 (k,.nd .lst xs))=P6 (k7 k,xs) from if_pos h,show eE (P6 (k',.nd .lst ys))=P6 (k7 k',ys) from if_pos h']
theorem nu{α:Type}{f g:α->D}{l:List α}:mF (l.map f) (l.map g)=l.map λa=>.tup [f a,g a]:=by
 unfold mF;rw[P3,List.zipWith_self]
end
noncomputable abbrev eD:=Str×Nat×Nat
noncomputable abbrev lU(p:eD):D:=.tup [.str "in",.str p.1,iD p.2.1]
noncomputable abbrev iU(o:Str)(f:Fo):D:=.tup [.str "out",.str o,dt f]
noncomputable abbrev kS:Ow:=.own [] (.own [] .fz)
theorem vc:Lj []=P6 (.fr kS,yM []):=by rfl
theorem vd{l:List eD}{x:Str}(h:x∉l.map (·.1)):aI (l.map λp=>(.inl (.inr p.1):DK)) (.inl (.inr x))=P7:=by
 unfold aI;rw[OV];intro k hk;obtain⟨p,hp,rfl⟩:=M2.mp hk;refine decide_eq_false λe=>h ?_;cases e;exact M2.mpr ⟨p,hp,rfl⟩
theorem lV:∀{l:List eD} {p:eD},p∈l->(l.map (·.1)).Nodup->∃j,aI (l.map λp=>(.inl (.inr p.1):DK)) (.inl (.inr p.1))=P6 j/\l[j]?=P6 p
 |q::l,p,h,hn=>by
  rw[MU,M3] at hn;unfold aI;rw[MU,Na];rcases ML.mp h with rfl|h
  ·exact⟨0,by simp,rfl⟩
  ·have hne:¬(.inl (.inr q.1):DK)=.inl (.inr p.1):=λe=>hn.1 (M2.mpr ⟨p,h,by injection e with e;injection e with e;exact e.symm⟩);obtain⟨j,e1,e2⟩:=lV h hn.2;unfold aI at e1;refine⟨j+1,?_,e2⟩;rw[if_neg (by simpa using hne),e1];rfl
theorem AZ{ks:List DK}{ds:List D}{x:Str}{d:D}(h:aI ks (.inl (.inr x))=P7)(hl:ds.length<100000):lc [] .fz (.dic 0 ks) ds (.str x) (.sh,d)=P6 (.dic 0 (ks++[.inl (.inr x)]),ds++[d]):=by
 show(if iy 0 (.inl (.inr x))=P8/\ds.length<100000 then(match aI ks (.inl (.inr x)) with
   |some j=>if bB (([]:List Ow).getD j .fz) (.sh,d)=P8/\ks.Nodup/\j<ds.length then P6 (Hd.dic 0 ks,ds.set j d) else P7
   |none=>if([]:List Ow).length<=ds.length/\bB .fz (.sh,d)=P8 then P6 (Hd.dic 0 (ks++[.inl (.inr x)]),ds++[d]) else P7) else P7)=_
 rw[if_pos ⟨rfl,hl⟩,h];exact if_pos ⟨M4 _,rfl⟩
theorem fw{α:Type}{l:List α}{i:Nat}{p:α}(h:l[i]?=P6 p):l.take (i+1)=l.take i++[p]:=by
 rw[NK,h];rfl
theorem E2(l:List eD)(p:eD):yM (l++[p])=.nd (.obj "Scene" ["names","rooms","outs"]) [.nd (.dic 0 ((l.map λp=>.inl (.inr p.1))++[.inl (.inr p.1)])) ((l.map λp=>.tup [iD p.2.2,iD p.2.1])++[.tup [iD p.2.2,iD p.2.1]]),.nd (.dic 0 []) [],.nd (.dic 0 []) []]:=by
 unfold yM;rw[M7,M7];rfl
theorem pH{l:List eD}(hn:(l.map (·.1)).Nodup){i:Nat}{p:eD}(h:l[i]?=P6 p):p.1∉(l.take i).map (·.1):=by
 have h1:((l.take (i+1)).map (·.1)).Nodup:=hn.sublist ((OO _ _).map _);rw[fw h,M7,PR] at h1;intro hm;exact h1.2.2 _ hm _ (Nt.mpr rfl) rfl
theorem yh{tr:List eD}(hn:(tr.map (·.1)).Nodup)(hl:tr.length<1000)(hi:ψ0 [.lst ds,.str "in"]=P6 (.fr k0,.lst (tr.map lU)))(hm:ψ0 [.lst ds,.str "memory"]=P6 (.fr k0,.lst []))(hr:ψ0 [.lst ds,.str "rooms"]=P6 (.fr k0,.lst [])):ψ4 [.lst ds,bf,.lst (tr.map λp=>iD p.2.2)]=P6 (.fr kS,yM tr):=by
 unfold ψ4;refine dZ rfl ?_;unfold b4;refine bc (cm rfl rfl rfl rfl vc rfl) rfl (by decide) ?_;refine kO (lT (cm rfl (e2 rfl rfl) rfl rfl hi rfl) rfl rfl rfl |>.trans (by rw[nu];rfl)) (λi Z=>∃s4 s5,Z=[fS (.lst ds),fS bf,fS (.lst (tr.map λp=>iD p.2.2)),P6 ⟨Qb,kS,yM (tr.take i)⟩,s4,s5]) ⟨P7,P7,rfl⟩ (λi d Z e hI=>?_) λZ' hI=>?_
 ·obtain⟨s4,s5,rfl⟩:=hI;rw[MF] at e
  cases hp:tr[i]? with
  |none=>rw[hp] at e;cases e
  |some p=>
  rw[hp] at e;cases e;refine⟨[(4,lU p),(5,iD p.2.2)],rfl,rfl,?_⟩;refine tU (bt (wv (dL rfl (fv 2)) (AI rfl (wv (fv 1) (nc rfl rfl rfl (ng (AZ (vd (pH hn hp)) ?_) ?_))))))
  ·rw[MB,M8];lia
  ·refine ca ⟨_,.inl rfl,fS (lU p),fS (iD p.2.2),?_⟩;rw[fw hp,E2];rfl
 ·obtain⟨s4,s5,rfl⟩:=hI;rw[MB,Nk];refine nr (ff (k:=.fr k0) (cm rfl (e2 rfl rfl) rfl rfl hm rfl) rfl) ?_;refine nr (ff (k:=.fr k0) (cm rfl (e2 rfl rfl) rfl rfl hr rfl) rfl) ?_;refine dF (pf rfl ⟨rfl,bG rfl rfl⟩)
noncomputable def tW(w:Str)(d:D):Bool:=match d with
 |.nd .tup (.str w'::_)=>aT .Eq (.str w') (.str w)==P6 P8
 |_=>Qb
noncomputable abbrev cb(t1 t2:List eD)(o:Str)(f:Fo):List D:=t1.map lU++iU o f::t2.map lU
theorem nw{o:Str}(h:d∈cb t1 t2 o f):(∃p,d=lU p)\/d=iU o f:=by
 rcases NR.mp h with h|h
 ·obtain⟨p,_,rfl⟩:=M2.mp h;exact .inl ⟨p,rfl⟩
 ·rcases ML.mp h with h|h
  ·exact .inr h
  ·obtain⟨p,_,rfl⟩:=M2.mp h;exact .inl ⟨p,rfl⟩
theorem uc{w:Str}{l:List eD}{b:Bool}(h:aT .Eq (.str "in") (.str w)=P6 b):(l.map lU).filter (tW w)=if b then l.map lU else []:=by
 have hp:∀p,tW w (lU p)=b:=λp=>by
  show(aT .Eq (.str "in") (.str w)==P6 P8)=b
  rw[h];cases b<;>rfl
 cases b with
 |true=>exact List.filter_eq_self.mpr λd hd=>by obtain⟨p,_,rfl⟩:=M2.mp hd;exact hp p
 |false=>exact Pg.mpr λd hd=>by obtain⟨p,_,rfl⟩:=M2.mp hd;rw[hp p];decide
section
variable {t1 t2:List eD} {o:Str} {f:Fo}
theorem rA{w:Str}{b c:Bool}(h:aT .Eq (.str "in") (.str w)=P6 b)(h':aT .Eq (.str "out") (.str w)=P6 c)(hl:(t1++t2).length<1000):ψ0 [.lst (cb t1 t2 o f),.str w]=P6 (.fr k0,.lst ((if b then t1.map lU else [])++((if c then [iU o f] else [])++if b then t2.map lU else []))):=by
 rw[AY (by rw[MX] at hl;simp;lia) λd hd=>?_]
 ·have ho:tW w (iU o f)=c:=by
   show(aT .Eq (.str "out") (.str w)==P6 P8)=c
   rw[h'];cases c<;>rfl
  rw[List.filter_append,uc h,List.filter_cons,ho,uc h]
  cases c<;>rfl
 ·rcases nw hd with⟨p,rfl⟩|rfl
  ·refine⟨"in",_,rfl,?_⟩;show _=P6 (aT .Eq (.str "in") (.str w)==P6 P8)
   rw[h];cases b<;>rfl
  ·refine⟨"out",_,rfl,?_⟩;show _=P6 (aT .Eq (.str "out") (.str w)==P6 P8)
   rw[h'];cases c<;>rfl
theorem yj(hl:(t1++t2).length<1000):ψ0 [.lst (cb t1 t2 o f),.str "in"]=P6 (.fr k0,.lst ((t1++t2).map lU)):=by
 rw[rA (b:=P8) (c:=Qb) (by decide +kernel) (by decide +kernel) hl,M7];rfl
theorem yk(hl:(t1++t2).length<1000):ψ0 [.lst (cb t1 t2 o f),.str "out"]=P6 (.fr k0,.lst [iU o f]):=by
 rw[rA (b:=Qb) (c:=P8) (by decide +kernel) (by decide +kernel) hl];rfl
theorem jK{w:Str}(h:aT .Eq (.str "in") (.str w)=P6 Qb)(h':aT .Eq (.str "out") (.str w)=P6 Qb)(hl:(t1++t2).length<1000):ψ0 [.lst (cb t1 t2 o f),.str w]=P6 (.fr k0,.lst []):=by
 rw[rA h h' hl];rfl
theorem ud(hl:(t1++t2).length<1000):ψ2 [.lst (cb t1 t2 o f)]=P6 (.fr k0,.lst []):=by
 refine yg (by rw[MX] at hl;simp;lia) λd hd=>?_;rcases nw hd with⟨p,rfl⟩|rfl
 ·exact⟨"in",_,rfl,by decide +kernel⟩
 ·exact⟨"out",_,rfl,by decide +kernel⟩
end
theorem Iw:∀{l:List eD},J.eU (l.map λp=>D.tup [iD p.2.2,iD p.2.1]) [] .fz=P8
 |[]=>rfl
 |p::l=>by
  show(P8&&J.eU (l.map λp=>D.tup [iD p.2.2,iD p.2.1]) [] .fz)=P8;rw[Iw];rfl
theorem Ix:j9 (.fr kS) (yM l)=P8:=by
 show(J.eU (l.map λp=>D.tup [iD p.2.2,iD p.2.1]) [] .fz&&P8)=P8;rw[Iw];rfl
theorem Ce{f:Ro->Option Res}{m k:Nat}{ds:List D}(h:ds.length=m):qY f m k ds=fC (f (kG k (ds.map AC))):=if_pos h
theorem pI{N:Nat}(h:Wp (aP U N s pn Z) λr=>r=.nx Z'):aP U N s pn Z=P6 (.nx Z'):=pR h
section
variable {t1 t2:List eD} {o pn:Str} {f:Fo}
noncomputable abbrev jr(pa pn sta ins rows row bf sc af outs:Option Sl):Ro:=[pa,pn,sta,ins,rows,row,bf,sc,af,P7,P7,P7,P7,outs]
theorem ym{pa nz sta ins bf sc af:Option Sl}(hl:(t1++t2).length<1000):∃s5,pt 4 (jr pa nz sta ins (fS (.lst (cb t1 t2 o f))) P7 bf sc af P7)=P6 (.nx (jr pa nz sta ins (fS (.lst (cb t1 t2 o f))) s5 bf sc af P7)):=by
 have:Wp (pt 4 (jr pa nz sta ins (fS (.lst (cb t1 t2 o f))) P7 bf sc af P7)) λr=>∃s5,r=.nx (jr pa nz sta ins (fS (.lst (cb t1 t2 o f))) s5 bf sc af P7):=by
  unfold pt b3;refine kO (ff (k:=.sh) rfl rfl) (λ_ Z=>∃s5,Z=jr pa nz sta ins (fS (.lst (cb t1 t2 o f))) s5 bf sc af P7) ⟨P7,rfl⟩ (λi d Z e hI=>?_) λZ' hI=>?_
  ·obtain⟨s5,rfl⟩:=hI;have hd:=nw (Nf e);refine⟨[(5,d)],rfl,rfl,?_⟩
   have key:∀{w:Str} {xs:List D},aT .Eq (.str w) (.str "wire")=P6 Qb->aT .Eq (.str w) (.str "use")=P6 Qb->d=.tup (.str w::xs)->Wp (aP U_6 1000 (.cons (.ifs (.p (.cmp .Eq (.ix (.var 5) (nL 0)) (sL "wire"))) (.cons .stk .nil) (.cons (.ifs (.p (.cmp .Eq (.ix (.var 5) (nL 0)) (sL "use"))) (.cons .stk (.cons .stk (.cons .stk (.cons .stk .nil)))) .nil) .nil)) .nil) [] (jr pa nz sta ins (fS (.lst (cb t1 t2 o f))) (fS d) bf sc af P7)) λr=>∃Z',(r=.nx Z'\/r=.ct Z')/\∃s5,Z'=jr pa nz sta ins (fS (.lst (cb t1 t2 o f))) s5 bf sc af P7:=λ{w xs} h1 h2 hw=>by
    subst hw;refine gf (jf (fv 0) rfl h1) (λe=>by cases e) λ_=>?_;refine gf (jf (fv 0) rfl h2) (λe=>by cases e) λ_=>?_;exact ca (jd (ca (jd (ca ⟨_,.inl rfl,_,rfl⟩))))
   rcases hd with⟨p,hp⟩|hp
   ·exact key (by decide +kernel) (by decide +kernel) hp
   ·exact key (by decide +kernel) (by decide +kernel) hp
  ·obtain⟨s5,rfl⟩:=hI;exact ca ⟨s5,rfl⟩
 obtain⟨r,e,s5,rfl⟩:=this;exact⟨s5,e⟩
theorem A0{L E:Str->Nat}(hE:∀x,E x<2^L x)(hl:(t1++t2).length<1000)(hn:((t1++t2).map (·.1)).Nodup)(hw:Wf L f)(hp:Al (Pc L (Sc L E (yM (t1++t2)))) f)(hd:dep f<40) :
  ψ3 [.nd (.dic 0 [.inl (.inr pn)]) [.lst (cb t1 t2 o f)],.str pn,.lst [],.lst ((t1++t2).map λp=>iD p.2.2)]=P6 (.fr kS,.tup [.nd (.dic 0 [.inl (.inr o)]) [pD (val L E f) (wid L f)],.lst []]):=by
 unfold ψ3;refine(Ce rfl).trans ?_;let pa:D:=.nd (.dic 0 [.inl (.inr pn)]) [.lst (cb t1 t2 o f)];let rs:D:=.lst (cb t1 t2 o f);let is:D:=.lst ((t1++t2).map λp=>iD p.2.2);let e0:Option Sl:=P6 ⟨Qb,k0,.nd (.dic 0 []) []⟩;let sc:Option Sl:=P6 ⟨Qb,kS,yM (t1++t2)⟩
 have a0:pt 0 (jr (fS pa) (fS (.str pn)) (fS (.lst [])) (fS is) P7 P7 P7 P7 P7 P7)=P6 (.nx (jr (fS pa) (fS (.str pn)) (fS (.lst [])) (fS is) (fS rs) P7 P7 P7 P7 P7)):=by
  unfold pt b3;refine pI (bc (ub (j:=0) rfl rfl rfl rfl ?_ rfl) rfl (by decide) (ca rfl));unfold aI;simp
 have a1:Ji (jr (fS pa) (fS (.str pn)) (fS (.lst [])) (fS is) (fS rs) P7 P7 P7 P7 P7)=P6 (.nx (jr (fS pa) (fS (.str pn)) (fS (.lst [])) (fS is) (fS rs) P7 e0 P7 P7 P7)):=by
  unfold Ji Lk;rw[e2 (LY (l:=([]:List Nat)) (f:=iD) (g:=iD) (.inl rfl) (cm rfl (e1 rfl) rfl rfl (ud hl) rfl) rfl (by decide) λa ha=>by cases ha) rfl];rfl
 have a2:pt 2 (jr (fS pa) (fS (.str pn)) (fS (.lst [])) (fS is) (fS rs) P7 e0 P7 P7 P7)=P6 (.nx (jr (fS pa) (fS (.str pn)) (fS (.lst [])) (fS is) (fS rs) P7 e0 sc P7 P7)):=by
  unfold pt b3;refine pI (bc (t8 rfl (e3 rfl rfl rfl) ?_ rfl (yh hn hl (yj hl) (jK (by decide +kernel) (by decide +kernel) hl) (jK (by decide +kernel) (by decide +kernel) hl)) rfl) rfl (by decide) (ca rfl));exact Ix
 have a3:pt 3 (jr (fS pa) (fS (.str pn)) (fS (.lst [])) (fS is) (fS rs) P7 e0 sc P7 P7)=P6 (.nx (jr (fS pa) (fS (.str pn)) (fS (.lst [])) (fS is) (fS rs) P7 e0 sc e0 P7)):=rfl;obtain⟨s5,a4⟩:=ym hl
 have a5:pt 5 (jr (fS pa) (fS (.str pn)) (fS (.lst [])) (fS is) (fS rs) s5 e0 sc e0 P7)=P6 (.nx (jr (fS pa) (fS (.str pn)) (fS (.lst [])) (fS is) (fS rs) s5 e0 sc e0 P7)):=by
  unfold pt b3;exact pI (nr (ff (k:=.fr k0) (cm rfl (e2 rfl rfl) rfl rfl (jK (by decide +kernel) (by decide +kernel) hl) rfl) rfl) (ca rfl))
 have a6:pt 6 (jr (fS pa) (fS (.str pn)) (fS (.lst [])) (fS is) (fS rs) s5 e0 sc e0 P7)=P6 (.nx (jr (fS pa) (fS (.str pn)) (fS (.lst [])) (fS is) (fS rs) s5 e0 sc e0 P7)):=by
  unfold pt b3;exact pI (nr (ff (k:=.fr k0) (cm rfl (e2 rfl rfl) rfl rfl (jK (by decide +kernel) (by decide +kernel) hl) rfl) rfl) (ca rfl))
 let outs:D:=.nd (.dic 0 [.inl (.inr o)]) [pD (val L E f) (wid L f)]
 have a7:Jj (jr (fS pa) (fS (.str pn)) (fS (.lst [])) (fS is) (fS rs) s5 e0 sc e0 P7)=P6 (.nx (jr (fS pa) (fS (.str pn)) (fS (.lst [])) (fS is) (fS rs) s5 e0 sc e0 (P6 ⟨Qb,k0,outs⟩))):=by
  unfold Jj;rw[show bR U_6.fn Ll (jr (fS pa) (fS (.str pn)) (fS (.lst [])) (fS is) (fS rs) s5 e0 sc e0 P7)=P6 ([],[iU o f]) from ff (k:=.fr k0) (cm rfl (e2 rfl rfl) rfl rfl (yk hl) rfl) rfl];have hv:aa U_6.fn AK [P7,fS (iU o f),P7,sc]=P6 (.sh,pD (val L E f) (wid L f)):=t8 rfl (e2 (fv 2) rfl) rfl rfl (eG hE f 40 hw hp hd) rfl
  have he:fA (.nm 1) (λ_=>P6 P8) (aa U_6.fn EM) (aa U_6.fn AK) [P7,P7,P7,sc] (iU o f)=P6 (P6 (.str o,pD (val L E f) (wid L f))):=by
   show(match aa U_6.fn AK [P7,fS (iU o f),P7,sc] with|some y=>if i0 y.1 y.2=P8 then P6 (P6 (D.str o,y.2)) else P7|none=>P7)=_
   rw[hv];rfl
  show kA [] 13 ((match (match fA (.nm 1) (λ_=>P6 P8) (aa U_6.fn EM) (aa U_6.fn AK) [P7,P7,P7,sc] (iU o f) with
   |some (P6 p)=>(match xB 0 ([],[]) p.1 p.2 with
    |some a'=>dU 0 (fA (.nm 1) (λ_=>P6 P8) (aa U_6.fn EM) (aa U_6.fn AK) [P7,P7,P7,sc]) [] a'
    |none=>P7)
   |some P7=>dU 0 (fA (.nm 1) (λ_=>P6 P8) (aa U_6.fn EM) (aa U_6.fn AK) [P7,P7,P7,sc]) [] ([],[])
   |none=>P7) with|some a=>P6 (Kd.fr (.own [] .fz),D.nd (.dic 0 a.1) a.2)|none=>P7).map _)=_
  rw[he];rfl
 have a8:∃Z,pt 8 (jr (fS pa) (fS (.str pn)) (fS (.lst [])) (fS is) (fS rs) s5 e0 sc e0 (P6 ⟨Qb,k0,outs⟩))=P6 (.rt (.fr kS) (.tup [outs,.lst []]) Z):=by
  have:Wp (pt 8 (jr (fS pa) (fS (.str pn)) (fS (.lst [])) (fS is) (fS rs) s5 e0 sc e0 (P6 ⟨Qb,k0,outs⟩))) λr=>∃Z,r=.rt (.fr kS) (.tup [outs,.lst []]) Z:=by
   unfold pt b3;refine dF (dI (bu (pf rfl (wv (e1 (LY (l:=([]:List Nat)) (f:=iD) (g:=iD) (.inl rfl) (cm rfl (e1 rfl) rfl rfl (ud hl) rfl) rfl (by decide) λa ha=>by cases ha)) (dJ rfl ⟨rfl,_,rfl⟩)))))
  obtain⟨r,e,Z,rfl⟩:=this;exact⟨Z,e⟩
 obtain⟨Z8,a8⟩:=a8;show fC (Ig (jr (fS pa) (fS (.str pn)) (fS (.lst [])) (fS is) P7 P7 P7 P7 P7 P7))=_;unfold Ig;rw[a0];dsimp only[bH];rw[a1];dsimp only[bH];rw[a2];dsimp only[bH];rw[a3];dsimp only[bH];rw[a4];dsimp only[bH];rw[a5];dsimp only[bH];rw[a6];dsimp only[bH];rw[a7];dsimp only[bH];rw[a8];rfl
end
variable {t1 t2:List eD} {o pn:Str} {f:Fo}
noncomputable abbrev kP(t1 t2:List eD)(o pn:Str)(f:Fo):D:=.lst [.tup [.str pn,.lst (cb t1 t2 o f)]]
theorem A1{L E:Str->Nat}(hE:∀x,E x<2^L x)(hl:(t1++t2).length<1000)(hn:((t1++t2).map (·.1)).Nodup)(hw:Wf L f)(hp:Al (Pc L (Sc L E (yM (t1++t2)))) f)(hd:dep f<40) :
  ψ1 [kP t1 t2 o pn f,.str pn,.lst [],.lst ((t1++t2).map λp=>iD p.2.2)]=P6 (.fr kS,.tup [.lst [iD (val L E f)],.lst []]):=by
 unfold ψ1;refine(Ce rfl).trans ?_;let is:D:=.lst ((t1++t2).map λp=>iD p.2.2)
 have a0:aP U_3 1000 (rm b1 0) [] [fS (kP t1 t2 o pn f),fS (.str pn),fS (.lst []),fS is,P7,P7]=P6 (.nx [fS (kP t1 t2 o pn f),fS (.str pn),fS (.lst []),fS is,P6 ⟨Qb,k0,.nd (.dic 0 [.inl (.inr o)]) [pD (val L E f) (wid L f)]⟩,P6 ⟨Qb,k0,.lst []⟩]):=by
  unfold b1;refine pI (rh (bt (wv (cm (kds:=[(.fr k0,.nd (.dic 0 [.inl (.inr pn)]) [.lst (cb t1 t2 o f)]),(.sh,.str pn),(.sh,.lst []),(.sh,is)]) rfl (e4 ?_ rfl rfl rfl) rfl rfl (A0 hE hl hn hw hp hd) rfl) ⟨_,_,_,rfl,rfl,⟨rfl,rfl⟩,ca rfl⟩)));rfl
 show fC (Ih [fS (kP t1 t2 o pn f),fS (.str pn),fS (.lst []),fS is,P7,P7])=_;unfold Ih;rw[a0];dsimp only[bH];rfl
noncomputable abbrev bL(l:List Bool):D:=.lst (l.map bD)
section
variable {U:Nat->Option Fn} {Z:Ro} {a b:IE} {k k':Kd}
theorem Cf{α:Type}{l:List α}{f g:α->D}(ha:bR U it Z=P6 (bs,l.map f))(hl:l.length<=100000)(h:∀a∈l,Wp (dH tg (cw U .non) (aa U elt) (a9 Z cap) (f a)) λo=>∃kd,o=P6 (kd,g a)/\bB r (kd,g a)=P8):aa U (.comp r cap tg it .non elt) Z=P6 (.fr (.own [] r),.lst (l.map g)):=
 az (hG (wv ha ⟨by simpa using hl,(t5 h).mono λys e=>by rw[e]⟩))
theorem Iy{xs:List D}(ha:aa U a Z=P6 (k,.lst xs))(h:i3 k xs=P8):bR U (.enm a) Z=P6 (k7 k,xs.mapIdx λi d=>D.tup [.int i,d]):=by
 refine pR (xP (wv ha ?_));show Wp ((eE (P6 (k,.nd .lst xs))).map _) _;rw[show eE (P6 (k,.nd .lst xs))=P6 (k7 k,xs) from if_pos h];exact mZ rfl
theorem pJ{α β:Type}{f:α->D}{g:β->D}{l:List α}{l':List β}:mF (l.map f) (l'.map g)=(l.zip l').map λp=>.tup [f p.1,g p.2]:=by
 unfold mF;rw[P3,List.zip,O1]
theorem pK{i j:Int}(h:i.natAbs<lim/\j.natAbs<lim)(ha:aa U a Z=P6 (.sh,.int i))(hb:aa U b Z=P6 (.sh,.int j)):aa U (.bin .Mult a b) Z=P6 (.sh,.int (i*j)):=az (bP (wv ha (wv hb (Ew h rfl))))
theorem gg{i j:Int}(h:0<j/\j.natAbs<lim)(ha:aa U a Z=P6 (.sh,.int i))(hb:aa U b Z=P6 (.sh,.int j)):aa U (.bin .FloorDiv a b) Z=P6 (.sh,.int (i / j)):=az (bP (wv ha (wv hb (AH h rfl))))
theorem pL{x:Str}(he:aJ U es Z=P6 kds)(h:eK x kds=P6 r):aa U (.blt x es) Z=P6 r:=az (m6 (wv he (wv h rfl)))
end
theorem ue{n w:Nat}(hw:w<=64):Jo [iD n,iD w]=P6 (.fr k0,bL (bS n w)):=by
 unfold Jo;refine dZ rfl ?_;unfold KS;refine bK (x:=(.fr k0,.lst ((Np w).map λi=>bD (n.testBit i)))) (Lr rfl (by lia) λi hi=>ES rfl (wv ?_ ⟨.sh,rfl,rfl⟩)) rfl (bG rfl ?_)
 ·refine(dY (by decide) (gg ?_ rfl (lS (by decide) (by lia) rfl rfl)) rfl).trans ?_
  ·rw[No];exact⟨Int.natCast_pos.mpr (Nj i),kN (Ov (by decide) (by lia))⟩
  ·show _=P6 (Kd.sh,iD (bn (n.testBit i)));rw[No,Op,kK];congr 3
 ·show(Kd.fr k0,D.lst ((Np w).map λi=>bD (n.testBit i)))=_;congr 2;refine Oj λi=>?_;rw[MF,MF];by_cases hi:i<w
  ·rw[Oc hi,bF n w i hi];rfl
  ·rw[Nd (by rw[N6];lia),Nd (by rw[ay];lia)];rfl
theorem kQ{α:Type}{f:α->Int}:∀{l:List α},toInts (l.map λa=>.int (f a))=P6 (l.map f)
 |[]=>rfl
 |a::l=>by
  show(toInts (l.map λa=>.int (f a))).map (f a::·)=_;rw[kQ];rfl
theorem uf:∀(l:List Bool) (k:Nat),((l.zipIdx k).map λp=>((bn p.1 <<< p.2:Nat):Int)).sum=((2^k*num l:Nat):Int)
 |[],k=>by simp[num]
 |b::l,k=>by
  rw[List.zipIdx_cons,MU,List.sum_cons,uf l (k+1),num,O0,PH,Nat.mul_add,Nat.mul_comm (bn b),Nat.mul_assoc,N3]
theorem ve{l:List Bool}(hl:l.length<=64):Jp [bL l]=P6 (.sh,iD (num l)):=by
 unfold Jp;refine dZ rfl ?_;unfold KY;refine bK (x:=(.sh,iD (num l))) (pL (e1 (Cf (l:=l.zipIdx) (f:=λp=>.tup [iD p.2,bD p.1]) (bs:=[]) ?_ (by rw[List.length_zipIdx];lia) λp hp=>Lq rfl (wv (lS ?_ ?_ rfl rfl) ⟨.sh,rfl,rfl⟩))) ?_) rfl (bG rfl rfl)
 ·refine(Iy rfl rfl).trans ?_;rw[List.mapIdx_eq_zipIdx_map,List.zipIdx_map,M5];rfl
 ·cases p.1<;>decide
 ·have:=(List.mem_zipIdx hp).2.1
  lia
 ·show(toInts (l.zipIdx.map λp=>.int ((bn p.1 <<< p.2:Nat):Int))).map (λns=>(Kd.sh,D.int ns.sum))=_;rw[kQ];show P6 (Kd.sh,D.int (l.zipIdx.map λp=>((bn p.1 <<< p.2:Nat):Int)).sum)=_;rw[uf l 0];simp
theorem yn{es:List Ow}{ds:List D}{x:KD}(h:es.length<=ds.length/\bB r x=P8/\ds.length<100000):oQ "append" es r ds [x]=P6 (.non,ds++[x.2]):=if_pos h
theorem ny{U:GG}{Z:Ro}{i:Nat}{ds:List D}{x:KD}{Q:Kd×D×Ro->Prop}(h:Z[i]?=P6 (P6 ⟨Qb,k0,.lst ds⟩))(he:aa U.fn e Z=P6 x)(hx:bB .fz x=P8)(hl:ds.length<100000)(q:Q (.sh,.non,Z.set i (P6 ⟨Qb,k0,.lst (ds++[x.2])⟩))):Wp (aH U (.mut "append" (.nm i) (.cons e .nil)) Z) Q:=by
 refine⟨_,?_,q⟩;rw[mT,e1 he];show qL "append" i (oP Z[i]?) (P6 [x]) Z=_;rw[h]
 show(match oQ "append" [] .fz ds [x],Z[i]? with|some (d',ds'),P6 (P6 ⟨Qb,k,_⟩)=>P6 (Kd.sh,d',Z.set i (P6 ⟨Qb,k,id (.lst ds')⟩))|_,_=>P7)=_
 rw[show oQ "append" [] .fz ds [x]=P6 (.non,ds++[x.2]) from yn ⟨M4 _,hx,hl⟩,h];rfl
theorem Iz(a b c:Bool):((bn a:Int)+bn b+bn c)%2=bn (decide ((bn a+bn b+bn c)%2=1))/\((bn a:Int)+bn b+bn c) / 2=bn (decide ((bn a+bn b+bn c) / 2=1)):=by cases a<;>cases b<;>cases c<;>decide
theorem lW{xs ys:List Bool}{c:Bool}(hl:xs.length=ys.length)(h8:xs.length<=64):Jq [bL xs,bL ys,bD c]=P6 (.fr k0,bL (rn xs ys c)):=by
 unfold Jq;refine dZ rfl ?_;unfold K1;refine bc rfl rfl (by decide) ?_;refine kO ((lT rfl rfl rfl rfl).trans (by rw[pJ];rfl)) (λi Z=>∃(pre:List Bool) (c':Bool) (s4 s5:Option Sl),pre.length<=i/\rn xs ys c=pre++rn (xs.drop i) (ys.drop i) c'/\Z=[fS (bL xs),fS (bL ys),fS (bD c'),P6 ⟨Qb,k0,bL pre⟩,s4,s5]) ⟨[],c,P7,P7,MH _,rfl,rfl⟩ (λi d Z e hI=>?_) λZ' hI=>?_
 ·obtain⟨pre,c',s4,s5,hp,hs,rfl⟩:=hI;rw[MF] at e
  cases hz:(xs.zip ys)[i]? with
  |none=>rw[hz] at e;cases e
  |some p=>
  rw[hz] at e;cases e;obtain⟨a,b⟩:=p;rw[List.getElem?_zip_eq_some] at hz;obtain⟨ha,hb⟩:=hz;have hi:=(MJ.mp ha).1;refine⟨[(4,bD a),(5,bD b)],rfl,rfl,?_⟩;refine pj (ny (x:=(.sh,bD (decide ((bn a+bn b+bn c')%2=1)))) rfl ?_ rfl (by rw[MB];lia) ?_)
  ·rw[dY (by decide) (cF (cF rfl rfl) rfl) rfl,(Iz a b c').1]
  ·show Wp (aP _ _ _ _ [fS (bL xs),fS (bL ys),fS (bD c'),P6 ⟨Qb,k0,.lst (pre.map bD++[bD (decide ((bn a+bn b+bn c')%2=1))])⟩,fS (bD a),fS (bD b)]) _;refine bc (x:=(.sh,bD (decide ((bn a+bn b+bn c') / 2=1)))) ?_ rfl (by decide) (ca ⟨_,.inl rfl,pre++[decide ((bn a+bn b+bn c')%2=1)],decide ((bn a+bn b+bn c') / 2=1),fS (bD a),fS (bD b),by rw[MX];exact N9 hp 1,?_,?_⟩)
   ·rw[gg ⟨by decide,by decide⟩ (cF (cF rfl rfl) rfl) rfl,(Iz a b c').2]
   ·rw[hs,M6 hi,M6 (show i<ys.length by lia),rn,(MJ.mp ha).2,(MJ.mp hb).2,OP];rfl
   ·simp only[bL,M7];rfl
 ·obtain⟨pre,c',s4,s5,hp,hs,rfl⟩:=hI;rw[MB,Os,<- hl,PF,Oo,hl,Oo] at hs;rw[show rn [] [] c'=[] from rfl,NQ] at hs;rw[hs];exact dF (pf rfl ⟨rfl,bG rfl rfl⟩)
theorem E3{xs ys:List Bool}{g:Bool->Bool->Bool}:.lst ((xs.zip ys).map λp=>bD (g p.1 p.2))=bL (Nc g xs ys):=by
 unfold bL;rw[List.zip,O1,O1]
section
variable {U:Nat->Option Fn} {Z:Ro}
theorem rB{xs ys:List Bool}{g:Bool->Bool->Bool}(ha:aa U a Z=P6 (.sh,bL xs))(hb:aa U b Z=P6 (.sh,bL ys))(hl:xs.length<=64)(hn:∀x y,bI [(1,bD x),(2,bD y)] (a9 Z cap)=P8)(h:∀x y,aa U elt (setAll [(1,bD x),(2,bD y)] (a9 Z cap))=P6 (.sh,bD (g x y))):aa U (.comp .fz cap (.tp [.nm 1,.nm 2]) (.zp a b) .non elt) Z=P6 (.fr k0,bL (Nc g xs ys)):=by
 rw[<- E3];refine Cf (bs:=[]) ?_ (by rw[Os];lia) λp hp=>Lq (hn _ _) (wv (h _ _) ⟨.sh,rfl,rfl⟩);exact(lT ha hb rfl rfl).trans (by rw[pJ];rfl)
theorem yo{xs:List Bool}(ha:aa U a Z=P6 (k,bL xs))(ho:i3 k (xs.map bD)=P8)(hl:xs.length<=64)(hc:cap=[P7,P7]):aa U (.comp .fz cap (.nm 1) (.e a) .non (.bin .Sub (nL 1) (.var 1))) Z=P6 (.fr k0,bL (xs.map not)):=by
 subst hc
 have:=Cf (g:=λb=>bD (!b)) (r:=.fz) (cap:=[P7,P7]) (elt:=.bin .Sub (nL 1) (.var 1)) (ff ha ho) (by lia) λb hb=>ES rfl (wv (bJ rfl rfl) ⟨.sh,by cases b<;>rfl,rfl⟩)
 rw[this];simp only[bL,M5];rfl
end
theorem Cg:∀x y:List Bool,PyData.eqvAll (lE (x.map bD)) (lE (y.map bD))=decide (x=y)
 |[],[]=>by simp[lE,PyData.eqvAll]
 |[],_::_=>by simp[lE,PyData.eqvAll]
 |_::_,[]=>by simp[lE,PyData.eqvAll]
 |a::x,b::y=>by
  have:=Cg x y;simp only[MU,lE,PyData.eqvAll,this,py,PyData.eqv]
  cases a<;>cases b<;>simp[bn]
theorem IA(x y:List Bool):vt (bL x) (bL y)=decide (x=y):=by
 unfold vt;simp only[bL,py,PyData.eqv];exact Cg x y
theorem Ch(n:Nat)(x:List Bool):gh (n+1) (bL x)=P8:=by
 simp only[bL,gh,MA,decide_eq_true_eq];refine⟨by lia,nh λd hd=>?_⟩;obtain⟨b,_,rfl⟩:=M2.mp hd;rfl
theorem rC(x:List Bool):toInts (x.map bD)=P6 (iL x):=kQ
theorem Ci{x:List Bool}(hl:x.length<=64)(ha:aa U a Z=P6 (k,bL x)):aa U (.lrev a) Z=P6 (.fr k0,bL x.reverse):=by
 rw[wS,ha]
 show(match toInts (x.map bD) with|some ks=>if ks.length<=100000 then P6 (Kd.fr bj,D.lst (ks.reverse.map D.int)) else P7|none=>P7)=_
 rw[rC]
 show(if(iL x).length<=100000 then P6 (Kd.fr bj,D.lst ((iL x).reverse.map D.int)) else P7)=_
 rw[if_pos (by unfold iL;rw[MB];lia)];unfold iL;simp only[bL,<- P1,M5];rfl
theorem Lu(x y:List Bool):aT .Lt (bL x) (bL y)=P6 (G.nC (iL x) (iL y)):=by
 show(match toInts (x.map bD) with|some xs=>(match toInts (y.map bD) with|some ys=>P6 (G.nC xs ys)|none=>P7)|none=>P7)=_
 rw[rC,rC]
theorem yp(b:Bool):eK "int" [(Kd.sh,.bl b)]=P6 (.sh,bD b):=by cases b<;>rfl
theorem yq{b:Bool}(h:aa U a Z=P6 (.sh,.bl b)):aa U (.lst (.own [] .fz) (.cons (.blt "int" (.cons a .nil)) .nil)) Z=P6 (.fr k0,bL [b]):=by
 rw[jB,e1 (pL (e1 h) (yp b))];rfl
noncomputable def Mw(o:AS)(x y:List Bool):List Bool:=match o with
 |.and=>Nc and x y
 |.or=>Nc or x y
 |.xor=>Nc xor x y
 |.plus=>rn x y Qb
 |.minus=>rn x (y.map not) P8
section
variable {x y:List Bool} (hl:x.length=y.length) (h8:x.length<=64)
include hl h8
theorem E4(o:AS):yL [.str (EO o),bL x,bL y]=P6 (.fr k0,bL (Mw o x y)):=by
 unfold yL;refine dZ rfl ?_;unfold Ia
 cases o with
 |and=>
  refine bE (x:=(.fr k0,bL (Nc and x y))) bT ?_ rfl (bG rfl rfl)
  exact rB rfl rfl h8 (λ_ _=>rfl) λa b=>(pK ⟨kN (by cases a<;>decide),kN (by cases b<;>decide)⟩ rfl rfl).trans (by cases a<;>cases b<;>rfl)
 |or=>
  refine ae bT ?_;refine bE (x:=(.fr k0,bL (Nc or x y))) bT ?_ rfl (bG rfl rfl)
  exact rB rfl rfl h8 (λ_ _=>rfl) λa b=>pL (e2 rfl rfl) (by cases a<;>cases b<;>rfl)
 |xor=>
  refine ae bT ?_;refine ae bT ?_;refine bE (x:=(.fr k0,bL (Nc xor x y))) bT ?_ rfl (bG rfl rfl)
  exact rB rfl rfl h8 (λ_ _=>rfl) λa b=>pL (e1 (hV (ET rfl rfl))) (by cases a<;>cases b<;>rfl)
 |plus=>
  refine ae bT ?_;refine ae bT ?_;refine ae bT ?_;refine bE (x:=(.fr k0,bL (rn x y Qb))) bT ?_ rfl (bG rfl rfl);exact cm (ds:=[bL x,bL y,bD Qb]) rfl (e3 rfl rfl rfl) rfl rfl (lW hl h8) rfl
 |minus=>
  refine ae bT ?_;refine ae bT ?_;refine ae bT ?_;refine ae bT ?_;refine bE (x:=(.fr k0,bL (rn x (y.map not) P8))) bT ?_ rfl (bG rfl rfl);exact cm (ds:=[bL x,bL (y.map not),bD P8]) rfl (e3 rfl (yo rfl rfl (by lia) rfl) rfl) rfl rfl (lW (by rw[MB];exact hl) h8) rfl
theorem E5(s:Bool):yL [.str (if s then "less" else "same"),bL x,bL y]=P6 (.fr k0,bL [if s then G.nC (iL x.reverse) (iL y.reverse) else decide (x=y)]):=by
 unfold yL;refine dZ rfl ?_;unfold Ia
 have hs:((["and","or","xor","plus","minus"]:List Str).all (jq (if s then "less" else "same")))=P8:=by cases s<;>decide +kernel
 simp only[Nu,PJ,MA] at hs;obtain⟨q1,q2,q3,q4,q5,_⟩:=hs;refine ae (jf rfl rfl (bz q1)) ?_;refine ae (jf rfl rfl (bz q2)) ?_;refine ae (jf rfl rfl (bz q3)) ?_;refine ae (jf rfl rfl (bz q4)) ?_;refine ae (jf rfl rfl (bz q5)) ?_
 cases s with
 |false=>
  refine bE (x:=(.fr k0,bL [decide (x=y)])) bT ?_ rfl (bG rfl rfl);exact yq (hV (jf (d:=bL x) (d':=bL y) rfl rfl ((if_pos ⟨Ch _ _,Ch _ _⟩).trans (by rw[IA]))))
 |true=>
  refine ae bT ?_;refine bE (x:=(.fr k0,bL [G.nC (iL x.reverse) (iL y.reverse)])) bT ?_ rfl (bG rfl rfl);exact yq (hV (fK (Ci h8 rfl) (Ci (by lia) rfl) (Lu _ _)))
end
theorem E6{x y:List Bool}(h8:x.length<=64)(h8':y.length<=64):yL [.str "join",bL x,bL y]=P6 (.fr k0,bL (x++y)):=by
 unfold yL;refine dZ rfl ?_;unfold Ia;refine ae bT ?_;refine ae bT ?_;refine ae bT ?_;refine ae bT ?_;refine ae bT ?_;refine ae bT ?_;refine ae bT ?_;refine bK (x:=(.fr k0,bL (x++y))) ?_ rfl (bG rfl rfl);refine(t7 ⟨rfl,rfl,by rw[MB,MB];lia⟩ rfl rfl).trans ?_;simp only[bL,M7]
noncomputable abbrev wr(n:Nat):Fn:=recI U_19 20 1000 2 4 x5 n
example:LW=wr 40:=rfl
noncomputable def Rb(l:List Bool)(x:KD):Prop:=(x.1=.sh\/x.1=.fr k0)/\x.2=bL l
noncomputable def nW(w:Str):Bool:=aT .In (.str w) (.tup [.str "name",.str "of",.str "at"])==P6 Qb
theorem IB{w:Str}(h:nW w=P8):aT .In (.str w) (.tup [.str "name",.str "of",.str "at"])=P6 Qb:=by simpa[nW] using h
theorem nA{n:Nat}{w:Str}(h1:nW w=P8)(h2:jq w "number" = P8)(ha:Wp (wr n [a,kn]) (Rb l))(h:∀k,k=.fz\/k=k0->Wp (aP (U_19.addI 20 (wr n)) 1000 (dr x5 4) [] [fS (.tup (.str w::a::xs)),fS kn,fS (.str w),P6 ⟨Qb,k,bL l⟩]) λr=>Wp (fC (P6 r)) R):Wp (wr (n+1) [.tup (.str w::a::xs),kn]) R:=by
 refine xZ rfl ?_;unfold x5 at h⊢;refine bc (fv 0) rfl (by decide) ?_;refine ae (jf rfl rfl (IB h1)) ?_;refine ae (jf rfl rfl (bz h2)) ?_;obtain⟨⟨kd,d⟩,e,hk,hd⟩:=ha;cases(show d=_ from hd)
 have hb:aX kd=Qb:=by rcases hk with hk|hk<;>(cases(show kd=_ from hk);rfl)
 refine bc (cm rfl (e2 (fv 1) rfl) rfl rfl e hb) ?_ (by decide) ?_
 ·rcases hk with hk|hk<;>(cases(show kd=_ from hk);rfl)
 ·rcases hk with hk|hk<;>cases(show kd=_ from hk)
  ·exact h .fz (.inl rfl)
  ·exact h k0 (.inr rfl)
theorem E7{U:Nat->Option Fn}{s0 s1 s2:Option Sl}{k:Ow}{l:List Bool}(hk:k=.fz\/k=k0):∃k',aa U (.var 3) [s0,s1,s2,P6 ⟨Qb,k,bL l⟩]=P6 (k',bL l)/\i3 k' (l.map bD)=P8/\ou k' 0=.sh:=by
 rcases hk with rfl|rfl
 ·exact⟨.sh,rfl,rfl,rfl⟩
 ·exact⟨.bo 3 k0,rfl,rfl,rfl⟩
theorem rD{n:Nat}{w:Str}(h1:nW w=P8)(h2:jq w "number" = P8)(h3:jq w "not" = P8)(h4:jq w "cut" = P8)(h5:jq w "if" = P8)(ha:Wp (wr n [a,kn]) (Rb l))(hb:Wp (wr n [b,kn]) (Rb l'))(h:yL [.str w,bL l,bL l']=P6 (.fr k0,bL res)):Wp (wr (n+1) [.tup (.str w::a::b::xs),kn]) (Rb res):=by
 refine nA h1 h2 ha λk hk=>?_;unfold x5;refine ae (jf rfl rfl (bz h3)) ?_;refine ae (jf rfl rfl (bz h4)) ?_;refine ae (jf rfl rfl (bz h5)) ?_;obtain⟨⟨kd,d⟩,e,hkd,hd⟩:=hb;cases(show d=_ from hd)
 have hbo:aX kd=Qb:=by rcases hkd with hk|hk<;>(cases(show kd=_ from hk);rfl)
 have hok:i0 kd (bL l')=P8:=by rcases hkd with hk|hk<;>(cases(show kd=_ from hk);rfl)
 refine dF (BR rfl (aG (bt (wv rfl ⟨rfl,bu ?_⟩))))
 have key:∀(k1:Kd) (Z':Ro),i0 k1 (bL l)=P8->Z'[0]?=P6 (fS (.tup (.str w::a::b::xs)))->Z'[1]?=P6 (fS kn)->Wp (aJ (U_19.addI 20 (wr n)).fn (.cons (.fn 20 (.cons (.ix (.var 0) (nL 2)) (.cons (.var 1) .nil))) .nil) Z') λys=>Wp (qB yL ((Kd.sh,D.str w)::(k1,bL l)::ys)) λr=>aX (cP r.1 r.2)=Qb/\Wp (fC (P6 (.rt (cP r.1 r.2) r.2 Z'))) (Rb res):=λk1 Z' ho h0 h1=>by
  have v0:aa (U_19.addI 20 (wr n)).fn (.var 0) Z'=P6 (.sh,.tup (.str w::a::b::xs)):=az (en h0 rfl);have v1:aa (U_19.addI 20 (wr n)).fn (.var 1) Z'=P6 (.sh,kn):=az (en h1 rfl);refine wv (e1 (cm rfl (e2 (eC v0 rfl (.inr rfl) rfl rfl) v1) rfl rfl e hbo)) ?_;refine pe ⟨_,h,rfl,.inl ?_,rfl,hJ rfl ⟨.inr rfl,rfl⟩⟩;show(P8&&(i0 k1 (bL l)&&(i0 kd (bL l')&&P8)))=P8;rw[ho,hok];rfl
 rcases hk with rfl|rfl
 ·exact⟨_,rfl,key .sh _ rfl rfl rfl⟩
 ·exact⟨_,rfl,key (.fr k0) _ rfl rfl rfl⟩
noncomputable def Kn(L E:Str->Nat)(kn:D)(x:Str):Prop:=∃ks ds j,kn=.nd (.dic 1 ks) ds/\aI ks (.inr [.inl (.inr "name"),.inl (.inr x)])=P6 j/\ds[j]?=P6 (bL (bS (E x) (L x)))
section
variable {L E:Str->Nat} {kn:D} {n:Nat}
theorem A2{x:Str}(h:Kn L E kn x):Wp (wr (n+1) [dt (.name x),kn]) (Rb (bS (E x) (L x))):=by
 obtain⟨ks,ds,j,rfl,hj,hd⟩:=h;refine xZ rfl ?_;unfold x5;refine bc (fv 0) rfl (by decide) ?_;refine bE (x:=(.sh,bL (bS (E x) (L x)))) (bT) ?_ rfl (hJ rfl ⟨.inl rfl,rfl⟩);exact ub (k:=.sh) rfl rfl rfl rfl hj hd
theorem E8{w v:Nat}(hw:w<=64):Wp (wr (n+1) [dt (.num w v),kn]) (Rb (bS v w)):=by
 refine xZ rfl ?_;unfold x5;refine bc (fv 0) rfl (by decide) ?_;refine ae (bT) ?_;refine bE (x:=(.fr k0,bL (bS v w))) (bT) ?_ rfl (hJ rfl ⟨.inr rfl,rfl⟩);exact cm rfl (e2 (fv 2) (fv 1)) rfl rfl (ue hw) rfl
end
theorem IC{l:List Bool}{lo w:Nat}(h:lo+w<=l.length):d7 (l.map bD) (P6 (lo:Int)) (P6 ((lo:Int)+w))=((l.drop lo).take w).map bD:=by
 unfold d7;rw[<- N3,HT.dA,HT.dA,MB,Od h,Od (show lo<=l.length by lia),Nat.add_sub_cancel_left,OK,OL]
theorem eI{L E:Str->Nat}{kn:D}(hE:∀x,E x<2^L x):∀(f:Fo) (n:Nat),Wf L f->Al (Pc L (Kn L E kn)) f->dep f<n->Wp (wr n [dt f,kn]) (Rb (ck L E f))
 |f,0,_,_,h=>absurd h (Ou _)
 |.name x,n+1,_,hp,_=>A2 (hp.2 x rfl)
 |.num w v,n+1,_,hp,_=>E8 (M0 hp.1 (by decide))
 |.not a,n+1,hw,⟨hp,ha⟩,hd=>by
  have i:=eI hE a n hw ha (by simp only[dep] at hd;lia);have hl:(ck L E a).length<=64:=by rw[(aD L E hE a hw).1,ay];have:=ha.at.1;lia
  refine nA (by decide +kernel) (by decide +kernel) i λk hk=>?_;obtain⟨k',e1,e2,_⟩:=E7 hk;unfold x5;refine bE (bT) (yo e1 e2 hl rfl) rfl (hJ rfl ⟨.inr rfl,rfl⟩)
 |.cut a lo w,n+1,⟨hw,hc⟩,⟨hp,ha⟩,hd=>by
  have i:=eI hE a n hw ha (by simp only[dep] at hd;lia);have hl:(ck L E a).length=wid L a:=by rw[(aD L E hE a hw).1,ay]
  refine nA (by decide +kernel) (by decide +kernel) i λk hk=>?_;obtain⟨k',e1,e2,_⟩:=E7 hk;unfold x5;refine ae (bT) ?_;refine bE (x:=(.fr k0,bL (((ck L E a).drop lo).take w))) (bT) ?_ rfl (hJ rfl ⟨.inr rfl,rfl⟩);refine az (jc (wv e1 (eA (wv (fv 2) ⟨_,rfl,eA (wv (cF (fv 2) (fv 3)) ⟨_,rfl,?_⟩)⟩))));refine⟨_,if_pos e2,?_⟩;rw[IC (by rw[hl];exact hc)]
 |.ite c a b,n+1,⟨hc,ha,hb,h1,hw⟩,⟨hp,pc,pa,pb⟩,hd=>by
  simp only[dep] at hd;have i:=eI hE c n hc pc (by lia);have ia:=eI hE a n ha pa (by lia);have ib:=eI hE b n hb pb (by lia);have hl:(ck L E c).length=1:=by rw[(aD L E hE c hc).1,ay,h1]
  obtain⟨t,ht⟩:∃t,ck L E c=[t]:=List.length_eq_one_iff.mp hl;refine nA (by decide +kernel) (by decide +kernel) i λk hk=>?_;rw[ht];obtain⟨k',e1,e2',e3'⟩:=E7 (l:=[t]) hk;unfold x5;refine ae (bT) ?_;refine ae (bT) ?_;have v0:=eC (b:=.lit (.int 0)) e1 rfl (.inl rfl) rfl rfl;rw[e3'] at v0
  have vi:aa (U_19.addI 20 (wr n)).fn (.ix (.var 0) (.bin .Sub (nL 3) (.ix (.var 3) (nL 0)))) [fS (dt (.ite c a b)),fS kn,fS (.str "if"),P6 ⟨Qb,k,bL [t]⟩]=P6 (.sh,if t then dt a else dt b):=by
   cases t with
   |true=>exact eC (k:=.sh) rfl (bJ rfl v0) (.inr rfl) rfl rfl
   |false=>exact eC (k:=.sh) rfl (bJ rfl v0) (.inr rfl) rfl rfl
  have hr:Wp (wr n [if t then dt a else dt b,kn]) (Rb (ck L E (.ite c a b))):=by
   simp only[ck,ht]
   cases t with
   |true=>exact ia
   |false=>exact ib
  obtain⟨⟨kd,d⟩,e,hkd,hd'⟩:=hr;cases(show d=_ from hd')
  have hbo:aX kd=Qb:=by rcases hkd with hk|hk<;>(cases(show kd=_ from hk);rfl)
  have him:cP kd (bL (ck L E (.ite c a b)))=kd:=by rcases hkd with hk|hk<;>(cases(show kd=_ from hk);rfl)
  refine bE (bT) (cm rfl (e2 vi rfl) rfl rfl e hbo) (by rw[him];exact hbo) ?_;rw[him];exact hJ hbo ⟨hkd,rfl⟩
 |.join a b,n+1,⟨ha,hb⟩,⟨hp,pa,pb⟩,hd=>by
  simp only[dep] at hd;have ia:=eI hE a n ha pa (by lia);have ib:=eI hE b n hb pb (by lia);have hl:(ck L E a).length<=64:=by rw[(aD L E hE a ha).1,ay];have:=pa.at.1;lia
  have hl':(ck L E b).length<=64:=by rw[(aD L E hE b hb).1,ay];have:=pb.at.1;lia
  exact rD (by decide +kernel) (by decide +kernel) (by decide +kernel) (by decide +kernel) (by decide +kernel) ia ib (E6 hl hl')
 |.cmp s a b,n+1,⟨ha,hb,hw⟩,⟨hp,pa,pb⟩,hd=>by
  simp only[dep] at hd;have ia:=eI hE a n ha pa (by lia);have ib:=eI hE b n hb pb (by lia);have hl:(ck L E a).length<=64:=by rw[(aD L E hE a ha).1,ay];have:=pa.at.1;lia
  have hl':(ck L E a).length=(ck L E b).length:=by rw[(aD L E hE b hb).1,(aD L E hE a ha).1,ay,ay];exact hw
  exact rD (by cases s<;>decide +kernel) (by cases s<;>decide +kernel) (by cases s<;>decide +kernel) (by cases s<;>decide +kernel) (by cases s<;>decide +kernel) ia ib (E5 hl' hl s)
 |.two o a b,n+1,⟨ha,hb,hw⟩,⟨hp,pa,pb⟩,hd=>by
  simp only[dep] at hd;have ia:=eI hE a n ha pa (by lia);have ib:=eI hE b n hb pb (by lia);have hl:(ck L E a).length<=64:=by rw[(aD L E hE a ha).1,ay];have:=pa.at.1;lia
  have hl':(ck L E a).length=(ck L E b).length:=by rw[(aD L E hE b hb).1,(aD L E hE a ha).1,ay,ay];exact hw
  have:=rD (xs:=[]) (by cases o<;>decide +kernel) (by cases o<;>decide +kernel) (by cases o<;>decide +kernel) (by cases o<;>decide +kernel) (by cases o<;>decide +kernel) ia ib (E4 hl' hl o)
  cases o<;>exact this
noncomputable abbrev sm(n:Nat):Fn:=recI U_21 22 1000 2 2 AJ n
example:LX=sm 40:=rfl
theorem yr{v:Nat}:Jr [iD v]=P6 (.sh,.bl P8):=by
 unfold Jr;refine dZ rfl ?_;unfold K8;refine bK (x:=(.sh,.bl P8)) ?_ rfl (bG rfl rfl);exact t9 (x:=P8) (BZ rfl rfl) λ_=>yd (Io (BZ (x:=Qb) rfl rfl) rfl)
theorem E9{n v:Nat}:sm (n+1) [iD v,iD v]=P6 (.sh,.bl P8):=by
 show cj (U_21.addI 22 (sm n)) 1000 2 2 AJ [iD v,iD v]=_;refine dZ rfl ?_;unfold AJ;refine ae (pG rfl rfl) ?_;refine bK (x:=(.sh,.bl P8)) ?_ rfl (bG rfl rfl);refine t9 (x:=P8) (cm rfl (e1 rfl) rfl rfl yr rfl) λ_=>yd ?_;rw[hV (kM rfl rfl),decide_eq_true rfl]
theorem Fa{n v:Nat}:sm (n+2) [.lst [iD v],.lst [iD v]]=P6 (.sh,.bl P8):=by
 show cj (U_21.addI 22 (sm (n+1))) 1000 2 2 AJ [.lst [iD v],.lst [iD v]]=_;refine dZ rfl ?_;unfold AJ;refine gf (pG rfl rfl) (λ_=>?_) λe=>by cases e
 refine ae ?_ ?_
 ·refine vb (lG (pG (x:=P8) rfl rfl)) λ_=>jg ?_;exact ET (i:=(1:Nat)) (j:=(1:Nat)) (hUq rfl rfl) (hUq rfl rfl)
 ·refine bK (x:=(.sh,.bl P8)) ?_ rfl (dW (bG rfl rfl));have h:=Cf (U:=(U_21.addI 22 (sm (n+1))).fn) (Z:=[fS (.lst [iD v]),fS (.lst [iD v])]) (bs:=[]) (r:=.fz) (cap:=[P7,P7,P7,P7]) (it:=.zp (.var 0) (.var 1)) (elt:=.fn 22 (.cons (.var 1) (.cons (.var 2) .nil))) ((lT (xs:=[v].map iD) (ys:=[v].map iD) rfl rfl rfl rfl).trans (by rw[nu];rfl)) (Nat.le_of_ble_eq_true rfl) λa ha=>Lq rfl (wv (cm rfl (e2 rfl rfl) rfl rfl E9 rfl) ⟨.sh,rfl,rfl⟩);exact B5 (bs:=[P8]) h
theorem Fb{n:Nat}:sm (n+1) [.lst [],.lst []]=P6 (.sh,.bl P8):=by
 show cj (U_21.addI 22 (sm n)) 1000 2 2 AJ [.lst [],.lst []]=_;refine dZ rfl ?_;unfold AJ;refine gf (z:=P8) (pG rfl (by decide +kernel)) (λ_=>?_) λe=>by cases e
 refine ae ?_ ?_
 ·refine vb (lG (pG (x:=P8) rfl (by decide +kernel))) λ_=>jg ?_;exact ET (i:=(0:Nat)) (j:=(0:Nat)) (hUq rfl rfl) (hUq rfl rfl)
 ·refine bK (x:=(.sh,.bl P8)) ?_ rfl (dW (bG rfl rfl));have h:=Cf (U:=(U_21.addI 22 (sm n)).fn) (Z:=[fS (.lst []),fS (.lst [])]) (l:=([]:List Nat)) (f:=λv=>.tup [iD v,iD v]) (g:=λ_=>.bl P8) (r:=.fz) (cap:=[P7,P7,P7,P7]) (tg:=.tp [.nm 1,.nm 2]) (it:=.zp (.var 0) (.var 1)) (elt:=.fn 22 (.cons (.var 1) (.cons (.var 2) .nil))) ((lT rfl rfl rfl rfl).trans rfl) (by decide) λa ha=>by cases ha
  exact B5 (bs:=[]) h
theorem pM{ft:Ro->Option (Bool×Ro)}{fb:Ro->Option Res}{Q:Res->Prop}(I:Nat->Ro->Prop)(hs:∀m Z,I m Z->Wp (ft (clrN fg Z)) λp=>(p.1=Qb->Q (.nx p.2))/\(p.1=P8->Wp (fb p.2) λr=>∃Z' m',r=.nx Z'/\m'<m/\I m' Z')):∀n m Z,m<n->I m Z->Wp (jp fg ft fb n Z) Q
 |0,m,Z,h,_=>absurd h (Ou _)
 |n+1,m,Z,h,hI=>by
  obtain⟨⟨b,Z1⟩,e1,q1,q2⟩:=hs m Z hI
  cases b with
  |false=>exact⟨.nx Z1,by unfold jp;rw[e1],q1 rfl⟩
  |true=>
   obtain⟨r,e2,Z',m',rfl,hm,hI'⟩:=q2 rfl;obtain⟨x,e3,q3⟩:=pM I hs n m' Z' (by lia) hI';refine⟨x,?_,q3⟩;unfold jp;rw[e1];dsimp only at e2⊢;rw[e2];exact e3
theorem Lv{U:GG}{N:Nat}{pn:List Nat}{Z:Ro}{Q:Res->Prop}{rest:bC}{fg:List Nat}{t:MT}{b:bC}(I:Nat->Ro->Prop){m0:Nat}(hm:m0<N)(h0:I m0 Z)
  (hs:∀m Z,I m Z->Wp (bp U t (clrN fg Z)) λp=>(p.1=Qb->Wp (aP U N rest pn p.2) Q)/\(p.1=P8->Wp (aP U N b pn p.2) λr=>∃Z' m',r=.nx Z'/\m'<m/\I m' Z')):Wp (aP U N (.cons (.wh fg t b) rest) pn Z) Q:=by
 obtain⟨r,e,q⟩:=pM (Q:=Kt U N rest pn Q) I (λm Z hI=>(hs m Z hI).mono λp hp=>⟨hp.1,hp.2⟩) N m0 Z hm h0;exact eB ⟨r,by rw[Eo];exact e,q⟩
noncomputable def potK:List DK:=[.inl (.inr "digits"),.inl (.inr "cells"),.inl (.inr "number"),.inl (.inr "seed"),.inl (.inr "room"),.inl (.inr "rows")]
theorem A3:potK.Nodup:=by decide +kernel
noncomputable abbrev cc(ds:List D):Option Sl:=P6 ⟨Qb,k0,.nd (.dic 0 potK) ds⟩
noncomputable abbrev A4(o:Bool)(cs:List Int)(n s r w:Int):List D:=[.bl o,.lst (cs.map .int),.int n,.int s,.int r,.int w]
noncomputable def At(k:Str)(j:Nat):Prop:=aI potK (.inl (.inr k))=P6 j/\j<6
theorem Cj:At "digits" 0:=⟨by decide +kernel,by decide⟩
theorem ug:At "cells" 1:=⟨by decide +kernel,by decide⟩
theorem lX:At "number" 2:=⟨by decide +kernel,by decide⟩
theorem uh:At "seed" 3:=⟨by decide +kernel,by decide⟩
theorem ui:At "room" 4:=⟨by decide +kernel,by decide⟩
theorem yt:At "rows" 5:=⟨by decide +kernel,by decide⟩
theorem cG{k:Str}{j:Nat}{ds:List D}(h:At k j)(hd:ds[j]?=P6 d):aa U (.ix (.var 0) (.lit (.str k))) (cc ds::Z)=P6 (.sh,d):=
 ub (k:=.bo 0 k0) rfl rfl rfl rfl h.1 hd
theorem lY{U:GG}{N:Nat}{pn:List Nat}{Q:Res->Prop}{rest:bC}{Z:Ro}{k:Str}{j:Nat}{ds:List D}{e:IE}{x:KD}(h:At k j)(he:aa U.fn e (cc ds::Z)=P6 x)(hx:i0 (cP x.1 x.2) x.2=P8)(hl:ds.length=6)(w:Wp (aP U N rest pn (cc (ds.set j x.2)::Z)) Q):Wp (aP U N (.cons (.put (.nm 0) (.lit (.str k)) (.p e)) rest) pn (cc ds::Z)) Q:=by
 refine tU (bt (wv he (AI rfl (bi (nc rfl rfl rfl (ng (r:=(.dic 0 potK,ds.set j x.2)) ?_ w))))))
 show(if iy 0 (.inl (.inr k))=P8/\ds.length<100000 then(match aI potK (.inl (.inr k)) with
   |some j=>if bB (([]:List Ow).getD j .fz) (cP x.1 x.2,x.2)=P8/\potK.Nodup/\j<ds.length then P6 (Hd.dic 0 potK,ds.set j x.2) else P7
   |none=>if([]:List Ow).length<=ds.length/\bB .fz (cP x.1 x.2,x.2)=P8 then P6 (Hd.dic 0 (potK++[.inl (.inr k)]),ds++[x.2]) else P7) else P7)=_
 rw[if_pos ⟨rfl,by lia⟩,h.1];exact if_pos ⟨hx,A3,by rw[hl];exact h.2⟩
noncomputable def Pt(w:Int)(ds:List D):Prop:=∃o cs n s r,ds=A4 o cs n s r w/\cs.length<=63/\0<=n/\n<10^60/\0<=s/\s<2147483647
theorem uj{i:Int}(h0:-2^64<i)(h1:i<2^64):i.natAbs<lim:=MG (show i.natAbs<2^64 by lia) (by decide +kernel)
theorem vf{m:Nat}(hm:0<m)(hm2:m<2^64){w:Int}{ds:List D}(h:Pt w ds){Q:Kd×D×List (Option i8)->Prop}(q:∀r ds',r<m->Pt w ds'->Q (.sh,iD r,[P6 (k0,.nd (.dic 0 potK) ds'),P7])):Wp (aP U_10 1000 (dr HR 1) [0] [cc ds,fS (iD m),P7,P7]) λr=>Wp (fU 2 [0] (P6 r)) Q:=by
 obtain⟨o,cs,n,s,r,rfl,hc,hn0,hn1,hs0,hs1⟩:=h;have hmi:(0:Int)<m:=by lia
 unfold HR;refine gf (pF (Im (cG Cj rfl) rfl) λ_=>jg (va (cG lX rfl) rfl)) (λ_=>?_) λ_=>dX ?_
 ·refine bc (dY hmi (cG lX rfl) rfl) rfl (by decide) ?_;refine lY lX (gg ⟨hmi,kN hm2⟩ (cG lX rfl) rfl) rfl rfl ?_;refine bK rfl rfl (dW (je rfl ?_));have e:n%m=((n%m).toNat:Int):=(Py (Oe _ (Int.ne_of_gt hmi))).symm;have hlt:=Og n hmi;rw[e];exact q (n%m).toNat _ (by lia) ⟨o,cs,n / m,s,r,rfl,hc,Int.ediv_nonneg hn0 (by lia),Int.lt_of_le_of_lt (Int.ediv_le_self _ hn0) hn1,hs0,hs1⟩
 ·refine lY uh (dY (by decide) (cF (pK ⟨uj (by lia) (by lia),by decide +kernel⟩ (cG uh rfl) rfl) rfl) rfl) rfl rfl ?_;generalize ht:(s*48271+1009)%2147483647=t;have ht0:0<=t/\t<2147483647:=by lia
  refine bc (dY (by decide) (pK ⟨uj (by lia) (by lia),uj (by lia) (by lia)⟩ (cF (dY (by decide) (cG uh rfl) rfl) rfl) (cF (gg ⟨by decide,by decide +kernel⟩ (cG uh rfl) rfl) rfl)) rfl) rfl (by decide) ?_;generalize hv:(t%65521+17)*(t / 31+7)%2147483587=v;have hv0:0<=v:=by rw[<- hv];exact Oe _ (by decide)
  refine bK (dY hmi (gg ⟨by decide,by decide +kernel⟩ rfl rfl) rfl) rfl (je rfl ?_);have e:v / 11%m=((v / 11%m).toNat:Int):=(Py (Oe _ (Int.ne_of_gt hmi))).symm;have hlt:=Og (v / 11) hmi;show Q (.sh,.int (v / 11%m),_);rw[e];exact q (v / 11%m).toNat _ (by lia) ⟨o,cs,n,t,r,rfl,hc,hn0,hn1,ht0.1,ht0.2⟩
theorem A5{m:Nat}(hm:0<m)(hm2:m<2^64){w:Int}{ds:List D}(h:Pt w ds){Q:Kd×D×List (Option i8)->Prop}(q:∀r ds',r<m->Pt w ds'->Q (.sh,iD r,[P6 (k0,.nd (.dic 0 potK) ds'),P7])):Wp (AL [(k0,.nd (.dic 0 potK) ds),(.fz,iD m)]) Q:=by
 obtain⟨o,cs,n,s,r,rfl,hc,hn0,hn1,hs0,hs1⟩:=h;unfold AL;refine x3 rfl ?_;have tail:=λds h=>vf hm hm2 (ds:=ds) h q;unfold HR at tail⊢;refine Lv (λk Z=>∃cs n,cs.length=k/\k<=63/\0<=n/\n<10^60/\Z=[cc (A4 o cs n s r w),fS (iD m),P7,P7]) (M9 hc (by decide)) ⟨cs,n,rfl,hc,hn0,hn1,rfl⟩ λk Z hI=>?_;obtain⟨cs,n,rfl,hc,hn0,hn1,rfl⟩:=hI;refine xV (wv (pF (Im (cG Cj rfl) rfl) λ_=>pF (kM (cG lX rfl) rfl) λ_=>jg (va (hUq (cG ug rfl) (congrArg P6 (MB _))) rfl)) ⟨λ_=>tail _ ⟨o,cs,n,s,r,rfl,hc,hn0,hn1,hs0,hs1⟩,λe=>?_⟩);simp only[MA,decide_eq_true_eq] at e;obtain⟨_,_,hp⟩:=e
 cases cs with
 |nil=>simp at hp
 |cons c cs=>
  refine lY lX (dY (by decide) (eC (cG ug rfl) rfl (.inl rfl) rfl rfl) rfl) rfl rfl ?_;refine lY ug (x:=(.fr k0,.lst (cs.map .int))) ?_ rfl rfl (ca ⟨_,cs.length,rfl,by rw[MY];lia,cs,c%10^60,rfl,by rw[MY] at hc;lia,Oe _ (by decide),Og _ (by decide),rfl⟩);refine az (jc (wv (cG ug rfl) (eA (bi ⟨1,rfl,iS ⟨(.fr bj,.lst (d7 ((c::cs).map .int) (P6 1) P7)),rfl,?_⟩⟩))));unfold d7;rw[show(P6 (1:Int))=P6 ((1:Nat):Int) from rfl,HT.dA,HT.gy,MB,MY,Od (by lia),MU,List.drop_succ_cons,List.drop_zero,Nat.add_sub_cancel,NO (by rw[MB];exact MH _)]
section
variable {U:GG} {Z:Ro} {i:Nat} {ds:List D} {m c:Nat} {w:Int} {a e:IE} {Q:Kd×D×Ro->Prop}
theorem pN(hU:U.fm 11=P6 AL)(hZ:Z[i]?=P6 (cc ds))(hp:Pt w ds)(hm:0<m)(hm2:m<2^64)(he:aa U.fn e Z=P6 (.sh,iD m))(q:∀r ds',r<m->Pt w ds'->Q (.sh,iD r,Z.set i (cc ds'))):Wp (aH U (.io 11 (.ref i (.val (.p e) .nil))) Z) Q:=by
 refine lR hU (f9 hZ (dl (bt (wv he ⟨rfl,f8 ⟨by simp[cy],[(k0,.nd (.dic 0 potK) ds),(.fz,iD m)],?_,A5 hm hm2 hp λr ds' hr hp'=>⟨rfl,rfl,q r ds' hr hp'⟩⟩⟩))))
 show(match Z[i]?,P6 [(Ow.fz,iD m)] with|some (P6 ⟨Qb,k,d⟩),P6 ks=>P6 ((k,d)::ks)|_,_=>P7)=_
 rw[hZ]
theorem hZq(hU:U.fm 11=P6 AL)(hZ:Z[i]?=P6 (cc ds))(hp:Pt w ds)(hm:0<m)(hm2:m<2^64)(ha:aa U.fn a Z=P6 (.sh,iD c))(he:aa U.fn e Z=P6 (.sh,iD m))(q:∀r ds',r<m->Pt w ds'->Q (.sh,iD (c+r),Z.set i (cc ds'))):Wp (aH U (.bin .Add (.cons (.p a) (.fin (.io 11 (.ref i (.val (.p e) .nil))) .nil))) Z) Q:=by
 refine xT (aG (bt (wv ha ⟨rfl,bu (pN hU hZ hp hm hm2 he λr ds' hr hp'=>aY ⟨_,_,rfl,rf ?_⟩)⟩)));rw[<- N3];exact q r ds' hr hp'
theorem Fc(h:Wp (aS U as Z) λp=>∃x y b,p.1=[x,y]/\aT op x.2 y.2=P6 b/\Q (.sh,.bl b,p.2)):Wp (aH U (.cmp op as) Z) Q:=by
 rw[Ag];exact ph (h.mono λp ⟨x,y,b,e,hb,q⟩=>⟨(.sh,.bl b),by rw[e];show bV (aT op x.2 y.2)=_;rw[hb];rfl,q⟩)
end
section
variable {U:GG} {N:Nat} {pn:List Nat} {Q:Res->Prop} {rest:bC} {Z:Ro} {ds:List D} {m c:Nat} {w:Int} {a e:IE} {i j:Nat}
theorem iV(hU:U.fm 11=P6 AL)(hZ:Z[i]?=P6 (cc ds))(hp:Pt w ds)(hm:0<m)(hm2:m<2^64)(he:aa U.fn e Z=P6 (.sh,iD m))(hj:j∉pn)(q:∀r ds',r<m->Pt w ds'->Wp (aP U N rest pn ((Z.set i (cc ds')).set j (fS (iD r)))) Q):Wp (aP U N (.cons (.asg j (.io 11 (.ref i (.val (.p e) .nil)))) rest) pn Z) Q:=
 cD (pN hU hZ hp hm hm2 he λr ds' hr hp'=>⟨⟨rfl,hj⟩,q r ds' hr hp'⟩)
theorem jL(hU:U.fm 11=P6 AL)(hZ:Z[i]?=P6 (cc ds))(hp:Pt w ds)(hm:0<m)(hm2:m<2^64)(ha:aa U.fn a Z=P6 (.sh,iD c))(he:aa U.fn e Z=P6 (.sh,iD m))(hj:j∉pn)(q:∀r ds',r<m->Pt w ds'->Wp (aP U N rest pn ((Z.set i (cc ds')).set j (fS (iD (c+r))))) Q):Wp (aP U N (.cons (.asg j (.bin .Add (.cons (.p a) (.fin (.io 11 (.ref i (.val (.p e) .nil))) .nil)))) rest) pn Z) Q:=
 cD (hZq hU hZ hp hm hm2 ha he λr ds' hr hp'=>⟨⟨rfl,hj⟩,q r ds' hr hp'⟩)
end
theorem qy{most:Nat}(hm:most<=9){w:Int}(hw:0<=w){ds:List D}(h:Pt w ds){Q:Kd×D×List (Option i8)->Prop}(q:∀(r:Nat) ds',r<=9->Pt (w-r) ds'->Q (.sh,iD r,[P6 (k0,.nd (.dic 0 potK) ds'),P7])):Wp (Jm [(k0,.nd (.dic 0 potK) ds),(.fz,iD most)]) Q:=by
 unfold Jm;refine x3 rfl ?_;unfold FO;refine cD (xU (aG (bt (wv rfl ⟨rfl,bu (rg (bu (Fc (bu (pN rfl rfl h (by decide) (by decide) rfl λr1 ds1 _ h1=>br (bi (aY ⟨_,_,decide ((r1:Int)=0),rfl,?_,aY ?_⟩)))))))⟩))))
 ·exact pR (tN rfl)
 refine wv (yp _) (aY ⟨_,_,rfl,?_⟩)
 obtain⟨g,hg,eg⟩:∃g:Nat,g<=9/\sr (P6 (Kd.fr k0,D.lst [iD most,.int 9])) (P6 (Kd.sh,bD (decide ((r1:Int)=0))))=P6 (.sh,iD g):=by
  cases decide ((r1:Int)=0)
  ·exact⟨most,hm,rfl⟩
  ·exact⟨9,by lia,rfl⟩
 refine wv eg ⟨⟨rfl,by decide⟩,?_⟩;obtain⟨o,cs,n,s,r,rfl,hh⟩:=h1;refine cD (rg (aG (bt (wv (cG yt rfl) ⟨rfl,bu (pN (m:=g+1) rfl rfl ⟨o,cs,n,s,r,rfl,hh⟩ (by lia) (by lia) ((cF rfl rfl).trans rfl) λr2 ds2 hr2 h2=>aY (xR ⟨⟨rfl,by decide⟩,?_⟩))⟩))))
 obtain⟨b,hb,hbw,eb⟩:∃b:Nat,b<=9/\(b:Int)<=w/\(if(r2:Int)<w then(r2:Int) else w)=b:=by
  by_cases hlt:(r2:Int)<w
  ·exact⟨r2,by lia,by lia,if_pos hlt⟩
  ·exact⟨w.toNat,by lia,by lia,by rw[if_neg hlt];lia⟩
 rw[eb];obtain⟨o,cs,n,s,r,rfl,hh⟩:=h2
 have tail:∀b:Nat,b<=9->(b:Int)<=w->Wp (aP U_12 1000 (dr FO 3) [0] [cc (A4 o cs n s r w),fS (iD most),fS (iD g),fS (iD b)]) λr=>Wp (fU 2 [0] (P6 r)) Q:=λb hb hbw=>by
  unfold FO;refine lY yt (bJ (cG yt rfl) rfl) rfl rfl ?_;exact bK rfl rfl (je rfl (q b _ hb ⟨o,cs,n,s,r,rfl,hh⟩))
 unfold FO at tail;refine gf (u9 (cG ui rfl) rfl) (λ_=>?_) λ_=>dX (tail b hb hbw);exact bc rfl rfl (by decide) (dX (tail 0 (by lia) (by lia)))
noncomputable abbrev kR:=Str×Nat
noncomputable abbrev Js(x:Str):D:=.tup [.str "name",.str x]
noncomputable abbrev Mx(p:kR):D:=.tup [Js p.1,iD p.2]
noncomputable abbrev yN(ls:List kR):D:=.lst (ls.map Mx)
theorem Ck{α:Type}{t:α->Bool}{f g:α->D}{fe:D->Option (Option KD)}:∀{l:List α},(∀a∈l,∃kd,fe (f a)=P6 (if t a=P8 then P6 (kd,g a) else P7)/\bB r (kd,g a)=P8)->aM r fe (l.map f)=P6 ((l.filter t).map g)
 |[],_=>rfl
 |a::l,h=>by
  obtain⟨kd,e,hf⟩:=h a M1;rw[MU,aM,e,Ck λx hx=>h x (MS _ hx)];by_cases ht:t a=P8
  ·rw[if_pos ht]
   show(if bB r (kd,g a)=P8 then P6 (g a::(l.filter t).map g) else P7)=_
   rw[if_pos hf,O4 ht,MU]
  ·rw[if_neg ht,O5 ht]
theorem Fd{z:Bool}(hn:bI [(1,d),(2,d')] Z0=P8)(ht:aC U t (setAll [(1,d),(2,d')] Z0)=P6 z)(he:aa U e (setAll [(1,d),(2,d')] Z0)=P6 (kd,y)):dH (.tp [.nm 1,.nm 2]) (cw U (.som t)) (aa U e) Z0 (.tup [d,d'])=P6 (if z=P8 then P6 (kd,y) else P7):=by
 show(if bI [(1,d),(2,d')] Z0=P8 then(match aC U t (setAll [(1,d),(2,d')] Z0) with|some P8=>(aa U e (setAll [(1,d),(2,d')] Z0)).map P6|some Qb=>P6 P7|none=>P7) else P7)=_
 rw[if_pos hn,ht,he]
 cases z<;>rfl
structure Gw(L:Str->Nat)(ls:List kR)(wd dp:Nat)(f:Fo):Prop where
 wf:Wf L f
 wid:wid L f=wd
 dep:dep f<=dp
 al:Al (Pc L λx=>x∈ls.map (·.1)) f
section
variable {L:Str->Nat} {ls:List kR} (hL:∀p∈ls,L p.1=p.2) (hls:ls.length<=100) {w:Int}
include hL hls
theorem A6{wd:Nat}(h1:1<=wd)(h8:wd<=8){ds:List D}(h:Pt w ds){Q:Kd×D×List (Option i8)->Prop}(q:∀f ds',Gw L ls wd 0 f->Pt w ds'->Q (.sh,dt f,[P6 (k0,.nd (.dic 0 potK) ds'),P7,P7])):Wp (Jn [(k0,.nd (.dic 0 potK) ds),(.fz,yN ls),(.fz,iD wd)]) Q:=by
 unfold Jn;refine x3 rfl ?_;unfold KN;let sm:List kR:=ls.filter λp=>decide (p.2=wd);have hsl:sm.length<=ls.length:=List.length_filter_le _ _;refine bc (x:=(.fr k0,.lst (sm.map λp=>Js p.1))) ?_ rfl (by decide) ?_
 ·refine az (hG (xO (wv rfl (m9 rfl ⟨by rw[MB];lia,wv (Ck λp hp=>⟨.sh,Fd rfl ((kM rfl rfl).trans (by rw[decide_eq_decide.mpr Int.ofNat_inj])) rfl,rfl⟩) rfl⟩))))
 have hlen:∀{U:Nat->Option Fn} {s0 s1 s2 s4:Option Sl},aa U (.blt "len" (.cons (.var 3) .nil)) [s0,s1,s2,P6 ⟨Qb,k0,.lst (sm.map λp=>Js p.1)⟩,s4]=P6 (.sh,iD sm.length):=λ{_ _ _ _ _}=>hUq rfl (congrArg P6 (MB _));refine iV (m:=sm.length+1) rfl rfl h (by lia) (by lia) ((cF hlen rfl).trans rfl) (by decide) λat_ ds1 ha hp=>?_;refine gf (u9 rfl hlen) (λe=>?_) λe=>dX ?_
 ·have hlt:at_<sm.length:=by have:=of_decide_eq_true e;lia
  have hm:sm[at_]∈ls/\sm[at_].2=wd:=by
   have:=O6.mp (PZ hlt);exact⟨this.1,of_decide_eq_true this.2⟩
  refine bK (eC rfl rfl (.inl rfl) rfl (by rw[MF,MK hlt];rfl)) rfl (dW (je rfl ?_));have hw:L sm[at_].1=wd:=(hL _ hm.1).trans hm.2;exact q (.name sm[at_].1) _ ⟨trivial,hw,MH _,⟨by show L _<=8;rw[hw];exact h8,λx e=>by cases e;exact M2.mpr ⟨_,hm.1,rfl⟩⟩⟩ hp
 ·refine dF (dI (aG (bt (bi ⟨rfl,aG (bt (wv rfl ⟨rfl,bu (pN rfl rfl hp ?_ ?_ (lS (by decide) (by lia) rfl rfl) λv ds2 hv hp2=>aY (dJ rfl ⟨rfl,je rfl (q (.num wd v) _ ⟨?_,rfl,MH _,⟨h8,λx e=>by cases e⟩⟩ hp2)⟩))⟩))⟩))))
  ·rw[No];exact Nj _
  ·rw[No];exact Ov (by decide) (by lia)
  ·show v<2^wd;rw[<- No];exact hv
end
noncomputable abbrev gr(n:Nat):Fm:=recM U_14 15 1000 4 9 [0] EL n
example:LV=gr 40:=rfl
noncomputable abbrev ig(ds:List D):D:=.nd (.dic 0 potK) ds
noncomputable def GC(L:Str->Nat)(ls:List kR)(w:Int)(n dp:Nat):Prop:=∀wd,1<=wd->wd<=8->∀ds,Pt w ds->∀Q:Kd×D×List (Option i8)->Prop,(∀f ds',Gw L ls wd dp f->Pt w ds'->Q (.sh,dt f,[P6 (k0,ig ds'),P7,P7,P7]))->Wp (gr n [(k0,ig ds),(.fz,yN ls),(.fz,iD wd),(.fz,iD dp)]) Q
section
variable {L:Str->Nat} {ls:List kR} {w:Int}
theorem dq{U:GG}{n dp wd:Nat}{Q:Kd×D×Ro->Prop}(hU:U.fm 15=P6 (gr n))(g:GC L ls w n dp)(h1:1<=wd)(h8:wd<=8)(hp:Pt w ds)(he:aa U.fn ew (cc ds::fS (yN ls)::Z')=P6 (.sh,iD wd))(hd:aa U.fn ed (cc ds::fS (yN ls)::Z')=P6 (.sh,iD dp))(q:∀f ds',Gw L ls wd dp f->Pt w ds'->Q (.sh,dt f,cc ds'::fS (yN ls)::Z')):Wp (aH U (.io 15 (.ref 0 (.val (.p (.var 1)) (.val (.p ew) (.val (.p ed) .nil))))) (cc ds::fS (yN ls)::Z')) Q:=
 lR hU (f9 rfl (dl (bt (wv rfl ⟨rfl,dl (bt (wv he ⟨rfl,dl (bt (wv hd ⟨rfl,f8 ⟨by simp[cy],[(k0,ig ds),(.fz,yN ls),(.fz,iD wd),(.fz,iD dp)],rfl,g wd h1 h8 ds hp _ λf ds' hf hp'=>⟨rfl,rfl,q f ds' hf hp'⟩⟩⟩))⟩))⟩))))
theorem ID{way:Nat}(h:3<way)(h9:way<9){U:Nat->Option Fn}{Z:Ro}(hv:aa U (.var 4) Z=P6 (.sh,iD way)):∃o,aa U (.ix (.lst (.own [] .fz) (.cons (sL "and") (.cons (sL "or") (.cons (sL "xor") (.cons (sL "plus") (.cons (sL "minus") .nil)))))) (.bin .Sub (.var 4) (nL 4))) Z=P6 (.sh,.str (EO o)):=by
 have hw:way=4\/way=5\/way=6\/way=7\/way=8:=by lia
 rcases hw with rfl|rfl|rfl|rfl|rfl
 ·exact⟨.and,eC (k:=.fr k0) rfl (bJ hv rfl) (.inl rfl) rfl rfl⟩
 ·exact⟨.or,eC (k:=.fr k0) rfl (bJ hv rfl) (.inl rfl) rfl rfl⟩
 ·exact⟨.xor,eC (k:=.fr k0) rfl (bJ hv rfl) (.inl rfl) rfl rfl⟩
 ·exact⟨.plus,eC (k:=.fr k0) rfl (bJ hv rfl) (.inl rfl) rfl rfl⟩
 ·exact⟨.minus,eC (k:=.fr k0) rfl (bJ hv rfl) (.inl rfl) rfl rfl⟩
theorem IF{way:Nat}(h:11<way)(h9:way<14){U:Nat->Option Fn}{Z:Ro}(hv:aa U (.var 4) Z=P6 (.sh,iD way)):∃s:Bool,aa U (.ix (.lst (.own [] .fz) (.cons (sL "same") (.cons (sL "less") .nil))) (.bin .Sub (.var 4) (nL 12))) Z=P6 (.sh,.str (if s then "less" else "same")):=by
 have hw:way=12\/way=13:=by lia
 rcases hw with rfl|rfl
 ·exact⟨Qb,eC (k:=.fr k0) rfl (bJ hv rfl) (.inl rfl) rfl rfl⟩
 ·exact⟨P8,eC (k:=.fr k0) rfl (bJ hv rfl) (.inl rfl) rfl rfl⟩
theorem kU{U:Nat->Option Fn}{s0 s1 s2:Option Sl}{Z':Ro}{dp:Nat}:aa U (.bin .Sub (.var 3) (nL 1)) (s0::s1::s2::fS (iD (dp+1))::Z')=P6 (.sh,iD dp):=by
 rw[bJ rfl rfl];congr 3
 lia
noncomputable abbrev rG(ds:List D)(ls:List kR)(wd dp way:Nat)(s5 s6 s7 s8:Option Sl):Ro:=[cc ds,fS (yN ls),fS (iD wd),fS (iD (dp+1)),fS (iD way),s5,s6,s7,s8]
theorem Fe{Q:Kd×D×List (Option i8)->Prop}(hb:aX kd=Qb)(q:Q (kd,d,[P6 (k0,ig ds),P7,P7,P7])):Wp (fU 4 [0] (P6 (.rt kd d (cc ds::Z')))) Q:=je hb q
theorem rE{n dp wd way:Nat}(g:GC L ls w n dp)(h1:1<=wd)(h8:wd<=8)(hw3:3<=way)(hw14:way<14){ds:List D}(hp:Pt w ds){Q:Kd×D×List (Option i8)->Prop}(q:∀f ds',Gw L ls wd (dp+1) f->Pt w ds'->Q (.sh,dt f,[P6 (k0,ig ds'),P7,P7,P7])) :
  Wp (aP (U_14.addM 15 (gr n)) 1000 (dr EL 3) [0] (rG ds ls wd dp way P7 P7 P7 P7)) λr=>Wp (fU 4 [0] (P6 r)) Q:=by
 have hU:(U_14.addM 15 (gr n)).fm 15=P6 (gr n):=rfl;have hU':(U_14.addM 15 (gr n)).fm 11=P6 AL:=rfl;unfold EL;refine gf (kM rfl rfl) (λ_=>?_) λe3=>dX ?_
 ·refine dF (dI (aG (bt (bi ⟨rfl,bu (dq hU g h1 h8 hp rfl kU λa ds1 ha hp1=>aY (dJ rfl ⟨rfl,dW (Fe rfl (q (.not a) _ ⟨ha.wf,ha.wid,?_,⟨?_,λx e=>by cases e⟩,ha.al⟩ hp1))⟩))⟩))))
  ·have:=ha.dep;show dep a+1<=_;lia
  ·show wid L a<=8;rw[ha.wid];exact h8
 have e3:¬way=3:=by have:=of_decide_eq_false e3;lia
 refine gf (u9 rfl rfl) (λe=>?_) λe9=>dX ?_
 ·have e:way<9:=by have:=of_decide_eq_true e;lia
  refine cD (dq hU g h1 h8 hp rfl kU λa ds1 ha hp1=>⟨⟨rfl,by decide⟩,?_⟩);obtain⟨o,ho⟩:=ID (by lia) e (Z:=rG ds1 ls wd dp way (fS (dt a)) P7 P7 P7) rfl;refine dF (dI (aG (bt (wv ho ⟨rfl,aG (bt (wv rfl ⟨rfl,bu (dq hU g h1 h8 hp1 rfl kU λb ds2 hb hp2=>aY (dJ (r:=(.sh,.tup [.str (EO o),dt a,dt b])) rfl ⟨rfl,dW (Fe rfl (q (.two o a b) _ ⟨⟨ha.wf,hb.wf,ha.wid.trans hb.wid.symm⟩,ha.wid,?_,⟨?_,λx e=>by cases e⟩,ha.al,hb.al⟩ hp2))⟩))⟩))⟩))))
  ·have:=ha.dep;have:=hb.dep;show max (dep a) (dep b)+1<=_;lia
  ·show wid L a<=8;rw[ha.wid];exact h8
 have e9:¬way<9:=by have:=of_decide_eq_false e9;lia
 refine gf (kM rfl rfl) (λe=>?_) λe99=>dX ?_
 ·refine cD (dq (wd:=1) hU g (by lia) (by lia) hp rfl kU λc ds1 hc hp1=>⟨⟨rfl,by decide⟩,?_⟩);refine cD (dq hU g h1 h8 hp1 rfl kU λa ds2 ha hp2=>⟨⟨rfl,by decide⟩,?_⟩);refine dF (dI (aG (bt (bi ⟨rfl,aG (bt (wv rfl ⟨rfl,aG (bt (wv rfl ⟨rfl,bu (dq hU g h1 h8 hp2 rfl kU λb ds3 hb hp3=>aY (dJ (r:=(.sh,.tup [.str "if",dt c,dt a,dt b])) rfl ⟨rfl,dW (Fe rfl (q (.ite c a b) _ ⟨⟨hc.wf,ha.wf,hb.wf,hc.wid,ha.wid.trans hb.wid.symm⟩,ha.wid,?_,⟨?_,λx e=>by cases e⟩,hc.al,ha.al,hb.al⟩ hp3))⟩))⟩))⟩))⟩))))
  ·have:=ha.dep;have:=hb.dep;have:=hc.dep;show max (dep c) (max (dep a) (dep b))+1<=_;lia
  ·show wid L a<=8;rw[ha.wid];exact h8
 refine gf (pF (kM rfl rfl) λ_=>jg (va rfl rfl)) (λe=>?_) λe10=>dX ?_
 ·have e:1<wd:=by simp only[MA,decide_eq_true_eq] at e;lia
  refine jL (c:=1) (m:=wd-1) hU' rfl hp (by lia) (by lia) rfl ((bJ rfl rfl).trans (by congr 3;lia)) (by decide) λr ds1 hr hp1=>?_;refine cD (dq hU g (by lia) (by lia) hp1 rfl kU λa ds2 ha hp2=>⟨⟨rfl,by decide⟩,?_⟩);refine dF (dI (aG (bt (bi ⟨rfl,aG (bt (wv rfl ⟨rfl,bu (dq (wd:=wd-(1+r)) hU g (by lia) (by lia) hp2 ((bJ rfl rfl).trans (by congr 3;lia)) kU λb ds3 hb hp3=>aY (dJ rfl ⟨rfl,dW (Fe rfl (q (.join a b) _ ⟨⟨ha.wf,hb.wf⟩,?_,?_,⟨?_,λx e=>by cases e⟩,ha.al,hb.al⟩ hp3))⟩))⟩))⟩))))
  ·show wid L a+wid L b=wd;rw[ha.wid,hb.wid];lia
  ·have:=ha.dep;have:=hb.dep;show max (dep a) (dep b)+1<=_;lia
  ·show wid L a+wid L b<=8;rw[ha.wid,hb.wid];lia
 refine gf (pF (va rfl rfl) λ_=>jg (kM rfl rfl)) (λe=>?_) λe11=>dX ?_
 ·have e:11<way/\wd=1:=by simp only[MA,decide_eq_true_eq] at e;lia
  refine jL (c:=1) (m:=8) hU' rfl hp (by lia) (by lia) rfl rfl (by decide) λr ds1 hr hp1=>?_;refine cD (dq hU g (by lia) (by lia) hp1 rfl kU λa ds2 ha hp2=>⟨⟨rfl,by decide⟩,?_⟩);obtain⟨s,hs⟩:=IF e.1 hw14 (Z:=rG ds2 ls wd dp way (fS (dt a)) P7 P7 (fS (iD (1+r)))) rfl;refine dF (dI (aG (bt (wv hs ⟨rfl,aG (bt (wv rfl ⟨rfl,bu (dq hU g (by lia) (by lia) hp2 rfl kU λb ds3 hb hp3=>aY (dJ rfl ⟨rfl,dW (Fe rfl (q (.cmp s a b) _ ⟨⟨ha.wf,hb.wf,ha.wid.trans hb.wid.symm⟩,e.2.symm,?_,⟨?_,λx e=>by cases e⟩,ha.al,hb.al⟩ hp3))⟩))⟩))⟩))))
  ·have:=ha.dep;have:=hb.dep;show max (dep a) (dep b)+1<=_;lia
  ·show 1<=8;lia
 refine jL (m:=9-wd) hU' rfl hp (by lia) (by lia) rfl ((bJ rfl rfl).trans (by congr 3;lia)) (by decide) λr ds1 hr hp1=>?_;refine iV (m:=r+1) hU' rfl hp1 (by lia) (by lia) ((cF (bJ rfl rfl) rfl).trans (by congr 3;lia)) (by decide) λlo ds2 hlo hp2=>?_;refine dF (dI (aG (bt (bi ⟨rfl,bu (dq hU g (by lia) (by lia) hp2 rfl kU λa ds3 ha hp3=>wv (e2 rfl rfl) (dJ rfl ⟨rfl,Fe rfl (q (.cut a lo wd) _ ⟨⟨ha.wf,?_⟩,rfl,?_,⟨h8,λx e=>by cases e⟩,ha.al⟩ hp3)⟩))⟩))))
 ·rw[ha.wid];lia
 ·have:=ha.dep;show dep a+1<=_;lia
variable (hL:∀p∈ls,L p.1=p.2) (hls:ls.length<=100)
include hL hls
theorem pO:∀(dp n:Nat),dp<n->GC L ls w n dp
 |dp,0,h=>absurd h (Ou _)
 |dp,n+1,hd=>by
  intro wd h1 h8 ds hp Q q;obtain⟨o,cs,nn,s,r,rfl,hh⟩:=hp;refine x3 rfl ?_;have tail:∀{d' way:Nat} {ds:List D},dp=d'+1->3<=way->way<14->Pt w ds->Wp (aP (U_14.addM 15 (gr n)) 1000 (dr EL 3) [0] (rG ds ls wd d' way P7 P7 P7 P7)) λr=>Wp (fU 4 [0] (P6 r)) Q:=λ{d' way ds} e h3 h14 hp=>rE (pO d' n (by lia)) h1 h8 h3 h14 hp (by rw[<- e];exact q);unfold EL at tail⊢;refine lY ui (bJ (cG ui rfl) rfl) rfl rfl ?_;refine iV (m:=14) rfl rfl ⟨o,cs,nn,s,r-1,rfl,hh⟩ (by lia) (by lia) rfl (by decide) λway ds1 hw hp1=>?_;obtain⟨o1,cs1,nn1,s1,r1,e1,hh1⟩:=hp1;refine gf (vb (kM rfl rfl) λ_=>vb (u9 (cG ui (by rw[e1];rfl)) rfl) λ_=>jg (u9 rfl rfl)) (λ_=>?_) λe=>dX ?_
  ·refine dF (lR rfl (f9 rfl (dl (bt (wv rfl ⟨rfl,dl (bt (wv rfl ⟨rfl,f8 ⟨by simp[cy],[(k0,ig ds1),(.fz,yN ls),(.fz,iD wd)],rfl,A6 hL hls h1 h8 ⟨o1,cs1,nn1,s1,r1,e1,hh1⟩ λf ds2 hf hp2=>⟨rfl,rfl,rfl,dW (Fe rfl (q f ds2 ⟨hf.wf,hf.wid,M0 hf.dep (M4 _),hf.al⟩ hp2))⟩⟩⟩))⟩)))))
  ·simp only[Bool.or_eq_false_iff,decide_eq_false_iff_not] at e;obtain⟨d',rfl⟩:∃d',dp=d'+1:=⟨dp-1,by lia⟩;exact tail rfl (by lia) hw ⟨o1,cs1,nn1,s1,r1,e1,hh1⟩
end
theorem vg(c:Nat):∀n:Nat,(G.om ⟨#[c]⟩ n).cps.toList=Nh n c:=by
 have key:∀(n:Nat) (a:Array Nat),((Nh n (#[c]:Array Nat)).foldl (·++·) a).toList=a.toList++Nh n c:=by
  intro n
  induction n with
  |zero=>intro a;simp
  |succ n ih=>
   intro a;rw[Ob,Pa,ih];simp[Ob]
 intro n;have:=key n #[];simpa[G.om] using this
theorem yu{a b:Str}(h:a.cps.toList=b.cps.toList):a=b:=by
 obtain⟨a⟩:=a;obtain⟨b⟩:=b;have:a=b:=Array.toList_inj.mp h;rw[this]
theorem yw(a b:Str):(a++b).cps.toList=a.cps.toList++b.cps.toList:=Array.toList_append
theorem pP(x:Str):x.length=x.cps.toList.length:=(NY).symm
noncomputable abbrev c1(c:Nat):Str:=⟨#[c]⟩
noncomputable def fV(l:List Nat):Str:=⟨l.toArray⟩
theorem A7(h:fV a=fV b):a=b:=by
 have:(fV a).cps.toList=(fV b).cps.toList:=by rw[h]
 simpa[fV] using this
section
variable {U:Nat->Option Fn} {Z:Ro} {a b:IE}
theorem yx{c n:Nat}(hn:n<=1000)(ha:aa U a Z=P6 (.sh,.str (c1 c)))(hb:aa U b Z=P6 (.sh,iD n)):aa U (.bin .Mult a b) Z=P6 (.sh,.str (fV (Nh n c))):=by
 refine az (bP (wv ha (wv hb ⟨_,if_pos (show(n:Int)<=100000/\(0:Int)<=n/\(c1 c).length<=100 from⟨by lia,by lia,by show 1<=100;decide⟩),?_⟩)));rw[Nx,show G.om (c1 c) n=fV (Nh n c) from yu (by rw[vg];rfl)]
theorem rF{x y:List Nat}(hl:x.length+y.length<=1000)(ha:aa U a Z=P6 (.sh,.str (fV x)))(hb:aa U b Z=P6 (.sh,.str (fV y))):aa U (.bin .Add a b) Z=P6 (.sh,.str (fV (x++y))):=by
 have hx:(fV x).length=x.length:=by rw[pP];rfl
 have hy:(fV y).length=y.length:=by rw[pP];rfl
 refine az (bP (wv ha (wv hb ⟨_,if_pos (show(fV x).length+(fV y).length<=100000 by lia),?_⟩)));rw[show fV x++fV y=fV (x++y) from yu (by rw[yw];rfl)]
end
noncomputable abbrev sgs:List Nat:=[98,99,100,102,103,104,106,107,108,109,110,112,114,115,116,118,119,120,121,122]
noncomputable abbrev fls:List Nat:=[113,106,118]
theorem Ff:mE "bcdfghjklmnprstvwxyz" = sgs.map λc=>.str (c1 c):=by
 unfold mE;rw[show("bcdfghjklmnprstvwxyz":Str).cps.toList=sgs from by decide +kernel]
theorem Fg:mE "qjv" = fls.map λc=>.str (c1 c):=by
 unfold mE;rw[show("qjv":Str).cps.toList=fls from by decide +kernel]
noncomputable def n1(a b f s:Nat):List Nat:=Nh a f++[s]++Nh b f
noncomputable def vh(a b:Nat)(fs:List Nat):List (List Nat):=fs.flatMap λf=>sgs.map λs=>n1 a b f s
theorem Fh{a b f s f' s':Nat}(h:1<=a+b)(e:n1 a b f s=n1 a b f' s'):f=f'/\s=s':=by
 unfold n1 at e
 have hs:s=s':=by
  have:=congrArg (λl=>l[a]?) e;simpa using this
 refine⟨?_,hs⟩;by_cases ha:0<a
 ·have:=congrArg (λl=>l[0]?) e;simpa[ha,Nq,N0] using this
 ·have ha:a=0:=by lia
  subst ha;have hb:0<b:=by lia
  have:=congrArg (λl=>l[1]?) e;simpa[hb,N0] using this
theorem pair_nd:(fls.flatMap λf=>sgs.map λs=>(f,s)).Nodup:=by decide +kernel
theorem Fk{a b:Nat}(h:1<=a+b):(vh a b fls).Nodup:=by
 have e:vh a b fls=(fls.flatMap λf=>sgs.map λs=>(f,s)).map λp=>n1 a b p.1 p.2:=by
  unfold vh;rw[List.map_flatMap];simp only[M5];rfl
 rw[e];unfold List.Nodup;rw[OT];refine pair_nd.imp λ{p q} hpq e=>hpq ?_;obtain⟨h1,h2⟩:=Fh h e;exact Prod.ext h1 h2
theorem A8{a b:Nat}:(vh a b fls).length=60:=by
 unfold vh;simp
noncomputable abbrev bgs:List Nat:=[98,100,103,104,107,109,110,112]
noncomputable def n2(k:Nat):List Nat:=bgs.getD (k / 8) 0::Nh (k%8) 113
noncomputable def nmB:List (List Nat):=(Np 60).map n2
theorem Fl:nmB.Nodup:=by decide +kernel
theorem A9:nmB.length=60:=by unfold nmB;rw[MB,N6]
noncomputable def FR(na:List (List Nat))(f st:Nat):List (List Nat):=(Np 60).map λk=>na.getD ((f+st*k)%60) []
noncomputable def strides:List Nat:=[1,7,11,13,17,19,23,29]
theorem Fp{f st i j:Nat}(hs:st∈strides)(hi:i<60)(hj:j<60)(e:(f+st*i)%60=(f+st*j)%60):i=j:=by
 simp only[strides,ML,Nb,or_false] at hs
 rcases hs with rfl|rfl|rfl|rfl|rfl|rfl|rfl|rfl<;>lia
theorem Fs{na:List (List Nat)}(hn:na.Nodup)(hl:na.length=60){f st:Nat}(hs:st∈strides):(FR na f st).Nodup:=by
 unfold FR List.Nodup;rw[OT];refine List.Pairwise.imp_of_mem (λ{i j} hi hj hij e=>hij ?_) List.nodup_range;rw[Oy] at hi hj;have hi':(f+st*i)%60<na.length:=by lia
 have hj':(f+st*j)%60<na.length:=by lia
 rw[NU,NU,MK hi',MK hj'] at e;exact Fp hs hi hj ((PU hn).mp e)
theorem Ba{f st:Nat}:(FR na f st).length=60:=by unfold FR;rw[MB,N6]
noncomputable abbrev sD(l:List Nat):D:=.str (fV l)
noncomputable abbrev vj(nl:List (List Nat)):D:=.lst (nl.map sD)
theorem Bb{U:GG}{Z:Ro}{i:Nat}{ds ys:List D}{Q:Kd×D×Ro->Prop}(h:Z[i]?=P6 (P6 ⟨Qb,k0,.lst ds⟩))(he:aa U.fn e Z=P6 (.fr k0,.lst ys))(hl:ds.length+ys.length<=100000)(q:Q (.sh,.non,Z.set i (P6 ⟨Qb,k0,.lst (ds++ys)⟩))):Wp (aH U (.mut "extend" (.nm i) (.cons e .nil)) Z) Q:=by
 refine⟨_,?_,q⟩;rw[mT,e1 he];show qL "extend" i (oP Z[i]?) (P6 [(.fr k0,.lst ys)]) Z=_;rw[h]
 show(match oQ "extend" [] .fz ds [(.fr k0,.lst ys)],Z[i]? with|some (d',ds'),P6 (P6 ⟨Qb,k,_⟩)=>P6 (Kd.sh,d',Z.set i (P6 ⟨Qb,k,id (.lst ds')⟩))|_,_=>P7)=_
 have hm:oQ "extend" [] .fz ds [(.fr k0,.lst ys)]=P6 (.non,ds++ys):=by
  show(if lF (.own [] .fz)=P8/\i3 (.fr k0) ys=P8/\aX (.fr k0)=Qb/\ds.length+ys.length<=100000 then P6 (D.non,ds++ys) else P7)=_
  exact if_pos ⟨rfl,rfl,rfl,hl⟩
 rw[hm,h];rfl
noncomputable abbrev rN(ds:List D)(sz a:Nat)(nl:List (List Nat))(s4 s5 s6:Option Sl):Ro:=[cc ds,fS (iD sz),fS (iD a),P6 ⟨Qb,k0,vj nl⟩,s4,s5,s6]
theorem i_str{x:Str}:bR U (.e (.lit (.str x))) Z=P6 ([],mE x):=rfl
theorem IG:∀k,k<60->wx "bdghkmnp" ((k / 8:Nat):Int)=P6 (fV [bgs.getD (k / 8) 0]):=by decide +kernel
theorem Fu:∀k,k<8->([1,7,11,13,17,19,23,29]:List Nat)[k]?=P6 (strides.getD k 0)/\strides.getD k 0∈strides/\strides.getD k 0<30:=by decide
theorem rH{w:Int}{ds:List D}(h:Pt w ds){sz a:Nat}{na:List (List Nat)}(hn:na.Nodup)(hl:na.length=60){Q:Kd×D×List (Option i8)->Prop}(q:∀nl ds',nl.Nodup->nl.length=60->Pt w ds'->Q (.fr k0,vj nl,[P6 (k0,ig ds')])):Wp (aP U_11 1000 (dr HU 5) [0] (rN ds sz a na P7 P7 P7)) λr=>Wp (fU 1 [0] (P6 r)) Q:=by
 unfold HU;refine iV rfl rfl h (by decide) (by decide) rfl (by decide) λf ds1 hf h1=>?_;refine cD (xU (aG (bt (wv (r:=(.fr k0,.lst ([1,7,11,13,17,19,23,29].map iD))) rfl ⟨rfl,bu (pN rfl rfl h1 (by decide) (by decide) rfl λk ds2 hk h2=>aY ⟨_,_,rfl,?_⟩)⟩))));obtain⟨e1,e2,e3⟩:=Fu k hk;refine wv (BX (.inl rfl) (BY rfl hk) (by rw[MF,e1];rfl)) ⟨⟨rfl,by decide⟩,?_⟩;generalize strides.getD k 0=st at e2 e3⊢;refine bK (x:=(.fr k0,.lst ((Np 60).map λk=>sD (na.getD ((f+st*k)%60) [])))) (Lr rfl (by decide) λi hi=>ES rfl (wv ?_ ⟨.sh,rfl,rfl⟩)) rfl (je rfl ?_)
 ·have hlt:(f+st*i)%60<na.length:=by lia
  have hb:st*i<30*60:=M9 (Nat.mul_le_mul_left _ (Of hi)) (OF e3 (by decide));refine eC (k:=.bo 3 k0) (n:=(f+st*i)%60) rfl (dY (i:=((f+st*i:Nat):Int)) (by decide) ((cF rfl (pK ⟨kN (by lia),kN (by lia)⟩ rfl rfl)).trans (by rw[N3,Int.natCast_mul])) rfl) (.inl rfl) (by lia) ?_;rw[MF,NU,MK hlt];rfl
 ·have e:(.lst ((Np 60).map λk=>sD (na.getD ((f+st*k)%60) [])):D)=vj (FR na f st):=by
   unfold vj FR;rw[M5];rfl
  show Q (.fr k0,_,_);rw[e];exact q _ _ (Fs hn hl e2) Ba h2
theorem Bc{a b i f:Nat}(h:fls[i]?=P6 f):vh a b (fls.take (i+1))=vh a b (fls.take i)++sgs.map λs=>n1 a b f s:=by
 rw[fw h];unfold vh;rw[List.flatMap_append];simp
theorem yy{a b i:Nat}:(vh a b (fls.take i)).length<=60:=by
 have key:∀fs:List Nat,fs.length<=3->(vh a b fs).length<=60:=by
  intro fs h
  have:(vh a b fs).length=20*fs.length:=by
   unfold vh
   induction fs with
   |nil=>rfl
   |cons f fs ih=>
    rw[List.flatMap_cons,MX,ih (by rw[MY] at h;lia),MB];show 20+20*fs.length=20*(fs.length+1)
    lia
  lia
 exact key _ (by rw[M8];show min i 3<=3;lia)
theorem yz{w:Int}{ds:List D}(h:Pt w ds){Q:Kd×D×List (Option i8)->Prop}(q:∀nl ds',nl.Nodup->nl.length=60->Pt w ds'->Q (.fr k0,vj nl,[P6 (k0,ig ds')])):Wp (Jl [(k0,ig ds)]) Q:=by
 unfold Jl;refine x3 rfl ?_;have tail:=λds h sz a na hn hl=>rH (ds:=ds) h (sz:=sz) (a:=a) (na:=na) hn hl q;unfold HU at tail⊢;refine jL (m:=7) rfl rfl h (by decide) (by decide) rfl rfl (by decide) λr ds1 hr h1=>?_;generalize hsz:2+r=sz;refine iV rfl rfl h1 (by lia) (by lia) rfl (by decide) λa ds2 ha h2=>?_;refine bc rfl rfl (by decide) ?_;refine kO (i_str.trans (by rw[Fg])) (λi Z=>∃s4,Z=rN ds2 sz a (vh a (sz-1-a) (fls.take i)) s4 P7 P7) ⟨P7,rfl⟩ (λi d Z e hI=>?_) λZ' hI=>?_
 ·obtain⟨s4,rfl⟩:=hI;rw[MF] at e
  cases hf:fls[i]? with
  |none=>rw[hf] at e;cases e
  |some f=>
  rw[hf] at e;cases e;refine⟨[(4,.str (c1 f))],rfl,rfl,?_⟩;refine pj (Bb (ys:=sgs.map λs=>sD (n1 a (sz-1-a) f s)) rfl ?_ ?_ (ca ⟨_,.inl rfl,fS (.str (c1 f)),?_⟩))
  ·refine Cf (i_str.trans (by rw[Ff])) (by decide) λs hs=>ES rfl (wv ?_ ⟨.sh,rfl,rfl⟩);refine rF (by simp;lia) (rF (by simp;lia) (yx (by lia) rfl rfl) rfl) (yx (by lia) rfl ?_);refine(bJ (bJ rfl rfl) rfl).trans ?_;congr 3
   lia
  ·rw[MB,MB];have:=yy (a:=a) (b:=sz-1-a) (i:=i);show _+20<=_
   lia
  ·show(rN ds2 sz a _ _ P7 P7).set 3 _=_;rw[Bc hf];simp only[rN,vj,M7,M5];rfl
 ·obtain⟨s4,rfl⟩:=hI;refine BS (tR (bu (pN rfl rfl h2 (by decide) (by decide) rfl λr3 ds3 hr3 h3=>br (bi (aY ⟨_,_,rfl,tN ⟨λ_=>?_,λ_=>dX (tail ds3 h3 sz a _ (Fk (by lia)) A8)⟩⟩)))));refine bc (x:=(.fr k0,vj nmB)) ?_ rfl (by decide) (dX (tail ds3 h3 sz a _ Fl A9))
  have e:vj nmB=.lst ((Np 60).map λk=>sD (n2 k)):=by
   unfold vj nmB;rw[M5];rfl
  rw[e];refine Lr rfl (by decide) λi hi=>ES rfl (wv ?_ ⟨.sh,rfl,rfl⟩);refine rF (x:=[bgs.getD (i / 8) 0]) (by simp;lia) ?_ (yx (by lia) rfl ?_)
  ·rw[mK,gg ⟨by decide,by decide +kernel⟩ rfl rfl]
   show(if("bdghkmnp":Str).length<=100000 then(wx "bdghkmnp" ((i:Int) / 8)).map λd=>(Kd.sh,D.str d) else P7)=_
   rw[if_pos (by decide +kernel),show(i:Int) / 8=((i / 8:Nat):Int) by lia,IG i hi];rfl
  ·refine(dY (by decide) rfl rfl).trans ?_;congr 3
theorem yA{U:GG}{N:Nat}{pn:List Nat}{Z:Ro}{Q:Res->Prop}{rest:bC}{is:List Nat}{s:IS}(h:Wp (aP U N (.cons s rest) pn (frzN is Z)) Q):Wp (aP U N (.cons (.pre is s) rest) pn Z) Q:=by
 obtain⟨r,e,q⟩:=h;refine⟨r,?_,q⟩;rw[aP] at e⊢;rw[As];exact e
noncomputable abbrev zL(l:List Int):D:=.lst (l.map .int)
theorem kW(ns:List Int)(lo hi:Option Int):∃ms:List Int,d7 (ns.map D.int) lo hi=ms.map D.int/\ms.length<=HT.ji ns.length ns.length hi-HT.ji ns.length 0 lo:=by
 refine⟨(ns.drop (HT.ji ns.length 0 lo)).take (HT.ji ns.length ns.length hi-HT.ji ns.length 0 lo),?_,?_⟩
 ·unfold d7;rw[MB,OK,OL]
 ·rw[M8];lia
noncomputable def Lw:List aw:=[.inr "digits",.inr "cells",.inr "number",.inr "seed",.inr "room",.inr "rows"]
theorem Bd(xs:List aw){kds:List KD}(hk:c7 ks=P6 xs)(h:decide (xs.Nodup)=P8/\0<xs.length/\xs.length<=15/\kds.all (λkd=>i0 kd.1 kd.2)=P8):i5 ks (P6 kds)=P6 (.fr bj,.nd (.dic 0 (xs.map Sum.inl)) (kds.map (·.2))):=by
 unfold i5;rw[hk];exact if_pos h
theorem IH{n:Int}:aa U (.ix (.var 0) (nL 0)) (fS (.scr (n::ns))::Z)=P6 (.sh,.int n):=by
 show(L2.l9 (n::ns) 0).map (λd=>(Kd.sh,D.int d))=_;rw[show L2.l9 (n::ns) 0=P6 n by unfold L2.l9;rw[tO (by decide) (by simp)];rfl];rfl
theorem Fw{ns:List Int}(hl:ns.length<=63){Q:KD->Prop}(q:∀ds,Pt 24 ds->Q (.fr k0,ig ds)):Wp (Jk [.scr ns]) Q:=by
 unfold Jk;refine xZ rfl ?_;unfold KB;refine bc rfl rfl (by decide) ?_;obtain⟨ms,em,lm⟩:=kW ns P7 (P6 63);obtain⟨m1,em1,lm1⟩:=kW ns P7 (P6 1);obtain⟨m2,em2,lm2⟩:=kW ns (P6 1) (P6 63)
 have hm1:m1.length<=1:=by
  rw[show(P6 (1:Int))=P6 ((1:Nat):Int) from rfl,HT.dA,HT.gy] at lm1;lia
 have hm2:m2.length<=62:=by
  rw[show(P6 (1:Int))=P6 ((1:Nat):Int) from rfl,show(P6 (63:Int))=P6 ((63:Nat):Int) from rfl,HT.dA,HT.dA] at lm2;lia
 have sl:∀{U:Nat->Option Fn} {s1 s2 s3 s4:Option Sl},aa U (.sl (.var 0) .non (.som (nL 63))) [fS (.scr ns),s1,s2,s3,s4]=P6 (.fr k0,zL ms):=λ{_ _ _ _ _}=>az (jc (en rfl (iS (eA (bi ⟨63,rfl,⟨(.fr bj,.lst (d7 (ns.map D.int) P7 (P6 63))),rfl,by rw[em]⟩⟩)))));have sl1:∀{U:Nat->Option Fn} {s1 s2 s3 s4:Option Sl},aa U (.sl (.var 0) .non (.som (nL 1))) [fS (.scr ns),s1,s2,s3,s4]=P6 (.fr k0,zL m1):=λ{_ _ _ _ _}=>az (jc (en rfl (iS (eA (bi ⟨1,rfl,⟨(.fr bj,.lst (d7 (ns.map D.int) P7 (P6 1))),rfl,by rw[em1]⟩⟩)))));have sl2:∀{U:Nat->Option Fn} {s1 s2 s3 s4:Option Sl},aa U (.sl (.var 0) (.som (nL 1)) (.som (nL 63))) [fS (.scr ns),s1,s2,s3,s4]=P6 (.fr k0,zL m2):=λ{_ _ _ _ _}=>az (jc (en rfl (eA (bi ⟨1,rfl,eA (bi ⟨63,rfl,⟨(.fr bj,.lst (d7 (ns.map D.int) (P6 1) (P6 63))),rfl,by rw[em2]⟩⟩)⟩))));refine kO ((ff sl rfl).trans rfl) (λ_ Z=>∃t s2,(0<=t/\t<2147483629)/\Z=[fS (.scr ns),fS (.int t),s2,P7,P7]) ⟨5,P7,⟨by decide,by decide⟩,rfl⟩ (λi d Z e hI=>?_) λZ' hI=>?_
 ·obtain⟨t,s2,⟨h0,h1⟩,rfl⟩:=hI;rw[MF] at e
  cases hz:ms[i]? with
  |none=>rw[hz] at e;cases e
  |some z=>
  rw[hz] at e;cases e;refine⟨[(2,.int z)],rfl,rfl,?_⟩;refine bc (dY (by decide) (cF (cF (pK ⟨uj (by lia) (by lia),by decide +kernel⟩ rfl rfl) (dY (by decide) rfl rfl)) rfl) rfl) rfl (by decide) (ca ⟨_,.inl rfl,_,_,⟨Oe _ (by decide),Og _ (by decide)⟩,rfl⟩)
 ·obtain⟨t,s2,⟨h0,h1⟩,rfl⟩:=hI;refine bc (x:=(.fr k0,zL (m1.map (· / 2)++m2))) ?_ rfl (by decide) ?_
  ·have hc:=Cf (U:=U_5.fn) (Z:=[fS (.scr ns),fS (.int t),s2,P7,P7]) (r:=.fz) (cap:=[P7,P7]) (elt:=.bin .FloorDiv (.var 1) (nL 2)) (ff sl1 rfl) (by lia) λz hz=>ES rfl (wv (gg ⟨by decide,by decide +kernel⟩ rfl rfl) ⟨.sh,rfl,rfl⟩);refine(t7 ⟨rfl,rfl,by rw[MB,MB];lia⟩ hc sl2).trans ?_;simp only[zL,M7,M5];rfl
  ·show Wp (aP _ _ _ _ [fS (.scr ns),fS (.int t),s2,P6 ⟨Qb,k0,zL (m1.map (· / 2)++m2)⟩,P7]) _
   obtain⟨o,ho⟩:∃o,aa U_5.fn (.bool .And (.cons (.cmp .Gt (.blt "len" (.cons (.var 0) .nil)) (nL 0)) (.cons (.cmp .Eq (.bin .Mod (.ix (.var 0) (nL 0)) (nL 2)) (nL 1)) .nil))) [fS (.scr ns),fS (.int t),s2,P6 ⟨Qb,k0,zL (m1.map (· / 2)++m2)⟩,P7]=P6 (.sh,.bl o):=by
    cases ns with
    |nil=>exact⟨_,t9 (y:=Qb) (hV (va (hUq rfl rfl) rfl)) λe=>by cases e⟩
    |cons c ns=>exact⟨_,t9 (hV (va (hUq rfl rfl) rfl)) λ_=>yd (hV (kM (dY (by decide) IH rfl) rfl))⟩
   refine bc ho rfl (by decide) ?_;refine yA ?_;refine bK (x:=(.fr k0,ig (A4 o (m1.map (· / 2)++m2) 0 t 40 24))) ?_ rfl (hJ rfl (q _ ⟨o,_,0,t,40,rfl,by rw[MX,MB];lia,by decide,by decide,h0,by lia⟩));exact az (AG (wv rfl ⟨_,Bd Lw rfl ⟨by decide +kernel,by decide,by decide,rfl⟩,rfl⟩))
noncomputable abbrev dM(p:kR):D:=.tup [.str "in",.str p.1,iD p.2]
theorem Be{a b:List (List Nat)}(h:a.Nodup)(e:a=b):(b.map fV).Nodup:=by
 subst e;unfold List.Nodup;rw[OT];exact h.imp λ{x y} hxy e=>hxy (A7 e)
structure Ins(nl:List (List Nat))(ins:List kR):Prop where
 nn:ins.map (·.1)=(nl.take ins.length).map fV
 wd:∀p∈ins,1<=p.2/\p.2<=8
 le:ins.length<=9
theorem Ins.nd{nl:List (List Nat)}{ins:List kR}(h:Ins nl ins)(hn:nl.Nodup):(ins.map (·.1)).Nodup:=by
 rw[h.nn];exact Be (hn.sublist (OO _ _)) rfl
section
variable {nl:List (List Nat)} (hn:nl.length=60)
include hn
theorem yB{ns:List Int}{ds:List D}(hp:Pt 24 ds){Z':Ro}{Q:Kd×D×Ro->Prop}(q:∀ins w ds',Ins nl ins->Pt w ds'->Q (.fr k0,.lst (ins.map dM),fS (.scr ns)::cc ds'::P6 ⟨Qb,k0,vj nl⟩::Z')) :
  Wp (aH U_22 (.comp .fz [P7,P7,P7,P6 2,P6 1] (.nm 1) (.rng (.io 13 (.ref 1 (.val (.p (nL 4)) .nil)))) .non (.tup .fz (.cons (.p (sL "in")) (.cons (.p (.ix (.var 3) (.var 1))) (.fin (.bin .Add (.cons (.p (nL 1)) (.fin (.io 11 (.ref 4 (.val (.p (nL 8)) .nil))) .nil))) .nil))))) (fS (.scr ns)::cc ds::P6 ⟨Qb,k0,vj nl⟩::Z')) Q:=by
 refine tQ (m7 (lR rfl (f9 rfl (dl (bt (bi ⟨rfl,f8 ⟨by simp[cy],[(k0,ig ds),(.fz,iD 4)],rfl,qy (by decide) (by decide) hp λm ds1 hm hp1=>⟨rfl,rfl,m8 (ge (by decide) (by decide) (by show(-100000:Int)<=(m:Int);lia) (by show(m:Int)<=100000;lia) (by show(m:Int)-0<=100000;lia)) ⟨rfl,?_,?_⟩⟩⟩⟩))))))
 ·show(gN 0 (m:Int)).length<=_;rw[pi];lia
 have hlen:(gN 0 (m:Int)).length=m:=by rw[pi];lia
 refine BT (λi ys Z=>∃ins ds2,ys=ins.map dM/\ins.length=i/\i<=m/\ins.map (·.1)=(nl.take i).map fV/\(∀p∈ins,1<=p.2/\p.2<=8)/\Pt (24-m) ds2/\Z=[P7,P7,P7,P6 ⟨Qb,k0,vj nl⟩,cc ds2]) ⟨[],ds1,rfl,rfl,M4 _,rfl,λp h=>(by cases h),hp1,rfl⟩ (λi d ys Z e hI=>?_) λys Z hI=>?_
 ·obtain⟨ins,ds2,rfl,hi,him,hnm,hwd,hp2,rfl⟩:=hI;obtain⟨rfl,him2⟩:=xW e;have hi60:i<nl.length:=by lia
  rw[Int.zero_add];refine xY rfl ⟨rfl,rfl⟩ rfl ?_;refine dI (aG (bt (bi ⟨rfl,aG (bt (wv (eC rfl rfl (.inl rfl) rfl (by rw[MF,MK hi60];rfl)) ⟨rfl,bu (hZq (m:=8) rfl rfl hp2 (by decide) (by decide) rfl rfl λr ds3 hr hp3=>aY (dJ rfl ⟨_,rfl,rfl,ins++[(fV nl[i],1+r)],ds3,?_,?_,by lia,?_,?_,hp3,rfl⟩))⟩))⟩)))
  ·rw[M7];rfl
  ·rw[MX,hi];rfl
  ·rw[M7,hnm,fw (MK hi60),M7];rfl
  ·intro p hp;rcases NR.mp hp with hp|hp
   ·exact hwd p hp
   ·rw[Nt] at hp;subst hp;exact⟨by show 1<=1+r;lia,by show 1+r<=8;lia⟩
 ·obtain⟨ins,ds2,rfl,hi,him,hnm,hwd,hp2,rfl⟩:=hI;exact⟨rfl,q ins _ ds2 ⟨by rw[hnm,hi],hwd,by lia⟩ hp2⟩
end
structure My(ins:List kR)(tr:List eD):Prop where
 eq:tr.map (λp=>(p.1,p.2.1))=ins
 lt:∀p∈tr,p.2.2<2^p.2.1
theorem vm{ins:List kR}(hwd:∀p∈ins,1<=p.2/\p.2<=8)(hle:ins.length<=9){s0 s2 s3:Option Sl}{w:Int}{ds:List D}(hp:Pt w ds){Z':Ro}{Q:Kd×D×Ro->Prop}(q:∀tr ds',My ins tr->Pt w ds'->Q (.fr k0,.lst (tr.map λp=>iD p.2.2),s0::cc ds'::s2::s3::fS (.lst (ins.map dM))::Z')) :
  Wp (aH U_22 (.comp .fz [P7,P7,P7,P6 1] (.nm 1) (.p (.e (.var 4))) .non (.io 11 (.ref 3 (.val (.p (.bin .LShift (nL 1) (.ix (.var 1) (nL 2)))) .nil)))) (s0::cc ds::s2::s3::fS (.lst (ins.map dM))::Z')) Q:=by
 refine tQ (tS (wv (ff rfl rfl) ⟨rfl,by show(ins.map dM).length<=_;rw[MB];lia,?_⟩));refine BT (λi ys Z=>∃tr ds2,ys=tr.map (λp:eD=>iD p.2.2)/\tr.map (λp:eD=>(p.1,p.2.1))=ins.take i/\(∀p∈tr,p.2.2<2^p.2.1)/\Pt w ds2/\Z=[P7,P7,P7,cc ds2]) ⟨[],ds,rfl,rfl,λp h=>(by cases h),hp,rfl⟩ (λi d ys Z e hI=>?_) λys Z hI=>?_
 ·obtain⟨tr,ds2,rfl,heq,hlt,hp2,rfl⟩:=hI;rw[MF] at e
  cases hz:ins[i]? with
  |none=>rw[hz] at e;cases e
  |some p=>
  rw[hz] at e;cases e;have hw:=hwd p (Nf hz);refine xY rfl ⟨rfl,rfl⟩ rfl ?_;refine pN (m:=1 <<< p.2) rfl rfl hp2 ?_ ?_ (lS (by decide) (by lia) rfl (fv 2)) λv ds3 hv hp3=>⟨_,rfl,rfl,tr++[(p.1,p.2,v)],ds3,?_,?_,?_,hp3,rfl⟩
  ·rw[No];exact Nj _
  ·rw[No];exact Ov (by decide) (by lia)
  ·rw[M7];rfl
  ·rw[M7,heq,fw hz];rfl
  ·intro x hx;rcases NR.mp hx with hx|hx
   ·exact hlt x hx
   ·rw[Nt] at hx;subst hx;rw[No] at hv;exact hv
 ·obtain⟨tr,ds2,rfl,heq,hlt,hp2,rfl⟩:=hI;rw[MB,Nk] at heq;exact⟨rfl,q tr ds2 ⟨heq,hlt⟩ hp2⟩
noncomputable abbrev js(x:Str):DK:=.inr [.inl (.inr "name"),.inl (.inr x)]
noncomputable abbrev IJ(tr:List eD):D:=.nd (.dic 1 (tr.map λp=>js p.1)) (tr.map λp=>bL (bS p.2.2 p.2.1))
theorem rJ{l:List eD}{x:Str}(h:x∉l.map (·.1)):aI (l.map λp=>js p.1) (js x)=P7:=by
 unfold aI;rw[OV];intro k hk;obtain⟨p,hp,rfl⟩:=M2.mp hk;refine decide_eq_false λe=>h ?_;injection e with e;injection e with _ e;injection e with e _;injection e with e;injection e with e;rw[<- e];exact M2.mpr ⟨p,hp,rfl⟩
theorem kX:∀{l:List eD} {p:eD},p∈l->(l.map (·.1)).Nodup->∃j,aI (l.map λp=>js p.1) (js p.1)=P6 j/\l[j]?=P6 p
 |q::l,p,h,hn=>by
  rw[MU,M3] at hn;unfold aI;rw[MU,Na];rcases ML.mp h with rfl|h
  ·exact⟨0,by simp,rfl⟩
  ·have hne:¬js q.1=js p.1:=λe=>hn.1 (M2.mpr ⟨p,h,by
    injection e with e;injection e with _ e;injection e with e _;injection e with e;injection e with e;exact e.symm⟩)
   obtain⟨j,e1,e2⟩:=kX h hn.2;unfold aI at e1;refine⟨j+1,?_,e2⟩;rw[if_neg (by simpa using hne),e1];rfl
theorem vn{ks:List DK}{ds:List D}{x:Str}{d:D}(h:aI ks (js x)=P7)(hl:ds.length<100000):lc [] .fz (.dic 1 ks) ds (Js x) (.fr k0,d)=P6 (.dic 1 (ks++[js x]),ds++[d]):=by
 show(if iy 1 (js x)=P8/\ds.length<100000 then(match aI ks (js x) with
   |some j=>if bB (([]:List Ow).getD j .fz) (.fr k0,d)=P8/\ks.Nodup/\j<ds.length then P6 (Hd.dic 1 ks,ds.set j d) else P7
   |none=>if([]:List Ow).length<=ds.length/\bB .fz (.fr k0,d)=P8 then P6 (Hd.dic 1 (ks++[js x]),ds++[d]) else P7) else P7)=_
 rw[if_pos ⟨rfl,hl⟩,h];exact if_pos ⟨M4 _,rfl⟩
noncomputable abbrev oS(d:D):Option Sl:=P6 ⟨Qb,k0,d⟩
noncomputable abbrev rL(ns:List Int)(ds:List D)(nl:List (List Nat))(s3 s4 s5 s6 s7 s8 s9 tX nD pq nE nG pv pw pA:Option Sl):Ro:=[fS (.scr ns),cc ds,oS (vj nl),s3,s4,s5,s6,s7,s8,s9,tX,nD,pq,nE,nG,pv,pw,pA]
noncomputable def Lx(tr:List eD)(x:Str):Nat:=match tr.find? (λp=>decide (p.1=x)) with|some p=>p.2.1|none=>1
noncomputable def Ex(tr:List eD)(x:Str):Nat:=match tr.find? (λp=>decide (p.1=x)) with|some p=>p.2.2|none=>0
noncomputable def Li(ins:List kR)(x:Str):Nat:=match ins.find? (λp=>decide (p.1=x)) with|some p=>p.2|none=>1
theorem IK{tr:List eD}(h:tr.map (λp=>(p.1,p.2.1))=ins):Li ins=Lx tr:=by
 funext x;unfold Li Lx;rw[<- h,List.find?_map]
 show(match (tr.find? λp=>decide (p.1=x)).map (λp=>(p.1,p.2.1)) with|some p=>p.2|none=>1)=_
 cases tr.find? λp=>decide (p.1=x)<;>rfl
theorem yC{tr:List eD}(h:∀p∈tr,p.2.2<2^p.2.1)(x:Str):Ex tr x<2^Lx tr x:=by
 unfold Ex Lx
 cases e:tr.find? λp=>decide (p.1=x) with
 |none=>decide
 |some p=>exact h p (List.mem_of_find?_eq_some e)
theorem rK{α:Type}{k:α->Str}:∀{l:List α} {p:α},p∈l->(l.map k).Nodup->l.find? (λq=>decide (k q=k p))=P6 p
 |q::l,p,h,hn=>by
  rw[MU,M3] at hn;rw[NH];rcases ML.mp h with rfl|h
  ·simp
  ·have hne:¬k q=k p:=λe=>hn.1 (M2.mpr ⟨p,h,e.symm⟩);rw[decide_eq_false hne];exact rK h hn.2
theorem IL{ins:List kR}(hn:(ins.map (·.1)).Nodup){p:kR}(h:p∈ins):Li ins p.1=p.2:=by
 unfold Li;rw[rK h hn]
section
variable {tr:List eD} (hn:(tr.map (·.1)).Nodup)
include hn
theorem Cl{p:eD}(h:p∈tr):Lx tr p.1=p.2.1/\Ex tr p.1=p.2.2:=by
 unfold Lx Ex;rw[rK h hn];exact⟨rfl,rfl⟩
theorem IM{x:Str}(h:x∈tr.map (·.1)):Sc (Lx tr) (Ex tr) (yM tr) x:=by
 obtain⟨p,hp,rfl⟩:=M2.mp h;obtain⟨j,e1,e2⟩:=lV hp hn;obtain⟨a,b⟩:=Cl hn hp;exact⟨_,_,_,_,j,rfl,e1,by rw[MF,e2,a,b];rfl⟩
theorem IN{x:Str}(h:x∈tr.map (·.1)):Kn (Lx tr) (Ex tr) (IJ tr) x:=by
 obtain⟨p,hp,rfl⟩:=M2.mp h;obtain⟨j,e1,e2⟩:=kX hp hn;obtain⟨a,b⟩:=Cl hn hp;exact⟨_,_,j,rfl,e1,by rw[MF,e2,a,b];rfl⟩
end
theorem Al.mono{P R:Fo->Prop}(h:∀f,P f->R f):∀{f:Fo},Al P f->Al R f
 |.name _,a=>h _ a
 |.num _ _,a=>h _ a
 |.not _,a=>⟨h _ a.1,Al.mono h a.2⟩
 |.two _ _ _,a=>⟨h _ a.1,Al.mono h a.2.1,Al.mono h a.2.2⟩
 |.ite _ _ _,a=>⟨h _ a.1,Al.mono h a.2.1,Al.mono h a.2.2.1,Al.mono h a.2.2.2⟩
 |.join _ _,a=>⟨h _ a.1,Al.mono h a.2.1,Al.mono h a.2.2⟩
 |.cmp _ _ _,a=>⟨h _ a.1,Al.mono h a.2.1,Al.mono h a.2.2⟩
 |.cut _ _ _,a=>⟨h _ a.1,Al.mono h a.2⟩
section
variable {ns:List Int} {ds:List D} {nl:List (List Nat)} {s3 s5 s6 s7 s8 s9 pq nE nG pv pw pA:Option Sl} {tr:List eD} (hn:(tr.map (·.1)).Nodup) (hle:tr.length<=9) (hw:∀p∈tr,p.2.1<=8)
noncomputable abbrev ju(tr:List eD):D:=.lst (tr.map λp=>iD p.2.2)
noncomputable abbrev Fx:IS:=.fo [5,12] (.tp [(.nm 5),(.nm 12)]) (.p (.zp (.var 4) (.var 10))) (.cons (.put (.nm 11) (.tup .fz (.cons (sL "name") (.cons (.ix (.var 5) (nL 1)) .nil))) (.p (.fn 16 (.cons (.var 12) (.cons (.ix (.var 5) (nL 2)) .nil))))) .nil)
include hn hle hw in
theorem rM(q:Wp (aP U_22 1000 rest [] (rL ns ds nl s3 (fS (.lst (tr.map lU))) P7 s6 s7 s8 s9 (oS (ju tr)) (oS (IJ tr)) P7 nE nG pv pw pA)) Q) :
  Wp (aP U_22 1000 (.cons Fx rest) [] (rL ns ds nl s3 (fS (.lst (tr.map lU))) s5 s6 s7 s8 s9 (oS (ju tr)) (oS (.nd (.dic 1 []) [])) pq nE nG pv pw pA)) Q:=by
 refine xX (tS (wv (r:=([10],tr.map λp=>.tup [lU p,iD p.2.2])) ((lT rfl rfl rfl rfl).trans (by rw[nu];rfl)) ⟨λi Z=>∃s5 pq,Z=rL ns ds nl s3 (fS (.lst (tr.map lU))) s5 s6 s7 s8 s9 P7 (oS (IJ (tr.take i))) pq nE nG pv pw pA,⟨s5,pq,rfl⟩,λi d Z e hI=>?_,λZ' hI=>?_⟩))
 ·obtain⟨s5,pq,rfl⟩:=hI;have e:(tr.map λp=>D.tup [lU p,iD p.2.2])[i]?=P6 d:=e;rw[MF] at e
  cases hz:tr[i]? with
  |none=>rw[hz] at e;cases e
  |some p=>
  rw[hz] at e;cases e;refine⟨[(5,lU p),(12,iD p.2.2)],rfl,rfl,?_⟩;refine tU (bt (wv (cm rfl (e2 rfl (fv 2)) rfl rfl (ue (by have:=hw p (Nf hz);lia)) rfl) (AI rfl (wv (dL rfl (fv 1)) (nc rfl rfl rfl (ng (vn (rJ (pH hn hz)) ?_) ?_))))))
  ·rw[MB,M8];lia
  ·refine ca ⟨_,.inl rfl,fS (lU p),fS (iD p.2.2),?_⟩;rw[fw hz];simp only[rL,oS,IJ,M7];rfl
 ·obtain⟨s5,pq,rfl⟩:=hI;rw[MB,Nk];exact q
end
theorem Fz{B:Fn}{kds:List KD}{p:KD}(hB:B ds=P6 p)(hd:kds.map (·.2)=ds)(hk:(kds.all λp=>i0 p.1 p.2)=P8)(hb:aX p.1=Qb):qB B kds=P6 p:=az (pe ⟨p,by rw[hd];exact hB,hb,.inl hk,rfl⟩)
theorem yD(n:Nat)(tr:List eD):gh (n+1) (ju tr)=P8:=by
 simp only[ju,gh,MA,decide_eq_true_eq];refine⟨by lia,nh λd hd=>?_⟩;obtain⟨b,_,rfl⟩:=M2.mp hd;rfl
section
variable {ns:List Int} {ds:List D} {nl:List (List Nat)} {s3 s4 s5 s6 s7 s8 nD pq pv pw pA:Option Sl} {tr:List eD} {pg:D} {pn:List Nat} {v:Nat} {k9 k14:Ow}
noncomputable abbrev FA:IS:=.fo [15,16,17] (.nm 15) (.p (.rng (nL 0) (nL 2))) (.cons (.unp [16,17] (.fn 1 (.cons (.fz 9) (.cons (.p (.ix (.var 2) (nL 9))) (.cons (.p (.lst (.own [] .fz) .nil)) (.fin (.fz 14) .nil)))))) (.cons (.ifs (.p (.bool .Or (.cons (.not (.fn 22 (.cons (.var 16) (.cons (.var 13) .nil)))) (.cons (.not (.fn 22 (.cons (.var 17) (.cons (.lst (.own [] .fz) .nil) .nil)))) (.cons (.cmp .NotEq (.var 14) (.var 10)) .nil))))) (.cons (.ret (.p (.lit (.bl Qb)))) .nil) .nil) (.cons (.exp (.mut "append" (.nm 16) (.cons (nL 1) .nil))) (.cons (.exp (.mut "append" (.nm 17) (.cons (nL 2) .nil))) .nil))))
theorem vo{Q:Res->Prop}(h9:nl[9]?=P6 pn)(ht:ψ1 [pg,sD pn,.lst [],ju tr]=P6 (.fr kS,.tup [.lst [iD v],.lst []]))
  (q:∀k9 k14,Q (.nx (rL ns ds nl s3 s4 s5 s6 s7 s8 (P6 ⟨Qb,k9,pg⟩) (oS (ju tr)) nD pq (oS (.lst [iD v])) (P6 ⟨Qb,k14,ju tr⟩) P7 P7 P7))) :
  Wp (aP U_22 1000 (.cons FA .nil) [] (rL ns ds nl s3 s4 s5 s6 s7 s8 (P6 ⟨Qb,k9,pg⟩) (oS (ju tr)) nD pq (oS (.lst [iD v])) (P6 ⟨Qb,k14,ju tr⟩) pv pw pA)) Q:=by
 refine kO (pR (rc (bi (bi (m8 (by decide) rfl))))) (λ_ Z=>∃k9 k14 pv pw pA,Z=rL ns ds nl s3 s4 s5 s6 s7 s8 (P6 ⟨Qb,k9,pg⟩) (oS (ju tr)) nD pq (oS (.lst [iD v])) (P6 ⟨Qb,k14,ju tr⟩) pv pw pA) ⟨k9,k14,pv,pw,pA,rfl⟩ (λi d Z e hI=>?_) λZ' hI=>?_
 ·obtain⟨k9,k14,pv,pw,pA,rfl⟩:=hI;refine⟨[(15,d)],rfl,rfl,?_⟩;refine rh (BR rfl (aG (xS rfl ⟨rfl,aG (bt (wv (eC rfl rfl (.inl rfl) rfl (by rw[MF,h9];rfl)) ⟨rfl,aG (bt (wv rfl ⟨rfl,bu (xS rfl (aY (wv (Fz ht rfl rfl rfl) ⟨_,_,_,rfl,rfl,⟨rfl,rfl⟩,?_⟩)))⟩))⟩))⟩)));refine ae ?_ ?_
  ·refine vb (lG (x:=P8) (Ik (t8 rfl (e2 rfl rfl) rfl rfl (Fa) rfl))) λ_=>?_;refine vb (lG (x:=P8) (Ik (t8 rfl (e2 rfl rfl) rfl rfl (Fb) rfl))) λ_=>jg ?_;refine fK rfl rfl ((if_pos ⟨yD _ _,yD _ _⟩).trans ?_);rw[x4 (yD 0 tr)];rfl
  ·refine pj (ny rfl rfl rfl (by show 1<100000;decide) ?_);refine pj (ny rfl rfl rfl (by decide) ?_);exact ca ⟨_,.inl rfl,.fz,.fz,fS d,oS (.lst [iD v,.int 1]),oS (.lst [.int 2]),rfl⟩
 ·obtain⟨k9,k14,pv,pw,pA,rfl⟩:=hI;exact ca (q k9 k14)
end
noncomputable abbrev lZ(ins:List kR)(at_:Nat)(o pn:List Nat)(f:Fo):D:=.lst [.tup [sD pn,.lst ((ins.take at_).map dM++iU (fV o) f::(ins.drop at_).map dM)]]
theorem Bf{tr:List eD}(h:tr.map (λp=>(p.1,p.2.1))=ins){at_:Nat}{o pn:List Nat}{f:Fo}:lZ ins at_ o pn f=kP (tr.take at_) (tr.drop at_) (fV o) (fV pn) f:=by
 subst h;unfold lZ kP cb;rw[<- OK,<- OL,M5,M5];rfl
theorem yE{ins:List kR}{tr:List eD}(h:tr.map (λp=>(p.1,p.2.1))=ins):ins.map dM=tr.map lU:=by
 subst h;rw[M5];rfl
section
variable {ns:List Int} {nl:List (List Nat)} {ins:List kR} {f:Fo} {at_:Nat} {o pn:List Nat}
theorem yF{tr:List eD}(hn:(tr.map (·.1)).Nodup)(hle:tr.length<=9)(hlt:∀p∈tr,p.2.2<2^p.2.1)(hf:Wf (Lx tr) f)(hd:dep f<=5)(ha:Al (Pc (Lx tr) λx=>x∈tr.map (·.1)) f) :
  ψ1 [kP (tr.take at_) (tr.drop at_) (fV o) (fV pn) f,sD pn,.lst [],ju tr]=P6 (.fr kS,.tup [.lst [iD (val (Lx tr) (Ex tr) f)],.lst []]):=by
 have h:=A1 (t1:=tr.take at_) (o:=fV o) (pn:=fV pn) (yC hlt) (by rw[NE];lia) (by rw[NE];exact hn) hf (by rw[NE];exact ha.mono λg hg=>⟨hg.1,λx e=>IM hn (hg.2 x e)⟩) (by lia);rw[NE] at h;exact h
theorem FB{tr:List eD}(hn:(tr.map (·.1)).Nodup)(hlt:∀p∈tr,p.2.2<2^p.2.1)(hf:Wf (Lx tr) f)(hd:dep f<=5)(ha:Al (Pc (Lx tr) λx=>x∈tr.map (·.1)) f){Z:Ro}(h7:Z[7]?=P6 (fS (dt f)))(h11:Z[11]?=P6 (fS (IJ tr))) :
  aa U_22.fn (.lst (.own [] .fz) (.cons (.fn 17 (.cons (.fn 20 (.cons (.var 7) (.cons (.var 11) .nil))) .nil)) .nil)) Z=P6 (.fr k0,.lst [iD (val (Lx tr) (Ex tr) f)]):=by
 obtain⟨⟨kd,d⟩,e,hk,hd'⟩:=eI (yC hlt) f 40 hf (ha.mono λg hg=>⟨hg.1,λx e=>IN hn (hg.2 x e)⟩) (by lia);cases(show d=_ from hd')
 have hb:aX kd=Qb:=by rcases hk with hk|hk<;>(cases(show kd=_ from hk);rfl)
 have ho:i0 kd (bL (ck (Lx tr) (Ex tr) f))=P8:=by rcases hk with hk|hk<;>(cases(show kd=_ from hk);rfl)
 obtain⟨w1,w2⟩:=aD (Lx tr) (Ex tr) (yC hlt) f hf;have hl:(ck (Lx tr) (Ex tr) f).length<=64:=by rw[w1,ay];have:=ha.at.1;lia
 have e1':aa U_22.fn (.fn 20 (.cons (.var 7) (.cons (.var 11) .nil))) Z=P6 (kd,bL (ck (Lx tr) (Ex tr) f)):=cm rfl (e2 (az (en h7 rfl)) (az (en h11 rfl))) rfl rfl e hb
 have e2':aa U_22.fn (.fn 17 (.cons (.fn 20 (.cons (.var 7) (.cons (.var 11) .nil))) .nil)) Z=P6 (.sh,iD (val (Lx tr) (Ex tr) f)):=by
  refine cm rfl (e1 e1') ?_ rfl ((ve hl).trans ?_) rfl
  ·show(i0 kd (bL (ck (Lx tr) (Ex tr) f))&&P8)=P8;rw[ho];rfl
  ·rw[w1,t0 _ _ w2]
 rw[jB,e1 e2'];rfl
theorem Bg{Z:Ro}{i:Nat}(h:Z[i]?=P6 (oS (.lst xs))){U:Nat->Option Fn}:aa U (.blt "list" (.cons (.var i) .nil)) Z=P6 (.fr k0,.lst xs):=
 pL (e1 (az (en h rfl))) (az (tP rfl rfl))
end
section
variable {ns:List Int} {nl:List (List Nat)} {ins:List kR} {f:Fo} {at_:Nat} {o pn:List Nat}
noncomputable def yG:bC:=match dr FQ 7 with|.cons (.pre _ (.fo _ _ _ b)) _=>b|_=>.nil
theorem vp(hn:nl.Nodup)(h9:nl[9]?=P6 pn)(hi:Ins nl ins)(hg:Gw (Li ins) ins (wid (Li ins) f) 5 f){w:Int}{ds:List D}(hp:Pt w ds){s3:Option Sl}{k9:Ow} :
  Wp (aP U_22 1000 yG [] (rL ns ds nl s3 (fS (.lst (ins.map dM))) P7 P7 (fS (dt f)) (fS (iD at_)) (P6 ⟨Qb,k9,lZ ins at_ o pn f⟩) P7 P7 P7 P7 P7 P7 P7 P7)) λr=>∃Z',(r=.nx Z'\/r=.ct Z')/\∃ds' k9 tX nD nE nG,Pt w ds'/\Z'=rL ns ds' nl s3 (fS (.lst (ins.map dM))) P7 P7 (fS (dt f)) (fS (iD at_)) (P6 ⟨Qb,k9,lZ ins at_ o pn f⟩) tX nD P7 nE nG P7 P7 P7:=by
 unfold yG FQ;refine cD (vm hi.wd hi.le hp λtr ds1 ht hp1=>⟨⟨rfl,by decide⟩,?_⟩);have hL:Li ins=Lx tr:=IK ht.eq;have hnm:ins.map (·.1)=tr.map (·.1):=by rw[<- ht.eq,M5];rfl
 have hnd:(tr.map (·.1)).Nodup:=by rw[<- hnm];exact hi.nd hn
 have hle:tr.length<=9:=by have:=hi.le;rw[<- ht.eq,MB] at this;exact this
 have hw8:∀p∈tr,p.2.1<=8:=λp hp=>(hi.wd (p.1,p.2.1) (by rw[<- ht.eq];exact M2.mpr ⟨p,hp,rfl⟩)).2;have hwf:Wf (Lx tr) f:=by rw[<- hL];exact hg.wf
 have hal:Al (Pc (Lx tr) λx=>x∈tr.map (·.1)) f:=by rw[<- hL,<- hnm];exact hg.al
 rw[Bf ht.eq,yE ht.eq];refine bc rfl rfl (by decide) ?_;refine rM hnd hle hw8 ?_;refine yA ?_;refine bc (FB hnd ht.lt hwf hg.dep hal rfl rfl) rfl (by decide) ?_;refine bc (Bg rfl) rfl (by decide) ?_;exact vo h9 (yF hnd hle ht.lt hwf hg.dep hal) λk9 k14=>⟨_,.inl rfl,ds1,k9,_,_,_,_,hp1,rfl⟩
end
theorem FC{xs:List D}{n:Nat}:d7 xs P7 (P6 (n:Int))=xs.take n:=by
 unfold d7;rw[HT.dA,HT.gy,List.drop_zero,Nat.sub_zero];by_cases hn:n<=xs.length
 ·rw[Od hn]
 ·rw[Nat.min_eq_right (by lia),Nk,NO (by lia)]
theorem yH{xs:List D}{n:Nat}(hn:n<=xs.length):d7 xs (P6 (n:Int)) P7=xs.drop n:=by
 unfold d7;rw[HT.dA,HT.gy,Od hn,NO (by rw[On];exact MH _)]
theorem FD{ns:List Int}{ds:List D}{nl:List (List Nat)}{ins:List kR}{f:Fo}{at_:Nat}{o pn:List Nat}(h0:nl[0]?=P6 o)(h9:nl[9]?=P6 pn)(hl:ins.length<=9)(ha:at_<=ins.length) :
  aa U_22.fn (.lst (.own [] .fz) (.cons (.tup .fz (.cons (.ix (.var 2) (nL 9)) (.cons (.bin .Add (.bin .Add (.sl (.var 4) .non (.som (.var 8))) (.lst (.own [] .fz) (.cons (.tup .fz (.cons (sL "out") (.cons (.ix (.var 2) (nL 0)) (.cons (.var 7) .nil)))) .nil))) (.sl (.var 4) (.som (.var 8)) .non)) .nil))) .nil)) (rL ns ds nl P7 (oS (.lst (ins.map dM))) P7 P7 (fS (dt f)) (fS (iD at_)) P7 P7 P7 P7 P7 P7 P7 P7 P7)=P6 (.fr k0,lZ ins at_ o pn f):=by
 generalize hZ:rL ns ds nl P7 (oS (.lst (ins.map dM))) P7 P7 (fS (dt f)) (fS (iD at_)) P7 P7 P7 P7 P7 P7 P7 P7 P7=Z
 have v9:aa U_22.fn (.ix (.var 2) (nL 9)) Z=P6 (.sh,sD pn):=by
  subst hZ;exact eC (k:=.bo 2 k0) rfl rfl (.inl rfl) rfl (by rw[MF,h9];rfl)
 have v0:aa U_22.fn (.ix (.var 2) (nL 0)) Z=P6 (.sh,sD o):=by
  subst hZ;exact eC (k:=.bo 2 k0) rfl rfl (.inl rfl) rfl (by rw[MF,h0];rfl)
 have v7:aa U_22.fn (.var 7) Z=P6 (.sh,dt f):=by subst hZ;rfl
 have v8:aa U_22.fn (.var 8) Z=P6 (.sh,iD at_):=by subst hZ;rfl
 have v4:aa U_22.fn (.var 4) Z=P6 (.bo 4 k0,.lst (ins.map dM)):=by subst hZ;rfl
 have o1:aa U_22.fn (.lst (.own [] .fz) (.cons (.tup .fz (.cons (sL "out") (.cons (.ix (.var 2) (nL 0)) (.cons (.var 7) .nil)))) .nil)) Z=P6 (.fr k0,.lst [iU (fV o) f]):=by
  rw[jB,e1 (by rw[mJ,e3 rfl v0 v7];rfl)];rfl
 have c1:aa U_22.fn (.sl (.var 4) .non (.som (.var 8))) Z=P6 (.fr k0,.lst ((ins.take at_).map dM)):=by
  refine az (jc (wv v4 (iS (eA (wv v8 ⟨at_,rfl,⟨(.fr bj,.lst (d7 (ins.map dM) P7 (P6 (at_:Int)))),rfl,?_⟩⟩)))));rw[FC,OK]
 have c2:aa U_22.fn (.sl (.var 4) (.som (.var 8)) .non) Z=P6 (.fr k0,.lst ((ins.drop at_).map dM)):=by
  refine az (jc (wv v4 (eA (wv v8 ⟨at_,rfl,iS ⟨(.fr bj,.lst (d7 (ins.map dM) (P6 (at_:Int)) P7)),rfl,?_⟩⟩))));rw[yH (by rw[MB];exact ha),OL]
 have a1:=t7 ⟨rfl,rfl,by rw[MB,M8];show _+1<=_;lia⟩ c1 o1;have a2:=t7 ⟨rfl,rfl,by rw[MX,MB,M8,MB,On];show _+1+_<=_;lia⟩ a1 c2;rw[jB,e1 (by rw[mJ,e2 v9 a2];rfl)];show P6 (Kd.fr k0,D.lst [D.tup [sD pn,.lst ((ins.take at_).map dM++[iU (fV o) f]++(ins.drop at_).map dM)]])=_;rw[OP];rfl
theorem yI(ns:List Int)(hl:ns.length<=63):Ii [.scr ns]=P6 (.sh,.bl P8):=by
 unfold Ii;refine dZ rfl ?_;have body:=λ{nl ins f at_ o pn} hn h9 hi hg {w ds} hp {s3 k9}=>vp (ns:=ns) (nl:=nl) (ins:=ins) (f:=f) (at_:=at_) (o:=o) (pn:=pn) hn h9 hi hg (w:=w) (ds:=ds) hp (s3:=s3) (k9:=k9);unfold yG FQ at body;unfold FQ;refine cD (bt (xM rfl (wv (e1 rfl) (pe ((Fw hl λds hp=>⟨rfl,.inl rfl,⟨rfl,by decide⟩,?_⟩))))));refine cD (lR rfl (f9 rfl (f8 ⟨by simp[cy],[(k0,ig ds)],rfl,yz hp λnl ds1 hn hnl hp1=>⟨rfl,rfl,⟨rfl,by decide⟩,?_⟩⟩)));obtain⟨o,h0⟩:∃o,nl[0]?=P6 o:=⟨_,MK (by lia)⟩;obtain⟨pn,h9⟩:∃pn,nl[9]?=P6 pn:=⟨_,MK (by lia)⟩;refine cD (yB hnl hp1 λins w ds2 hi hp2=>⟨⟨rfl,by decide⟩,?_⟩);refine bc (Cf (ff (k:=.bo 4 k0) rfl rfl) (by have:=hi.le;lia) λp hp=>ES rfl (wv (dL (dL rfl (fv 1)) (fv 2)) ⟨.sh,rfl,rfl⟩)) rfl (by decide) ?_;have hL:∀p∈ins,Li ins p.1=p.2:=λp hp=>IL (hi.nd hn) hp;refine cD (lR rfl (f9 rfl (dl (pf rfl ⟨rfl,dl (hZq (m:=8) rfl rfl hp2 (by decide) (by decide) rfl rfl λr ds3 hr hp3=>⟨rfl,dl (bt (bi ⟨rfl,f8 ⟨by simp[cy],[(k0,ig ds3),(.fz,yN ins),(.fz,iD (1+r)),(.fz,iD 5)],rfl,pO hL (by have:=hi.le;lia) 5 40 (by decide) (1+r) (by lia) (by lia) ds3 hp3 _ λf ds4 hf hp4=>⟨rfl,rfl,⟨rfl,by decide⟩,?_⟩⟩⟩))⟩)⟩))));refine iV (m:=ins.length+1) rfl rfl hp4 (by lia) (by have:=hi.le;lia) ((cF (hUq (d:=.lst (ins.map dM)) rfl (congrArg P6 (MB _))) rfl).trans rfl) (by decide) λat_ ds5 hat hp5=>?_;refine bc (FD h0 h9 hi.le (by lia)) rfl (by decide) ?_;refine yA ?_;refine xX (m7 (hZq (m:=6) rfl rfl hp5 (by decide) (by decide) rfl rfl λr6 ds6 hr6 hp6=>m8 (ge (by decide) (by decide) (by show(-100000:Int)<=((1+r6:Nat):Int);lia) (by show((1+r6:Nat):Int)<=100000;lia) (by show((1+r6:Nat):Int)-0<=100000;lia)) ⟨λ_ Z=>∃ds' k9 s3 tX nD nE nG,Pt w ds'/\Z=rL ns ds' nl s3 (fS (.lst (ins.map dM))) P7 P7 (fS (dt f)) (fS (iD at_)) (P6 ⟨Qb,k9,lZ ins at_ o pn f⟩) tX nD P7 nE nG P7 P7 P7,⟨ds6,k0,P7,P7,P7,P7,P7,hp6,rfl⟩,λi d Z e hI=>?_,λZ' hI=>?_⟩))
 ·obtain⟨ds',k9,s3,tX,nD,nE,nG,hp',rfl⟩:=hI;refine⟨[(3,d)],rfl,rfl,?_⟩;refine(body hn h9 hi ⟨hf.wf,rfl,hf.dep,hf.al⟩ hp' (at_:=at_)).mono λr hr=>?_;obtain⟨Z',h1,ds2,k9,tX,nD,nE,nG,hp2,e2⟩:=hr;exact⟨Z',h1,ds2,k9,fS d,tX,nD,nE,nG,hp2,e2⟩
 ·obtain⟨ds',k9,s3,tX,nD,nE,nG,hp',rfl⟩:=hI;exact bK rfl rfl (bG rfl rfl)
noncomputable abbrev FE:Pos:=match jA with|.FunctionDef _ _ _ _ _ _ _ _ _ p=>p|_=>⟨0,0,0,0⟩
noncomputable abbrev sv(x:String)(t:Tok):Qa:=.str (Str.ofString x) t
noncomputable abbrev E(P:Params)(x:String)(t:Tok)(v:Qa):DictEntry:=⟨PyData.keyHash P (Str.ofString x),.str (Str.ofString x) t,v⟩
noncomputable abbrev fO(x:String)(st:Ql)(m:Qa)(c:Qc):Obj:=⟨.type "function",P7,.func (NG (Str.ofString x) (Str.ofString x) (cJ st) (aQ st) (ab st) .none .none .none m P7 (.ref c) .none),#[]⟩
noncomputable abbrev fQ(x y:String)(st:Ql)(m:Qa)(c:Qc):Obj:=⟨.type "function",P7,.func (NG (Str.ofString x) (Str.ofString y) (cJ st) (aQ st) (ab st) .none .none .none m P7 (.ref c) .none),#[]⟩
noncomputable abbrev mL:Qa:=sv "law_gatepapers_k27_expressions_worked" 301
noncomputable abbrev cO(x:String)(t:Nat)(l n:Int)(r:Qc)(b:Bool)(q:Qc)(A Bqq C:Qa)(s:Qc)(u:Nat):Obj:=⟨.type "code",P7,.fields #[sv x t,sv x (t+1),sv "/claim/cut.py" (t+2),.int l 0,.int n 0,.int 0 0,.int 0 0,.int 3 0,.ref r,.bool b,.int 181 0,.ref q,A,Bqq,C,.ref s,.int u 0,.int l 0,sv "/claim/cut.py" (u+1)],#[]⟩
noncomputable def KK(P:Params):Mz:=[(3,⟨(.type "dict"),P7,(.dict #[E P "__name__" 165 mL,E P "__doc__" 166 .none,E P "__package__" 167 .none,E P "__loader__" 168 (.builtin "__main__.__loader__#opaque"),E P "__spec__" 169 .none,E P "__annotations__" 170 (.ref 6),E P "__builtins__" 171 (.ref 4),E P "__file__" 173 (sv "/claim/cut.py" 172),E P "__cached__" 174 .none,E P "rows_of" 194 (.ref 19),E P "turn" 202 (.ref 24),E P "Scene" 232 (.ref 41),E P "stateful" 238 (.ref 50),E P "part_turn" 244 (.ref 55),E P "scene_of" 250 (.ref 60),E P "next_room" 261 (.ref 67),E P "valued" 274 (.ref 74),E P "ones" 281 (.ref 81),E P "compared" 291 (.ref 88),E P "reckoned" 300 (.ref 95),E P "_law_pot" 308 (.ref 100),E P "_law_next" 318 (.ref 107),E P "_law_names" 324 (.ref 112),E P "_law_few" 334 (.ref 119),E P "_law_leaf" 340 (.ref 124),E P "_law_grown" 355 (.ref 131),E P "_law_bits" 361 (.ref 136),E P "_law_number" 367 (.ref 141),E P "_law_summed" 379 (.ref 148),E P "_law_two" 385 (.ref 153),E P "_law_worth" 391 (.ref 158),E P "_law_whole" 398 (.ref 165),E P "_law_same" 404 (.ref 170),E P "law" 410 (.ref 175)] 34),#[]⟩),
 (19,fO "rows_of" s0 (sv "gatepapers.kinds" 187) 18),
 (18,cO "rows_of" 189 2 2 15 P8 16 .none .none .none 17 192),
 (24,fO "turn" s1 (sv "gatepapers.turns" 195) 23),
 (23,cO "turn" 197 5 4 20 P8 21 .none .none .none 22 200),
 (50,fO "stateful" s2 (sv "gatepapers.turns" 195) 49),
 (49,cO "stateful" 233 14 1 46 P8 47 .none .none .none 48 236),
 (55,fO "part_turn" s3 (sv "gatepapers.turns" 195) 54),
 (54,cO "part_turn" 239 16 4 51 P8 52 .none .none .none 53 242),
 (60,fO "scene_of" s4 (sv "gatepapers.turns" 195) 59),
 (59,cO "scene_of" 245 36 3 56 P8 57 .none .none .none 58 248),
 (74,fO "valued" s6 (sv "gatepapers.turns" 195) 73),
 (73,cO "valued" 262 50 2 68 P8 69 .none (.ref 70) (.ref 71) 72 272),
 (81,fO "ones" s7 (sv "gatepapers.turns" 195) 80),
 (80,cO "ones" 275 73 1 75 P8 76 .none (.ref 77) (.ref 78) 79 279),
 (88,fO "compared" s8 (sv "gatepapers.turns" 195) 87),
 (87,cO "compared" 282 75 3 82 P8 83 .none (.ref 84) (.ref 85) 86 289),
 (95,fO "reckoned" s9 (sv "gatepapers.turns" 195) 94),
 (94,cO "reckoned" 292 78 3 89 P8 90 .none (.ref 91) (.ref 92) 93 298),
 (100,fO "_law_pot" tX mL 99),
 (99,cO "_law_pot" 303 89 1 96 P8 97 .none .none .none 98 306),
 (107,fO "_law_next" nD mL 106),
 (106,cO "_law_next" 309 96 2 101 P8 102 .none (.ref 103) (.ref 104) 105 316),
 (112,fO "_law_names" pq mL 111),
 (111,cO "_law_names" 319 107 1 108 P8 109 .none .none .none 110 322),
 (119,fO "_law_few" nE mL 118),
 (118,cO "_law_few" 325 118 2 113 P8 114 .none (.ref 115) (.ref 116) 117 332),
 (124,fO "_law_leaf" nG mL 123),
 (123,cO "_law_leaf" 335 125 3 120 P8 121 .none .none .none 122 338),
 (131,fO "_law_grown" pv mL 130),
 (130,cO "_law_grown" 341 131 4 125 P8 126 .none (.ref 127) (.ref 128) 129 353),
 (136,fO "_law_bits" pw mL 135),
 (135,cO "_law_bits" 356 156 2 132 P8 133 .none .none .none 134 359),
 (141,fO "_law_number" pA mL 140),
 (140,cO "_law_number" 362 158 1 137 P8 138 .none .none .none 139 365),
 (148,fO "_law_summed" Jd mL 147),
 (147,cO "_law_summed" 368 160 3 142 P8 143 .none (.ref 144) (.ref 145) 146 377),
 (153,fO "_law_two" Je mL 152),
 (152,cO "_law_two" 380 166 3 149 P8 150 .none .none .none 151 383),
 (158,fO "_law_worth" Jf mL 157),
 (157,cO "_law_worth" 386 182 2 154 P8 155 .none .none .none 156 389),
 (165,fO "_law_whole" Jg mL 164),
 (164,cO "_law_whole" 392 196 1 159 P8 160 .none (.ref 161) (.ref 162) 163 396),
 (170,fO "_law_same" Jh mL 169),
 (169,cO "_law_same" 399 198 2 166 P8 167 .none .none .none 168 402),
 (175,fO "law" jA mL 174),
 (174,cO "law" 405 204 1 171 P8 172 .none .none .none 173 408),
 (41,⟨.type "type",P7,.cls ⟨Str.ofString "Scene",[.type "object"],[.ref 41,.type "object"],40,Str.ofString "Scene",P8,[],[],Qb,P7,Qb⟩,#[P7,P7,(P6 (sv "Scene" 203)),(P6 (sv "Scene" 211)),(P6 (.builtin "object.__new__")),(P6 (.bool P8))]⟩),
 (40,⟨(.type "dict"),P7,(.dict #[E P "__module__" 210 (sv "gatepapers.turns" 195),E P "__firstlineno__" 214 (.int 8 213),E P "__init__" 221 (.ref 38),E P "__static_attributes__" 225 (.ref 39),E P "__dict__" 227 (.ref 42),E P "__weakref__" 229 (.ref 43),E P "__doc__" 230 .none] 4),#[]⟩),
 (38,fQ "__init__" "Scene.__init__" zN (sv "gatepapers.turns" 195) 37),
 (37,⟨(.type "code"),P7,(.fields #[(sv "__init__" 215),(sv "Scene.__init__" 216),(sv "/claim/cut.py" 217),(.int 10 0),(.int 1 0),(.int 0 0),(.int 0 0),(.int 3 0),(.ref 32),(.bool P8),(.int 181 0),(.ref 33),.none,(.ref 34),(.ref 35),(.ref 36),(.int 219 0),(.int 10 0),(sv "/claim/cut.py" 220)]),#[]⟩)]
noncomputable def HH:PySem.W.Hook:=PySem.W.kHook KK [3,19,18,24,23,50,49,55,54,60,59,74,73,81,80,88,87,95,94,100,99,107,106,112,111,119,118,124,123,131,130,136,135,141,140,148,147,153,152,158,157,165,164,170,169,175,174,41,40,38,37] (λ_=>rfl)
noncomputable def qv:Qi:=PySem.W.view PySem.Challenge.pw_gatepapers_k27_expressions_worked [27]
noncomputable def lo:List Str:=(["__name__","rows_of","turn","Scene","stateful","part_turn","scene_of","next_room","valued","ones","compared","reckoned","_law_pot","_law_next","_law_names","_law_few","_law_leaf","_law_grown","_law_bits","_law_number","_law_summed","_law_two","_law_worth","_law_whole","_law_same"]:List String).map Str.ofString
theorem left:PySem.W.LeftO (PySem.Challenge.rw_gatepapers_k27_expressions_worked).row.toRowW.prog qv lo (λs=>PySem.W.xlAt qv [] s&&PySem.W.recOk (PySem.W.RowW.records (PySem.Challenge.rw_gatepapers_k27_expressions_worked).row.toRowW) s) (PySem.W.Hook.obs HH) (PySem.W.Hook.val HH) 20000:=λw=>by kernel_rfl
theorem gz{P:Params}{h:Qn}{mg:Str->Option Qa}(X:(KK P).In h)(G:h.Ns Qp mg){x:Str}{v:Qa}(e:NI (KK P) Qp x=P6 (P6 v)):mg x=P6 v:=PySem.W.mg_of X G e
theorem fm{P:Params}(x:String)(st:Ql)(f:Qc)(m:Qa)(c:Qc)(h:(KK P).lookup f=P6 (fO x st m c):=by kernel_rfl)(k:Oz (KK P) (.ref c) (Str.ofString x)=P8:=by kernel_rfl)(j:Nw (KK P) (.ref f)=P8:=by kernel_rfl):Fun (KK P) (Str.ofString x) (Str.ofString x) st f (NG (Str.ofString x) (Str.ofString x) (cJ st) (aQ st) (ab st) .none .none .none m P7 (.ref c) .none):=vW h k j
theorem FF{l:PySem.W.OpenLaw}{w:Qj}{P:Params}{h:Qn}{mg:Str->Option Qa}{fa:Qc}(X:(KK P).In h)(G:h.Ns Qp mg)(hfa:mg "law" = P6 (.ref fa)):∃fd:Qw,(∀(s:Qd) (v:Qa),BindsTo s fd ⟨[v],[]⟩ [("_law_script",v)])/\∀base:Qn,(KK P).In base->base.Ns Qp mg->FnOk l.prog w (KK P) mg base nB 185 fa fd ["_law_script"] (uN (KK P) Ii):=by
 have e:=hfa.symm.trans (gz X G (v:=.ref 175) (by kernel_rfl));cases e;have F0:=fm (P:=P) "rows_of" s0 19 (sv "gatepapers.kinds" 187) 18;have B0:=F0.binds (ps:=["rows","word"]) λ_ _ _ _ _ _=>us2 (λ_ _=>rfl);have F1:=fm (P:=P) "turn" s1 24 (sv "gatepapers.turns" 195) 23;have B1:=F1.binds (ps:=["program","name","state","ins"]) λ_ _ _ _ _ _=>Kz (λ_ _ _ _=>rfl);have F2:=fm (P:=P) "stateful" s2 50 (sv "gatepapers.turns" 195) 49;have B2:=F2.binds (ps:=["rows"]) λ_ _ _ _ _ _=>yK (λ_=>rfl);have F3:=fm (P:=P) "part_turn" s3 55 (sv "gatepapers.turns" 195) 54;have B3:=F3.binds (ps:=["parts","name","state","ins"]) λ_ _ _ _ _ _=>Kz (λ_ _ _ _=>rfl);have F4:=fm (P:=P) "scene_of" s4 60 (sv "gatepapers.turns" 195) 59;have B4:=F4.binds (ps:=["rows","before","ins"]) λ_ _ _ _ _ _=>FN (λ_ _ _=>rfl);have F6:=fm (P:=P) "valued" s6 74 (sv "gatepapers.turns" 195) 73;have B6:=F6.binds (ps:=["expression","scene"]) λ_ _ _ _ _ _=>us2 (λ_ _=>rfl);have F7:=fm (P:=P) "ones" s7 81 (sv "gatepapers.turns" 195) 80;have B7:=F7.binds (ps:=["width"]) λ_ _ _ _ _ _=>yK (λ_=>rfl);have F8:=fm (P:=P) "compared" s8 88 (sv "gatepapers.turns" 195) 87;have B8:=F8.binds (ps:=["word","value","other"]) λ_ _ _ _ _ _=>FN (λ_ _ _=>rfl);have F9:=fm (P:=P) "reckoned" s9 95 (sv "gatepapers.turns" 195) 94;have B9:=F9.binds (ps:=["word","value","other"]) λ_ _ _ _ _ _=>FN (λ_ _ _=>rfl);have F10:=fm (P:=P) "_law_pot" tX 100 mL 99;have B10:=F10.binds (ps:=["_law_script"]) λ_ _ _ _ _ _=>yK (λ_=>rfl);have F11:=fm (P:=P) "_law_next" nD 107 mL 106;have B11:=F11.binds (ps:=["_law_pot_here","_law_many"]) λ_ _ _ _ _ _=>us2 (λ_ _=>rfl);have F12:=fm (P:=P) "_law_names" pq 112 mL 111;have B12:=F12.binds (ps:=["_law_pot_here"]) λ_ _ _ _ _ _=>yK (λ_=>rfl);have F13:=fm (P:=P) "_law_few" nE 119 mL 118;have B13:=F13.binds (ps:=["_law_pot_here","_law_most"]) λ_ _ _ _ _ _=>us2 (λ_ _=>rfl);have F14:=fm (P:=P) "_law_leaf" nG 124 mL 123;have B14:=F14.binds (ps:=["_law_pot_here","_law_leaves","_law_width"]) λ_ _ _ _ _ _=>FN (λ_ _ _=>rfl);have F15:=fm (P:=P) "_law_grown" pv 131 mL 130;have B15:=F15.binds (ps:=["_law_pot_here","_law_leaves","_law_width","_law_deep"]) λ_ _ _ _ _ _=>Kz (λ_ _ _ _=>rfl);have F16:=fm (P:=P) "_law_bits" pw 136 mL 135;have B16:=F16.binds (ps:=["_law_number_here","_law_width"]) λ_ _ _ _ _ _=>us2 (λ_ _=>rfl);have F17:=fm (P:=P) "_law_number" pA 141 mL 140;have B17:=F17.binds (ps:=["_law_bits_here"]) λ_ _ _ _ _ _=>yK (λ_=>rfl);have F18:=fm (P:=P) "_law_summed" Jd 148 mL 147;have B18:=F18.binds (ps:=["_law_one","_law_other","_law_carry"]) λ_ _ _ _ _ _=>FN (λ_ _ _=>rfl);have F19:=fm (P:=P) "_law_two" Je 153 mL 152;have B19:=F19.binds (ps:=["_law_word","_law_one","_law_other"]) λ_ _ _ _ _ _=>FN (λ_ _ _=>rfl);have F20:=fm (P:=P) "_law_worth" Jf 158 mL 157;have B20:=F20.binds (ps:=["_law_formula","_law_known"]) λ_ _ _ _ _ _=>us2 (λ_ _=>rfl);have F21:=fm (P:=P) "_law_whole" Jg 165 mL 164;have B21:=F21.binds (ps:=["_law_found"]) λ_ _ _ _ _ _=>yK (λ_=>rfl);have F22:=fm (P:=P) "_law_same" Jh 170 mL 169;have B22:=F22.binds (ps:=["_law_found","_law_due"]) λ_ _ _ _ _ _=>us2 (λ_ _=>rfl);have F23:=fm (P:=P) "law" jA 175 mL 174;have B23:=F23.binds (ps:=["_law_script"]) λ_ _ _ _ _ _=>yK (λ_=>rfl);have F24:=vW (K:=KK P) (x:="__init__") (qual:="Scene.__init__") (st:=zN) (f:=38) (show(KK P).lookup 38=P6 (fQ "__init__" "Scene.__init__" zN (sv "gatepapers.turns" 195) 37) by kernel_rfl) (by kernel_rfl) (by kernel_rfl);have B24:=F24.binds (ps:=["self"]) λ_ _ _ _ _ _=>yK (λ_=>rfl);refine⟨NG "law" "law" (cJ jA) (aQ jA) (ab jA) .none .none .none mL P7 (.ref 174) .none,λs v=>.of_eq rfl,λbase _ _=>?_⟩;have cl:Cls (KK P) 41:=⟨by kernel_rfl,by kernel_rfl,by kernel_rfl,by kernel_rfl⟩;have hC:NI (KK P) Qp "Scene" = P6 (P6 (.ref 41)):=by kernel_rfl
 have cf:∀c fs C,([("Scene",["names","rooms","outs"])]:List (Str×List Str)).lookup c=P6 fs->NI (KK P) Qp c=P6 (P6 (.ref C))->Cls (KK P) C/\∀a∈fs,NoAttr (KK P) C a:=λc fs C hc h=>by
  simp only[Ny] at hc;split at hc
  ·rename_i e;have e:=eq_of_beq e;subst e;cases hc;cases hC.symm.trans h;exact⟨cl,λa ha=>by (simp only[ML,Nb,or_false] at ha;rcases ha with rfl|rfl|rfl<;>(show NB (KK P) (.ref 41) _=P6 P7;kernel_rfl))⟩
  ·cases hc
 have T0:TabF l.prog w (KK P) mg base (bx fns U0) 0:=⟨λx B hx=>by (have hx:(aN x fns.fns).bind U0.fn=P6 B:=hx;cases q:aN x fns.fns<;>rw[q] at hx<;>cases hx),cf,λx B hx=>by (have hx:(aN x fns.fns).bind (λi=>(U0.fm i).map λB=>λK=>z7 K B)=P6 B:=hx;cases q:aN x fns.fns<;>rw[q] at hx<;>cases hx),(λx hx=>by
  simp only[ax,ML,Nb,or_false] at hx;rcases hx with rfl|rfl|rfl|rfl|rfl|rfl|rfl|rfl|rfl|rfl|rfl|rfl|rfl|rfl|rfl|rfl|rfl|rfl|rfl|rfl|rfl
  all_goals exact PySem.W.mg_none_of X G (by kernel_rfl)),λx d hx=>by
  have hx:Ny x fns.cs=P6 d:=hx;simp only[fns,Ny] at hx;cases hx⟩
 have T1:=T0.addI (i:=0) (ψ:=ψ0) F0 Ma (gz X G (v:=.ref 19) (by kernel_rfl)) B0 rfl rfl L9 λ_=>Le.refl _;have T2:=T1.addI (i:=2) (ψ:=ψ2) F2 Md (gz X G (v:=.ref 50) (by kernel_rfl)) B2 rfl rfl Mc λ_=>Le.refl _;have T3:=T2.addC (i:=24) (ψ:=Lj) (pn:=[0]) (es:=[]) (r0:=.own [] .fz) F24 Lh ⟨by kernel_rfl,by kernel_rfl,by kernel_rfl,by kernel_rfl⟩ cl hC (gz X G (v:=.ref 41) (by kernel_rfl)) B24 rfl rfl Lg λ_=>Le.refl _;have T4:=T3.addI (i:=4) (ψ:=ψ4) F4 Mg (gz X G (v:=.ref 60) (by kernel_rfl)) B4 rfl rfl Mf λ_=>Le.refl _;have T5:=T4.addI (i:=7) (ψ:=ψ7) F7 Ml (gz X G (v:=.ref 81) (by kernel_rfl)) B7 rfl rfl Mj λ_=>Le.refl _;have T6:=T5.addI (i:=8) (ψ:=ψ8) F8 Mn (gz X G (v:=.ref 88) (by kernel_rfl)) B8 rfl rfl Mm λ_=>Le.refl _;have T7:=T6.addI (i:=9) (ψ:=ψ9) F9 Mp (gz X G (v:=.ref 95) (by kernel_rfl)) B9 rfl rfl Mo λ_=>Le.refl _;have T8:=T7.recI (i:=6) (M:=1000) F6 Mi (gz X G (v:=.ref 74) (by kernel_rfl)) B6 rfl rfl Mh 40;have T9:=T8.addB (i:=3) (ψ:=ψ3) F3 Me (gz X G (v:=.ref 55) (by kernel_rfl)) B3 rfl rfl (λX O hp=>x6 X O hp) λ_=>Le.refl _;have T10:=T9.addB (i:=1) (ψ:=ψ1) F1 Mb (gz X G (v:=.ref 24) (by kernel_rfl)) B1 rfl rfl (λX O hp=>x8 X O hp) λ_=>Le.refl _;have T12:=T10.addI (i:=10) (ψ:=Jk) F10 KF (gz X G (v:=.ref 100) (by kernel_rfl)) B10 rfl rfl KC λ_=>Le.refl _;have T13:=T12.addM (i:=11) (ψ:=AL) (pn:=[0]) F11 KH (gz X G (v:=.ref 107) (by kernel_rfl)) B11 rfl rfl KG λ_=>Le.refl _;have T14:=T13.addM (i:=12) (ψ:=Jl) (pn:=[0]) F12 KJ (gz X G (v:=.ref 112) (by kernel_rfl)) B12 rfl rfl KI λ_=>Le.refl _;have T15:=T14.addM (i:=13) (ψ:=Jm) (pn:=[0]) F13 KM (gz X G (v:=.ref 119) (by kernel_rfl)) B13 rfl rfl KL λ_=>Le.refl _;have T16:=T15.addM (i:=14) (ψ:=Jn) (pn:=[0]) F14 KP (gz X G (v:=.ref 124) (by kernel_rfl)) B14 rfl rfl KO λ_=>Le.refl _;have T17:=T16.recM (i:=15) (M:=1000) (pn:=[0]) F15 KR (gz X G (v:=.ref 131) (by kernel_rfl)) B15 rfl rfl KQ 40;have T18:=T17.addI (i:=16) (ψ:=Jo) F16 KW (gz X G (v:=.ref 136) (by kernel_rfl)) B16 rfl rfl KU λ_=>Le.refl _;have T19:=T18.addI (i:=17) (ψ:=Jp) F17 K0 (gz X G (v:=.ref 141) (by kernel_rfl)) B17 rfl rfl KZ λ_=>Le.refl _;have T20:=T19.addI (i:=18) (ψ:=Jq) F18 K3 (gz X G (v:=.ref 148) (by kernel_rfl)) B18 rfl rfl K2 λ_=>Le.refl _;have T21:=T20.addI (i:=19) (ψ:=yL) F19 K5 (gz X G (v:=.ref 153) (by kernel_rfl)) B19 rfl rfl K4 λ_=>Le.refl _;have T22:=T21.recI (i:=20) (M:=1000) F20 K7 (gz X G (v:=.ref 158) (by kernel_rfl)) B20 rfl rfl K6 40;have T23:=T22.addI (i:=21) (ψ:=Jr) F21 La (gz X G (v:=.ref 165) (by kernel_rfl)) B21 rfl rfl K9 λ_=>Le.refl _;have T24:=T23.recI (i:=22) (M:=1000) F22 Lc (gz X G (v:=.ref 170) (by kernel_rfl)) B22 rfl rfl Lb 40;exact(tK (n:=60) (an:=an) F23 Lf T24 Ld).imp λvs H Q E s=>mY (λ_=>Le.refl _) s
theorem Ly{l:PySem.W.OpenLaw}{YP:Qj->Qn->Prop}{d:DefRec}{K:Params->Mz}(hn:l.most=P6 63)(hdf:d.params.defaults=[])(hYq:∀(w:Qj) (h:Qn),YP w h->(K w.params).In h)(F:∀(w:Qj) (mg:Str->Option Qa) (fa:Qc) (h:Qn),(K w.params).In h->h.Ns Qp mg->mg d.name=P6 (.ref fa)->
   ∃fd:Qw,(∀(s:Qd) (u:Qa),BindsTo s fd ⟨[u],[]⟩ [("_law_script",u)])/\∀base:Qn,(K w.params).In base->base.Ns Qp mg->FnOk l.prog w (K w.params) mg base nB 185 fa fd ["_law_script"] (uN (K w.params) Ii)) :
  PySem.W.WalkO q loose XP YP l.row.toRowW d [] (λf vs=>PySem.call f vs):=
 L2.zc (n:=63) (k:=185) (x:="_law_script") (CX:=λ_=>nB) (sp:=λw=>uN (K w.params) Ii) hn (by decide) hdf ⟨rfl,by decide,by decide,rfl⟩ hYq F (λ_ _ a ns hl _ hS=>Ev hS (yI ns hl)) λ_ _ _ _ _ z=>z
end K27
open PySem PySem.W PyProof.Rows
set_option maxRecDepth 100000 in
set_option maxHeartbeats 0 in
theorem PySem.Challenge.cw_gatepapers_k27_expressions_worked_holds : PySem.Challenge.rw_gatepapers_k27_expressions_worked.Holds := by
 refine holds_law (by kernel_rfl) λsaid=>?_;refine holds_open (d:=⟨"law",L2.cJ K27.jA,L2.aQ K27.jA,L2.ab K27.jA,K27.FE⟩) (kwd:=[]) (q:=K27.qv) (loose:=K27.lo) (XP:=XL K27.qv []) (YP:=Hook.says K27.HH) K27.left (Hook.of K27.HH) (Hook.keeps K27.HH) (λs e=>xl_of s (Pq.mp e).1) XL.keeps (by kernel_rfl) (by kernel_rfl) (by kernel_rfl) (λs e=>recFacts_of (Pq.mp e).2) (by kernel_rfl) said (by kernel_rfl) ⟨rfl,rfl,rfl,rfl,rfl,by kernel_rfl⟩ ?hw ?hc
 case hw=>w_witness2
 case hc=>
  refine K27.Ly (l:=PySem.Challenge.rw_gatepapers_k27_expressions_worked) rfl rfl (λw h Yq=>PySem.W.kIn_of Yq) ?F;intro w mg fa h KX G hmg;exact K27.FF KX G hmg
end
