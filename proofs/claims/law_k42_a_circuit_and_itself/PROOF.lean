import PyProof.Rows.All
import Wide.All
import OpenK.AllK
import KE.KRevSl
import KE.KDictOf
import KE.KSortTup
import KE.KDictList
import KE.KPairComp
import KE.BitLaws
import PySem.Challenge.RW_gatepapers_k42_a_circuit_and_itself
set_option Elab.async false
set_option linter.all false
set_option maxRecDepth 100000
set_option autoImplicit true
set_option relaxedAutoImplicit true
set_option genInjectivity false
set_option genSizeOf false
set_option bootstrap.genMatcherCode false
set_option genSizeOfSpec false
set_option maxHeartbeats 4000000
noncomputable section
open PySem.W renaming Frag->Md,nsIn->M6,keepIn->M8,findIn->Nb,emptyDict->Nc,fnOf->Ni,instObj->Nq,kitOne->NL,codeIn->NZ,plainGet->N6,kia_one->Ob,plainGet_of->Oc,lookIn->Og,callWith_K->Om,hasDictIn->Ot,takerIn->OG,cellsFrom_some->OK,callWith_K0->OX,isFn->OY,plainOver->O6,handedIn->O8,makesIn->Pf
open Bool renaming and_eq_true->Me,false_ne_true->Mz,false_eq_true->M3,or_eq_true->NC,not_eq_true'->NE,or_eq_false_iff->NU,not_true->NW,true_and->Os,and_eq_true_iff->OU,or_false->OV,true->Pm,false->Po
open PySem.Heap renaming get?_push_of_some->Mf,lt_size->Ml,get?_push_size->Mp,size_push->Nu,get?_update_other->Nz,get?_update_self->NR,get?_push_ne->O7,size_update->Pc
open List renaming getElem?_eq_some_iff->Mg,length_map->Mh,getElem?_map->Mj,size_toArray->Mm,mem_cons->Mn,mem_append_right->Mq,getElem?_eq_getElem->Ms,mem_cons_of_mem->Mt,mem_of_getElem?->Mu,not_mem_nil->Mv,nodup_cons->Mw,map_cons->Mx,getElem?_append_left->My,lookup_cons->MA,map_map->MB,replicate->MC,mem_cons_self->MD,length_append->MF,getElem?_set_ne->MG,range->MH,length_take->MJ,getElem?_set_self->MK,getElem?_append_right->MM,mem_singleton->MN,mem_append->MQ,map_append->MS,filterMap_cons->MU,findIdx?_cons->MV,length_cons->MW,append_assoc->MX,getElem?_eq_none->MY,drop_eq_getElem_cons->M0,length_zipIdx->M4,append_nil->M5,getElem?_range->M7,mem_map->Na,replicate_succ->Nf,take_length->Nk,lookup->Nm,all_cons->No,reverse_cons->Nr,all_eq_true->Nx,cons_append->Ny,nil_append->NA,find?_cons->NB,ext_getElem?->NF,getElem?_eq_none_iff->NG,mem_append_left->NH,length->NJ,mem_range->NK,length_set->NM,zip_cons_cons->NN,flatten_cons->NO,findIdx?_map->NQ,reverse->NS,getElem?_zipIdx->NV,length_eq_zero_iff->N0,take_add_one->N2,length_range->N3,nodup_append->N4,drop_of_length_le->N5,map->N7,drop_length->N8,length_singleton->N9,eraseIdxIfInBounds_toArray->Oa,length_reverse->Od,map_congr_left->Oe,nodup_nil->Oh,mem_zipIdx_iff_getElem?->Oi,mem_filterMap->Ol,set_cons_succ->On,getElem?_set->Ox,length_drop->Oy,map_nil->OA,getElem_mem->OB,mem_reverse->OD,getElem?_replicate->OE,getElem?_cons_succ->OF,of_mem_zip->OH,take_of_length_le->OM,length_replicate->ON,drop_zero->OO,take_append_drop->OP,dropLast_eq_take->OQ,concat_eq_append->OR,foldl->OS,mem_iff_getElem->OT,any_cons->OW,any_eq_false->O5,map_reverse->O9,nodup_range->Pd,mem_filter->Pe,length_nil->Pg,zipIdx_map->Ph,range_succ->Pi
open Nat renaming le_refl->Mi,lt_of_lt_of_le->Mo,ne_of_lt->Mr,zero_le->ML,le_trans->MP,add_sub_cancel_left->M9,lt_of_le_of_lt->Nj,lt_irrefl->Nl,ne_of_gt->Nn,le_succ->Np,lt_succ_self->Nw,pow_le_pow_right->NI,lt_succ_of_lt->NP,le_add_right->NT,le_of_lt->NX,lt_trans->NY,add_le_add_left->Of,add_sub_cancel->Oo,add_assoc->Op,le_of_succ_le->Ou,le_succ_of_le->Ov,sub_self->OC,two_pow_pos->OJ,sub_zero->O0,lt_or_ge->O1,eq_zero_or_pos->O2,lt_of_not_le->Pa
open Option renaming bind_some->MZ,isSome_map->N1,getD_none->Oz,map_some->OI,map_eq_some_iff->OL,isSome_some->OZ,some->Pj,none->Pl
open Int renaming toNat_natCast->Nd,fdiv_eq_ediv_of_nonneg->Oq,natAbs_natCast->O3,emod_lt_of_pos->O4
open Array renaming getElem?_eq_getElem->Ng,getElem?_toList->Nh,length_toList->Nt,getElem?_eq_none_iff->ND,forIn_toList->Oj,toList_inj->Pb
open PySem renaming Value->Pn,Expr->Pp,wpAny_bind->Pq,Addr->Ps,Shared->Pt,wpAny_pure->Pu,wpAny->Pv,model->Pw,Program->Px,starEach->Py,Stmt->Pz,World->PB,Around->PC,Heap->PD,mainGlobals->PF,Scope->PH,Operator->PJ,cellsFrom->PK,FuncData->PL,assignEach->PM,wpAny_newObj_type->PN,wpAny_holding->PP,NameKind->PQ,behindInMarks->PR,CmpOp->PU,wpAny_truthy_bool->PV,wpAny_call_entry->PX,wpAny_passesOwn->PY,rawInt->PZ,wpAny_pyIter_list->P0
local macro_rules|`(tactic|let $d:letDecl)=>`(tactic|have $d:letDecl)|`(tactic|show $e)=>`(tactic|refine $e)|`(tactic|nofun)=>`(tactic|decide +kernel)|`(tactic|ext $[$x:ident]*)=>`(tactic|rename_i $[$x:ident]*)
theorem W0w:PySem.Challenge.rw_gatepapers_k42_a_circuit_and_itself.wellSaid=true:=by kernel_rfl
namespace PySem
open Sem (wp)
section
variable {prog:Px} {w:PB} {K:Type} [DecidableEq K] (knd:KeyKind prog w K)
inductive Its2 (h:Heap):Nat->List (K ⊕ List K)->List Value->Prop
 |nil {m:Nat}:Its2 h m [] []
 |key {m:Nat} {k:K} {v:Pn} {xs:List (K ⊕ List K)} {vs:List Pn}:m%2=0->knd.is k v=Pm->Its2 h (m / 2) xs vs->Its2 h m (.inl k::xs) (v::vs)
 |tup {m:Nat} {ks:List K} {b:Ps} {xs:List (K ⊕ List K)} {vs:List Pn}:m%2=1->IsTupleKey knd h ks b->Its2 h (m / 2) xs vs->Its2 h m (.inr ks::xs) (.ref b::vs)
def IsDeep(m:Nat)(h:PD)(xs:List (K ⊕ List K))(a:Ps):Prop:=∃o q n,h.get? a=Pj o/\o.cls=.type "tuple"/\o.data=.seq q n/\Its2 knd h m xs q.toList
noncomputable def dc:K ⊕ List K->Int
 |.inl k=>knd.hash k
 |.inr ks=>tupleKeyHash knd ks
noncomputable def cm:K ⊕ List K->Nat
 |.inl _=>1
 |.inr ks=>ks.length+1
def j7(xs:List (K ⊕ List K)):Int:=reduceHash (Builtin.Tuple.tupleHashOf (xs.map (dc knd)))
variable {knd}
theorem Its2.inj(g:Its2 knd h m x vs)(c:Its2 knd h m y vs):x=y:=by
 induction g generalizing y with
 |nil=>cases c;rfl
 |key e f _ a=>
  cases c with
  |key _ b d=>rw[knd.inj _ _ _ f b,a d]
  |tup e2 _ _=>lia
 |tup e f _ a=>
  cases c with
  |key e2 _ _=>lia
  |tup _ b d=>rw[f.inj b,a d]
theorem Its2.keeps(k:∀ks b,IsTupleKey knd h ks b->IsTupleKey knd h' ks b)(d:Its2 knd h m x vs):Its2 knd h' m x vs:=by
 induction d with
 |nil=>show .nil
 |key e c _ a=>show .key e c a
 |tup e c _ a=>show .tup e (k _ _ c) a
theorem IsDeep.ty{s:Pt}(x:IsDeep knd m s.heap xs a):s.TypeIs (.ref a) "tuple":=by
 unfold IsDeep at x;rcases x with⟨o,_,_,g,c,_⟩;show⟨o,g,c⟩
theorem IsDeep.one(p:IsDeep knd m h x a)(q:IsDeep knd m h y a):x=y:=by
 unfold IsDeep at p q;rcases p with⟨o,i,n,g,_,d,r⟩;rcases q with⟨j,k,f,c,_,b,e⟩;cases g.symm.trans c;cases d.symm.trans b;show r.inj e
theorem IsDeep.stay{h h':PD}{o:Obj}{es ep}(x:IsDeep knd m h xs a)(g:h.get? d=Pj o)(e:o.data=.dict es ep)(q:Heap.SameBut d h h'):IsDeep knd m h' xs a:=by
 unfold IsDeep at x⊢;rcases x with⟨k,i,n,j,c,f,r⟩;show⟨k,i,n,?_,c,f,r.keeps λl b z=>z.keeps g e q⟩;show(q.2 a λz=>?_).trans j;rw[z,g] at j;cases j;rw[e] at f;cases f
variable {A:PC} {E:Pn->Pt->Prop} {s:Pt}
theorem gU{xs:List (K ⊕ List K)}{Q:Int->Pt->Prop}(T:A.units+8<cLine)(hk:IsDeep knd m s.heap xs a)(h:Q (j7 knd xs) { s with toks:=s.toks+((xs.map cm).sum+1) }) :
  Pv (Pw prog w) A (pyHash (.ref a)) Q E s:=by
 let C:=hk.ty;let O:=F.slot_tuple_hash.lookup;rcases hk with⟨o,S,n,g,c,d,r⟩
 let t:∀(rest:List Pn) (b:Array Int) (z:Pt) (v:Pn),(∃f left l,xs=f++left/\Its2 knd s.heap l left (v::rest)/\b.toList=f.map (dc knd)/\z={ s with toks:=s.toks+(f.map cm).sum })->
   ∃i k,(∀(A:PC) (R:Int->Pt->Prop),A.units<cLine->R i { z with toks:=z.toks+k }->Pv (Pw prog w) A (pyHash v) R E z)/\∃f left l,xs=f++left/\Its2 knd s.heap l left rest/\(b.push i).toList=f.map (dc knd)/\{ z with toks:=z.toks+k }={ s with toks:=s.toks+(f.map cm).sum }:=by
  rintro rest b z v ⟨f,left,l,e,N,B,rfl⟩
  cases N with
  |@key _ k _ j _ _ I p=>
   show⟨knd.hash k,1,λA R _ q=>knd.pyHash I q,f++[.inl k],j,l / 2,by simp[e],p,by simp[B,dc],by simp[cm,Op]⟩
  |@tup _ D _ j _ _ I p=>
   show⟨tupleKeyHash knd D,D.length+1,λA R u q=>wpAny_pyHash_tuple u I q,f++[.inr D],j,l / 2,by simp[e],p,by simp[B,dc],by simp[cm,Op]⟩
 unfold pyHash
 first|unfold pyHashByItsType|skip
 first|show Pq (wpAny_cRoomFor_or (.inr (by lia)) ?_)|skip
 show Pq (wpAny_specialOf C O ((if_neg (show ¬(Pj (Value.builtin "tuple.__hash__")==Pj Value.none)=Pm by rw[beq_builtin_none];show Mz)).symm▸Pq (wpAny_specialOf C O (Pq (wpAny_callSpecialIfBoundUnlessNone?_slot C F.slot_tuple_hash (PX F.slot_tuple_hash C F.entry_tuple_hash (show Pv _ _ (Builtin.Tuple.tupleItemsOf (.ref a) >>= _) _ _ s from Pq (wpAny_tupleItemsOf g d (Pq ?_))) (F.args_tuple_hash_1 _)))))));rw[<- Oj];show wpAny_forIn_list _ (λrest (b:Array Int) z=>∃f left l,xs=f++left/\Its2 knd s.heap l left rest/\b.toList=f.map (dc knd)/\z={ s with toks:=s.toks+(f.map cm).sum }) _ (λv rest b z L=>?_) (λb z L=>?_) _ _ ⟨[],xs,m,rfl,r,rfl,rfl⟩
 ·obtain⟨i,k,M,x⟩:=t rest b z v L
  show Pq (M _ _ (by first|lia|(change _+1<_;lia)) (by first|show Pu x|show Pq (Pu (Pu x))))
 ·obtain⟨f,left,l,e,N,B,rfl⟩:=L;cases N;let P:f=xs:=by rw[e,M5]
  subst P;change Pv _ _ (retInt (Builtin.Tuple.tupleHashOf b.toList)) _ _ _;rw[B];show wpAny_ret_mkInt ?_;unfold j7 reduceHash at h;generalize Builtin.Tuple.tupleHashOf (f.map (dc knd))=y at h⊢
  change Pv _ _ (if(decide (-(2:Int)^63<=y)&&decide (y<2^63))=Pm then _ else _) Q E _
  split
  ·ext H;rw[if_pos H] at h;show Pu (by simpa[Op] using h)
  ·ext H;rw[if_neg H] at h;show Pq (wpAny_rule (Pu (by simpa[Op] using h)))
theorem Its2.two{h:PD}{us vs:List Pn}(p:Its2 knd h m x us)(q:Its2 knd h m y vs)(z:(u,v)::rest=us.zip vs) :
  ∃(i j:K ⊕ List K) (c b:List (K ⊕ List K)) (us2 a:List Pn),x=i::c/\y=j::b/\us=u::us2/\vs=v::a/\Its2 knd h (m / 2) c us2/\Its2 knd h (m / 2) b a/\rest=us2.zip a/\
   ∀(A:PC) (E:Pn->Pt->Prop) (s:Pt) (Q:Bool->Pt->Prop),s.heap=h->A.units<cLine->Q (decide (i=j)) s->Pv (Pw prog w) A (eqBool u v) Q E s:=by
 cases p with
 |nil=>cases z
 |@key _ o t c us2 e n f=>
  cases q with
  |nil=>cases z
  |@key _ r B b a e2 d l=>
   cases z;show⟨_,_,_,_,_,_,rfl,rfl,rfl,rfl,f,l,rfl,λA E s Q k u g=>knd.eqBool n d (by simpa using g)⟩
  |tup e2 _ _=>lia
 |@tup _ o b1 c us2 e n f=>
  cases q with
  |nil=>cases z
  |key e2 _ _=>lia
  |@tup _ r b2 b a e2 d l=>
   cases z;show⟨_,_,_,_,_,_,rfl,rfl,rfl,rfl,f,l,rfl,λA E s Q k u g=>wpAny_eqBool_tuple u (k▸n) (k▸d) (by simpa using g)⟩
theorem Its2.ends{us vs:List Pn}(p:Its2 knd h m x us)(q:Its2 knd h m y vs)(z:us.zip vs=[]):(us.length==vs.length)=decide (x=y):=by
 cases p<;>cases q<;>first|rfl|(simp at z;done)|simp
theorem mH{P:Fin->Pt->Prop}(hu:A.units+4<cLine)(U:IsDeep knd m s.heap x a)(Q:IsDeep knd m s.heap y b)(h:P (.done (.ret (.bool (decide (x=y))))) s) :
  Pv (Pw prog w) A (Builtin.«tuple.__eq__» ⟨[.ref a,.ref b],[]⟩) P E s:=by
 let ty:=Q.ty;rcases U with⟨o,F,n,g,c,d,p⟩;rcases Q with⟨o2,H,n2,Z,c2,Y,q⟩;show(show Pv _ _ (isInstance (.ref b) (.type "tuple") >>= _) _ _ s from Pq (wpAny_isInstance ty isSubtype_tuple_tuple ?_));simp only[NW,M3,if_false];show Pq (wpAny_tupleItemsOf g d (Pq (wpAny_tupleItemsOf Z Y (Pq ?_))));show wpAny_forIn_list _ (λrest r z=>r.1=Pl/\z=s/\∃l C B k f,rest=List.zip k f/\Its2 knd s.heap l C k/\Its2 knd s.heap l B f/\decide (C=B)=decide (x=y)/\(k.length==f.length)=(F.size==H.size))
  _ (λW rest r z K=>?_) (λr z K=>?_) _ _ ⟨rfl,rfl,m,x,y,F.toList,H.toList,rfl,p,q,rfl,by simp⟩
 ·obtain⟨u,v⟩:=W;obtain⟨O,rfl,l,C,B,k,f,e,L,I,t,D⟩:=K;obtain⟨i,j,T,R,us2,N,rfl,rfl,rfl,rfl,S,X,rfl,M⟩:=L.two I e;show Pq (M _ _ _ _ rfl (by lia) ?_)
  cases hk:decide (i=j) with
  |true=>
   let hk:=of_decide_eq_true hk;subst hk;simp only[NW,M3,if_false];show Pu ⟨rfl,rfl,l / 2,T,R,us2,N,rfl,S,X,t▸by simp,by simpa using D⟩
  |false=>
   let hk:=of_decide_eq_false hk;simp only[Bool.not_false,if_true];let V:decide (x=y)=Po:=t▸by simp[hk]
   show Pq (Pu (Pu (Pu (V▸h))))
 ·obtain⟨r1,r2⟩:=r;obtain⟨O,rfl,l,C,B,k,f,e,L,I,t,D⟩:=K;cases(O);show Pu ?_;change P (.done (.ret (.bool (F.size==H.size)))) z;rw[<- D,L.ends I e.symm,t];show h
theorem gW{Q:Bool->Pt->Prop}(k:A.units+8<cLine)(d:IsDeep knd m s.heap x a)(g:IsDeep knd m s.heap y b)(h:Q (decide (x=y)) s) :
  Pv (Pw prog w) A (eqBool (.ref a) (.ref b)) Q E s:=by
 unfold eqBool
 try with_reducible show PP ?_
 show(?_);split
 ·ext f;cases eq_of_beq f;cases d.one g;show Pq (wpAny_rule (Pu (by simpa using h)))
 ·let c:=mH (E:=E) (A:=A.in1) (P:=λi j=>∃v,i=Fin.done (Flow.ret v)/\v≠.notImplemented/\Pv (Pw prog w) A (truthOfDropped v) Q E j) (by change A.units+1+4<cLine;lia) d g ⟨_,rfl,(λe=>nomatch e),PV h⟩
  show Pq (wpAny_richCompare_same_room d.ty g.ty F.slot_tuple_eq (PX F.slot_tuple_eq d.ty F.entry_tuple_eq c (F.args_tuple_eq_2 _ _)) (by lia))
theorem n6{n:Nat}{o:Obj}{b:Array Pn}{Q:Bool->Pt->Prop}(g:s.heap.get? a=Pj o)(c:o.cls=.type "tuple")(d:o.data=.seq b ep)(hi:∀v∈b.toList,∀R:Bool->Pt->Prop,R Pm s->Pv (Pw prog w) A (eqIsQuiet n v) R E s)(q:Q Pm s) :
  Pv (Pw prog w) A (eqIsQuiet (n+1) (.ref a)) Q E s:=by
 let i:s.TypeIs (.ref a) "tuple":=⟨o,g,c⟩;unfold eqIsQuiet;show Pq (wpAny_specialOf i F.slot_tuple_eq.lookup (Pq (wpAny_isInstance i isSubtype_tuple_tuple ?_)));simp only[NW,M3,if_false];show Pq (wpAny_seqItems g d (Pq (?_)));rw[<- Oj];show wpAny_forIn_list _ (λrest r z=>r.1=Pl/\z=s/\∀v∈rest,v∈b.toList) _ (λv rest r z e=>?_) (λr z e=>?_) _ _ ⟨rfl,rfl,λv j=>j⟩
 ·obtain⟨f,rfl,h⟩:=e;show Pq (hi v (h v MD) _ ?_);simp only[NW,M3,if_false];show Pu ⟨rfl,rfl,λu k=>h u (Mt _ k)⟩
 ·obtain⟨m,l⟩:=r;obtain⟨f,rfl,_⟩:=e;cases(f);show Pu q
theorem Its2.items{vs:List Pn}(p:Its2 knd h m x vs):∀v∈vs,(∃k,knd.is k v=Pm)\/∃ks b,v=.ref b/\IsTupleKey knd h ks b:=by
 induction p with
 |nil=>intro v a;cases a
 |key _ d _ c=>intro v a;show(Mn.mp a).elim (λe=>.inl ⟨_,e▸d⟩) (c v)
 |tup _ d _ c=>intro v a;show(Mn.mp a).elim (λe=>.inr ⟨_,_,e,d⟩) (c v)
theorem qg{Q:Bool->Pt->Prop}(hk:IsDeep knd m s.heap xs a)(h:Q Pm s):Pv (Pw prog w) A (eqIsQuiet 8 (.ref a)) Q E s:=by
 rcases hk with⟨o,p,n,g,c,d,r⟩;show n6 g c d (λv f R q=>?_) h;rcases r.items v f with⟨k,e⟩|⟨z,b,rfl,y,i,x,u,l,t,j⟩
 ·rw[eqIsQuiet_byValue _ (knd.byValue _ _ e)];show Pu q
 ·show n6 u l t (λv f R q=>?_) q;rw[eqIsQuiet_byValue _ (j.byValue v f)];show Pu q
end
def bE{prog:Px}{w:PB}{K:Type}[DecidableEq K](m:Nat)(knd:KeyKind prog w K):HeapKind prog w (List (K ⊕ List K)) where
 is:=IsDeep knd m
 hash:=j7 knd
 draws:=λxs=>(xs.map cm).sum+1
 room:=λA=>A.units+8<cLine
 inj:=λp q=>p.one q
 keeps:=λx g e q=>x.stay g e q
 pyHash:=λB hk h=>gU B hk h
 eqBool:=λB O W h=>gW B O W h
 quiet:=λhk h=>qg hk h
end PySem
open PySem PySem.Spec
namespace L2
open PyProof.Rows
abbrev aJ:=Sum Int Str
noncomputable def lK:aJ->Pn->Bool
 |.inl k,v=>Value.isInt k v
 |.inr x,v=>Value.isStrOf x v
noncomputable def Jq(w:PB):aJ->Int
 |.inl k=>hashInt k
 |.inr x=>hashStr w x
theorem bd:∀{k:aJ} {v:Pn},lK k v=Pm->(∃i t,k=Sum.inl i/\v=Value.int i t)\/(∃x t,k=Sum.inr x/\v=Value.str x t)
 |.inl i,v,h=>by
  obtain⟨t,e⟩:=Value.isInt_shape (k:=i) (v:=v) h;show .inl ⟨i,t,rfl,e⟩
 |.inr x,v,h=>by
  obtain⟨t,e⟩:=Value.isStrOf_shape (x:=x) (v:=v) h;show .inr ⟨x,t,rfl,e⟩
theorem uD(i:Int)(t:Tok):lK (.inl i) (.int i t)=Pm:=by simp[lK,Value.isInt]
theorem uE(x:Str)(t:Tok):lK (.inr x) (.str x t)=Pm:=by simp[lK,Value.isStrOf]
theorem CD(a b:Int):decide ((Sum.inl a:aJ)=Sum.inl b)=(a==b):=by
 by_cases e:a=b
 ·subst e;simp
 ·let h:¬(Sum.inl a:aJ)=Sum.inl b:=λq=>e (Sum.inl.inj q);rw[decide_eq_false h];show(beq_eq_false_iff_ne.mpr e).symm
theorem CF(a b:Str):decide ((Sum.inr a:aJ)=Sum.inr b)=decide (a=b):=by
 by_cases e:a=b
 ·subst e;simp
 ·let h:¬(Sum.inr a:aJ)=Sum.inr b:=λq=>e (Sum.inr.inj q);rw[decide_eq_false h,decide_eq_false e]
theorem CG(a:Int)(b:Str):decide ((Sum.inl a:aJ)=Sum.inr b)=Po:=decide_eq_false (λq=>nomatch q)
theorem CH(a:Str)(b:Int):decide ((Sum.inr a:aJ)=Sum.inl b)=Po:=decide_eq_false (λq=>nomatch q)
def aG(prog:Px)(w:PB):PySem.KeyKind prog w aJ where
 is:=lK
 hash:=Jq w
 inj:=λv a b W B=>by
  rcases bd W with⟨i,t,rfl,rfl⟩|⟨x,t,rfl,rfl⟩
  ·rcases bd B with⟨j,u,rfl,e⟩|⟨y,u,rfl,e⟩
   ·injection e with e1 _;rw[e1]
   ·show nomatch e
  ·rcases bd B with⟨j,u,rfl,e⟩|⟨y,u,rfl,e⟩
   ·show nomatch e
   ·injection e with e1 _;rw[e1]
 byValue:=λk v h=>by
  rcases bd h with⟨i,t,rfl,rfl⟩|⟨x,t,rfl,rfl⟩<;>rfl
 pyHash:=λq h=>by
  rcases bd q with⟨i,t,rfl,rfl⟩|⟨x,t,rfl,rfl⟩
  ·show wpAny_pyHash_int h
  ·show wpAny_pyHash_str h
 eqBool:=λO q h=>by
  rcases bd O with⟨i,t,rfl,rfl⟩|⟨x,t,rfl,rfl⟩
  ·rcases bd q with⟨j,u,rfl,rfl⟩|⟨y,u,rfl,rfl⟩
   ·rw[CD] at h;show wpAny_eqBool_int h
   ·rw[CG] at h;show SeqAt.EqAt.int_str i t y u _ _ _ _ h
  ·rcases bd q with⟨j,u,rfl,rfl⟩|⟨y,u,rfl,rfl⟩
   ·rw[CH] at h;show SeqAt.EqAt.str_int x t j u _ _ _ _ h
   ·rw[CF] at h;show wpAny_eqBool_str h
 «strs»:=λk x t v h=>by
  rcases bd h with⟨i,u,rfl,e⟩|⟨y,u,rfl,e⟩
  ·show nomatch e
  ·injection e with e1 _;subst e1
   cases v<;>rfl
theorem n8(prog:Px)(w:PB)(i:Int)(t:Tok):(aG prog w).is (.inl i) (.int i t)=Pm:=uD i t
theorem n9(prog:Px)(w:PB)(x:Str)(t:Tok):(aG prog w).is (.inr x) (.str x t)=Pm:=uE x t
inductive V where
 |non|bl (b:Bool)|int (i:Int)|str (x:Str)|byt (b:Array UInt8)|flt (b:UInt64)|ref (a:Ps)|ty (n:String)
 deriving DecidableEq
def RelV:V->Pn->Prop
 |.non,u=>u=Value.none
 |.bl b,u=>u=Value.bool b
 |.int i,u=>∃t,u=Value.int i t
 |.str x,u=>∃t,u=Value.str x t
 |.byt b,u=>∃t,u=Value.bytes b t
 |.flt b,u=>∃t,u=Value.float b t
 |.ref a,u=>u=Value.ref a
 |.ty n,u=>u=Value.type n
abbrev Vals:List V->List Pn->Prop:=Paired RelV
theorem Vals.length{xs:List V}{us:List Pn}(r:Vals xs us):xs.length=us.length:=Paired.length r
theorem Vals.get:∀{xs:List V} {us:List Pn} {i:Nat} {x:V},Vals xs us->xs[i]?=Pj x->∃u,us[i]?=Pj u/\RelV x u
 |_,_,_,_,.nil,e=>by simp at e
 |_,_,0,_,.cons r _,e=>by simp at e;subst e;show⟨_,rfl,r⟩
 |_,_,i+1,x,.cons _ t,e=>by
  obtain⟨u,b,a⟩:=Vals.get (i:=i) (x:=x) t (by simpa using e);show⟨u,by simpa using b,a⟩
theorem Vals.set(r:RelV x u):∀{xs:List V} {us:List Pn} (i:Nat),Vals xs us->Vals (xs.set i x) (us.set i u)
 |_,_,_,.nil=>.nil
 |_,_,0,.cons _ t=>.cons r t
 |_,_,i+1,.cons q t=>.cons q (Vals.set r i t)
theorem Vals.append:∀{xs ys:List V} {us a:List Pn},Vals xs us->Vals ys a->Vals (xs++ys) (us++a)
 |_,_,_,_,.nil,s=>s
 |_,_,_,_,.cons r t,s=>.cons r (Vals.append t s)
theorem Vals.take:∀{xs:List V} {us:List Pn} (n:Nat),Vals xs us->Vals (xs.take n) (us.take n)
 |_,_,0,_=>.nil
 |_,_,_+1,.nil=>.nil
 |_,_,n+1,.cons r t=>.cons r (Vals.take n t)
theorem Vals.drop:∀{xs:List V} {us:List Pn} (n:Nat),Vals xs us->Vals (xs.drop n) (us.drop n)
 |_,_,0,r=>r
 |_,_,_+1,.nil=>.nil
 |_,_,n+1,.cons _ t=>Vals.drop n t
theorem Vals.none_of:∀{xs:List V} {us:List Pn} {i:Nat},Vals xs us->xs[i]?=Pl->us[i]?=Pl:=λ{xs us i} r e=>by
 let b:=r.length;let a:xs.length<=i:=NG.mp e;show NG.mpr (by lia)
def RelO:Option V->Option Pn->Prop
 |some v,Pj u=>RelV v u
 |none,Pl=>True
 |_,_=>False
def KV{κ:Type}:List (κ×V)->List (κ×Pn)->Prop:=Paired λ(p:κ×V) (q:κ×Pn)=>p.1=q.1/\RelV p.2 q.2
noncomputable def kV:aJ->V
 |.inl i=>.int i
 |.inr x=>.str x
inductive HO where
 |lst (xs:List V)
 |tup (xs:List V)
 |dK (kvs:List (aJ×V))|dT (m ep:Nat) (kvs:List (List (aJ ⊕ List aJ)×V))
 |ins (C dx:Ps) (fs:List (Str×V))
 |own (x:Ps)
 |frz (o:Obj) (u:HO)
 |tbl (ps:Array Pn)
 |ext (B:PD->Prop)
abbrev Hp:=Ps->Option HO
noncomputable def upd(H:Hp)(a:Ps)(o:HO):Hp:=λb=>if b=a then Pj o else H b
theorem ak:upd H a o a=Pj o:=by unfold upd;rw[if_pos rfl]
theorem ah{H:Hp}(h:b≠a):upd H a o b=H b:=by unfold upd;rw[if_neg h]
theorem Bv{H:Hp}{a b:Ps}{o u:HO}(h:H a=Pj o)(h':H b=Pj u)(d:o≠u):a≠b:=by
 intro e;subst e;rw[h] at h';show d (Option.some.inj h')
theorem aB{H:Hp}{a b:Ps}{o:HO}(h:H a=Pj o)(h':H b=Pl):a≠b:=by
 intro e;subst e;rw[h] at h';cases h'
def TkIts(H:Hp):Nat->List (aJ ⊕ List aJ)->List V->Prop
 |_,[],vs=>vs=[]
 |m,.inl k::xs,vs=>∃r,vs=kV k::r/\m%2=0/\TkIts H (m / 2) xs r
 |m,.inr ks::xs,vs=>∃b r,vs=.ref b::r/\m%2=1/\H b=Pj (.tup (ks.map kV))/\TkIts H (m / 2) xs r
def TkAt(H:Hp)(m:Nat)(ks:List (aJ ⊕ List aJ))(b:Ps):Prop:=∃vs,H b=Pj (.tup vs)/\TkIts H m ks vs
theorem TkIts.keep{H H':Hp}(a:∀b xs,H b=Pj (.tup xs)->H' b=Pj (.tup xs)):∀{m:Nat} {ks:List (aJ ⊕ List aJ)} {vs:List V},TkIts H m ks vs->TkIts H' m ks vs
 |_,[],_,h=>h
 |m,.inl k::xs,vs,h=>by obtain⟨r,e,z,t⟩:=h;show⟨r,e,z,t.keep a⟩
 |m,.inr ks::xs,vs,h=>by obtain⟨b,r,e,z,g,t⟩:=h;show⟨b,r,e,z,a _ _ g,t.keep a⟩
theorem TkAt.keep{H H':Hp}{b:Ps}(x:TkAt H m ks b)(a:∀b xs,H b=Pj (.tup xs)->H' b=Pj (.tup xs)):TkAt H' m ks b:=by
 obtain⟨c,g,r⟩:=x;show⟨c,a _ _ g,r.keep a⟩
section
variable (P:Px) (w:PB)
def ObjOk(H:Hp)(h:PD)(a:Ps):HO->Prop
 |.lst xs=>xs.length<=sizeLine/\∃(O:List Pn) (n:Nat),Vals xs O/\h.get? a=Pj { cls:=.type "list",data:=.seq O.toArray n }
 |.tup xs=>xs.length<=sizeLine/\∃O:List Pn,Vals xs O/\IsTup h a O.toArray
 |.dK kvs=>kvs.length<=sizeLine/\(a==sysModules)=Po/\∃vs,KV kvs vs/\h.DictOf (aG P w) a vs
 |.dT m ep kvs=>kvs.length<=sizeLine/\(a==sysModules)=Po/\∃xs:List (List (aJ ⊕ List aJ)×Ps×Pn),
   Paired (λ(p:List (aJ ⊕ List aJ)×V) (q:List (aJ ⊕ List aJ)×Ps×Pn)=>p.1=q.1/\TkAt H m p.1 q.2.1/\RelV p.2 q.2.2) kvs xs/\
   ∃o es,h.get? a=Pj o/\o.ExactDict/\o.data=.dict es ep/\es.toList=xs.map (entryOfKey (bE m (aG P w)))/\(xs.map (·.1)).Nodup
 |.ins C dx fs=>H dx=Pj (.own a)/\fs.length<=1000/\dx≠a/\h.get? a=Pj (Nq C dx)/\
   ∃mA,h.Ns1 dx mA/\(∀f,RelO (fs.lookup f) (mA f))/\PySem.Within mA (fs.map (·.1))
 |.own _=>∃o,h.get? a=Pj o
 |.frz o u=>h.get? a=Pj o/\ObjOk H h a u
 |.tbl ps=>h.get? a=Pj { cls:=.none,data:=.fields ps }
 |.ext B=>B h/\(∃o,h.get? a=Pj o)/\∀h1 h2:PD,B h1->(∀o,h1.get? a=Pj o->h2.get? a=Pj o)->B h2
def HOk(H:Hp)(h:PD):Prop:=∀a o,H a=Pj o->ObjOk P w H h a o
end
section
variable {P:Px} {w:PB} {H H':Hp} {h h':PD} {a:Ps} {o:HO}
theorem ObjOk.lt(x:ObjOk P w H h a o):a<h.objs.size:=by
 cases o with
 |lst c=>obtain⟨_,_,_,_,e⟩:=x;show Ml e
 |tup c=>obtain⟨_,_,_,p⟩:=x;show p.lt
 |dK b=>obtain⟨_,_,_,_,o,_,_,e,_⟩:=x;show Ml e
 |dT m f b=>obtain⟨_,_,_,_,o,_,e,_⟩:=x;show Ml e
 |ins C i j=>obtain⟨_,_,_,e,_⟩:=x;show Ml e
 |own y=>obtain⟨_,e⟩:=x;show Ml e
 |frz g u=>obtain⟨e,_⟩:=x;show Ml e
 |tbl d=>show Ml (show h.get? a=Pj _ from x)
 |ext B=>obtain⟨_,⟨_,e⟩,_⟩:=x;show Ml e
theorem Paired.mapP{α β:Type}{F G:α->β->Prop}:∀{l₁:List α} {c:List β},Paired F l₁ c->(∀a b,F a b->G a b)->Paired G l₁ c
 |_,_,.nil,_=>.nil
 |_,_,.cons r t,f=>.cons (f _ _ r) (Paired.mapP t f)
theorem ObjOk.stay(x:ObjOk P w H h a o)(k:∀b u,(b=a\/H b=Pj (.own a))->h.get? b=Pj u->h'.get? b=Pj u)
  (ho:∀b,H b=Pj (.own a)->H' b=Pj (.own a)) (ht:∀b i,H b=Pj (.tup i)->H' b=Pj (.tup i)):ObjOk P w H' h' a o:=by
 induction o with
 |lst i=>obtain⟨z,g,n,r,e⟩:=x;show⟨z,g,n,r,k _ _ (.inl rfl) e⟩
 |tup i=>obtain⟨z,g,r,f,e,c⟩:=x;show⟨z,g,r,f,k _ _ (.inl rfl) e,c⟩
 |dK s=>obtain⟨z,y,I,r,f,j,l,e,c⟩:=x;show⟨z,y,I,r,f,j,l,k _ _ (.inl rfl) e,c⟩
 |dT m l s=>
  obtain⟨z,y,i,r,f,j,e,c⟩:=x;show⟨z,y,i,Paired.mapP r λp q z=>⟨z.1,z.2.1.keep ht,z.2.2⟩,f,j,k _ _ (.inl rfl) e,c⟩
 |ins C K L=>
  obtain⟨d,z,E,e,D,⟨A,j,l,e2,c⟩,r⟩:=x;show⟨ho _ d,z,E,k _ _ (.inl rfl) e,D,⟨A,j,l,k _ _ (.inr d) e2,c⟩,r⟩
 |own y=>obtain⟨f,e⟩:=x;show⟨f,k _ _ (.inl rfl) e⟩
 |frz f u F=>obtain⟨e,q⟩:=x;show⟨k _ _ (.inl rfl) e,F q⟩
 |tbl t=>
  let e:h.get? a=Pj { cls:=.none,data:=.fields t }:=x;change h'.get? a=Pj { cls:=.none,data:=.fields t };show k a _ (.inl rfl) e
 |ext B=>obtain⟨p,⟨o,e⟩,v⟩:=x;show⟨v _ _ p λo q=>k _ _ (.inl rfl) q,⟨o,k _ _ (.inl rfl) e⟩,v⟩
theorem HOk.lt(x:HOk P w H h)(e:H a=Pj o):a<h.objs.size:=(x a o e).lt
theorem HOk.fresh(x:HOk P w H h)(e:h.objs.size<=a):H a=Pl:=by
 cases q:H a with
 |none=>rfl
 |some u=>show absurd (Mo (x.lt q) e) (Nl _)
theorem HOk.kept(x:HOk P w H h)(k:∀b u,h.get? b=Pj u->h'.get? b=Pj u):HOk P w H h':=λa o e=>
 (x a o e).stay (λb u _ q=>k b u q) (λ_ q=>q) λ_ _ q=>q
theorem HOk.laid(x:HOk P w H h)(k:∀b u,h.get? b=Pj u->h'.get? b=Pj u)(i:h.objs.size<=a)(d:ObjOk P w (upd H a o) h' a o):HOk P w (upd H a o) h':=λb u e=>by
 let f:=x.fresh i;by_cases g:b=a
 ·subst g;rw[ak] at e;cases e;show d
 ·rw[ah g] at e;show(x b u e).stay (λc v _ q=>k c v q) (λc q=>by rw[ah (aB q f)];show q) λc j q=>by rw[ah (aB q f)];show q
end
def Rd(H:Hp)(a:Ps)(u:HO):Prop:=H a=Pj u\/∃o,H a=Pj (.frz o u)
theorem Rd.ok(r:Rd H a u)(x:HOk P w H h):ObjOk P w H h a u:=by
 rcases r with r|⟨o,r⟩
 ·show x a u r
 ·obtain⟨_,q⟩:=x a _ r;show q
def FZ:Option HO->Prop
 |some (.lst _)=>True
 |some (.dK _)=>True
 |some (.dT _ _ _)=>True
 |some (.ins _ _ _)=>True
 |some (.ext _)=>True
 |_=>False
section
variable {P:Px} {w:PB} {H:Hp} {h h':PD} {x e:Ps} {o':HO}
theorem HOk.write(s:HOk P w H h)(g:FZ (H x))(n:e=x\/H e=Pj (.own x))(k:∀b u,b≠e->h.get? b=Pj u->h'.get? b=Pj u)(m:∃u,h'.get? e=Pj u)
  (new:ObjOk P w (upd H x o') h' x o'):HOk P w (upd H x o') h':=λb u q=>by
 let d:∀c y,H c=Pj (.own y)->c≠x:=λc y r z=>by subst z;rw[r] at g;show g
 let f:∀c j,H c=Pj (.tup j)->c≠x:=λc j r z=>by subst z;rw[r] at g;show g
 by_cases i:b=x
 ·subst i;rw[ak] at q;cases q;show new
 ·rw[ah i] at q;by_cases a:b=e
  ·let o:H b=Pj (.own x):=by
    rcases n with z|z
    ·show absurd (a.trans z) i
    ·rw[a];show z
   rw[q] at o;cases o;obtain⟨v,p⟩:=m;show⟨v,by rw[a];show p⟩
  ·show(s b u q).stay (λc v l r=>k c v ?_ r) (λc r=>by rw[ah (d c b r)];show r) λc j r=>by rw[ah (f c j r)];show r
   rcases l with rfl|l
   ·show a
   ·rintro rfl
    rcases n with z|z
    ·show d c b l z
    ·rw[l] at z;cases z;show i rfl
end
structure Un(fs ex:List Addr)(H H':Hp)(h h':Heap):Prop where
 keep:∀b o,h.get? b=Pj o->H b=Pl->b∉fs->b∉ex->h'.get? b=Pj o
 slot:∀b o,h.get? b=Pj o->H b=Pl->b∈fs->b∉ex->∃sl,h'.get? b=Pj { o with slots:=sl }
 free:∀b o,h.get? b=Pj o->H b=Pl->b∉ex->H' b=Pl
 there:∀b o,h.get? b=Pj o->b∉ex->∃o',h'.get? b=Pj o'
 tups:∀b xs,H b=Pj (.tup xs)->H' b=Pj (.tup xs)
 frzs:∀b o u,H b=Pj (.frz o u)->H' b=Pj (.frz o u)
 tbls:∀b ps,H b=Pj (.tbl ps)->∃more,H' b=Pj (.tbl (ps++more))
section
variable {fs fs' ex ex':List Ps} {H H1 H2:Hp} {h h1 h2 h':PD} {a x e:Ps} {o:HO}
theorem Un.any(u:Un fs ex H H1 h h1)(q:h.get? b=Pj ob)(n:H b=Pl)(a:b∉ex):∃d,h1.get? b=Pj { ob with slots:=d }:=by
 by_cases c:b∈fs
 ·show u.slot b ob q n c a
 ·show⟨ob.slots,u.keep b ob q n c a⟩
theorem Un.kept(k:∀b u,h.get? b=Pj u->h'.get? b=Pj u):Un fs ex H H h h':=
 ⟨λb a q _ _ _=>k b a q,λb a q _ _ _=>⟨a.slots,k b a q⟩,λ_ _ _ n _=>n,λb a q _=>⟨a,k b a q⟩,λ_ _ q=>q,λ_ _ _ q=>q,λ_ c q=>⟨#[],by rw[q];simp⟩⟩
theorem Un.refl:Un fs ex H H h h:=Un.kept λ_ _ q=>q
theorem Un.laid(k:∀b u,h.get? b=Pj u->h'.get? b=Pj u)(d:h.objs.size<=a)(c:H a=Pl):Un fs ex H (upd H a o) h h' where
 keep:=λb u q _ _ _=>k b u q
 slot:=λb u q _ _ _=>⟨u.slots,k b u q⟩
 free:=λb u q n _=>by rw[ah (Mr (Mo (Ml q) d))];show n
 there:=λb u q _=>⟨u,k b u q⟩
 tups:=λb e q=>by rw[ah (aB q c)];show q
 frzs:=λb u e q=>by rw[ah (aB q c)];show q
 tbls:=λb f q=>⟨#[],by rw[ah (aB q c),q];simp⟩
theorem Un.write(c:FZ (H x))(m:e=x\/H e=Pj (.own x))(k:∀b u,b≠e->h.get? b=Pj u->h'.get? b=Pj u)(d:∃u,h'.get? e=Pj u):Un fs ex H (upd H x o) h h':=by
 let g:∀b,H b=Pl->b≠x:=λb n z=>by subst z;rw[n] at c;show c
 let i:∀b,H b=Pl->b≠e:=λb n z=>by
  subst z;rcases m with r|r
  ·show g b n r
  ·rw[n] at r;cases r
 let f:∀b u,H b=Pj u->¬FZ (Pj u)->b≠x:=λb u q l z=>by subst z;rw[q] at c;show l c
 show⟨λb u q n _ _=>k b u (i b n) q,λb u q n _ _=>⟨u.slots,k b u (i b n) q⟩,λb u q n _=>by rw[ah (g b n)];show n,λb u q _=>?_,
  λb j q=>by rw[ah (f b _ q λz=>z)];show q,λb u j q=>by rw[ah (f b _ q λz=>z)];show q,λb p q=>⟨#[],by rw[ah (f b _ q λz=>z),q];simp⟩⟩
 by_cases a:b=e
 ·subst a;show d
 ·show⟨u,k b u a q⟩
end
noncomputable def I0(h:PD)(H:Hp):List Ps:=(MH h.objs.size).filter λa=>(H a).isSome
def mI(h:PD)(H:Hp):PD:=PySem.W.hideAll h (I0 h H)
theorem uF(h:PD)(H:Hp):(mI h H).objs.size=h.objs.size:=PySem.W.hideAll_size _ _
theorem v7{h:PD}{H:Hp}(e:h.get? b=Pj o)(n:H b=Pl):(mI h H).get? b=Pj o:=
 PySem.W.hideAll_get _ e λa=>by
  let q:(H b).isSome=Pm:=(Pe.mp a).2;rw[n] at q;simp at q
theorem zi{h:PD}{H:Hp}(e:(mI h H).get? b=Pj o):h.get? b=Pj o/\H b=Pl:=by
 let a:h.get? b=Pj o:=PySem.W.of_hideAll (I0 h H) e;show⟨a,?_⟩
 cases q:H b with
 |none=>rfl
 |some x=>
  let c:b∈I0 h H:=Pe.mpr ⟨NK.mpr (Ml a),by simp[q]⟩;let z:(mI h H).get? b=Pl:=PySem.W.hideAll_none (I0 h H) c;rw[z] at e;cases e
def zj(g h:PD)(L:Ps):List (Ps×Obj):=(MH h.objs.size).filterMap λa=>if a=L\/(g.get? a).isSome=Pm then Pl else(h.get? a).map λo=>(a,o)
def rest(g h:PD)(L d:Ps):List (Ps×Obj):=(zj g h L).filter λp=>decide (p.1≠d)
structure Mod(K:Md)(mg:Str->Option Value)(base:Heap):Prop where
 kin:K.In base
 glob:base.Ns PF mg
 blt:∃mb,base.Ns builtinsNs mb/\∀x:Str,x≠"__name__"->mb x=bootBuiltins x
 nolimit:base.NoLimit
structure Cx where
 prog:Px
 w:PB
 K:Md
 mg:Str->Option Pn
 base:PD
 A:PC
 N:List Str
 s₀:Pt
 H₀:Hp
 env:Env
 outer:List Env
 stack:List Env
 ex:List Ps
 fn:Str->Bool
 calm:Bool
 pn:List (Ps×Obj)
 xe:Pn->Pt->Prop
noncomputable def vW(l:List Env):List Ps:=l.filterMap (·.frame)
abbrev Cx.fs(X:Cx):List Ps:=vW X.outer
def F5(q:PH)(x:Str):Prop:=q.names.lookup x=Pj .local\/q.names.lookup x=Pj .cell\/q.names.lookup x=Pj .free
def Bw(q:PH)(x:Str):Prop:=q.names.lookup x=Pj .local\/q.names.lookup x=Pj .cell
def Jr(env:Env)(h:PD)(m:Str->Option Pn)(x:Str)(u:Pn):Prop:=
 (env.kindOf x=Pj .local/\m x=Pj u)\/((env.kindOf x=Pj .cell\/env.kindOf x=Pj .free)/\∃c,env.cells.lookup x=Pj c/\h.IsCell c (Pj u))
structure Cx.Ok(X:Cx):Prop where
 mod:Mod X.K X.mg X.base
 kind:X.env.scope.kind=.function
 glob:X.env.globals=PF
 blt:X.env.builtins=builtinsNs
 above:X.s₀.heap.objs.size<=X.env.locals
 inj:∀x y c,X.env.cells.lookup x=Pj c->X.env.cells.lookup y=Pj c->x=y
 has:∀x,(X.env.kindOf x=Pj .cell\/X.env.kindOf x=Pj .free)->∃c,X.env.cells.lookup x=Pj c
 cab:∀x c,X.fn x=Pm->X.env.cells.lookup x=Pj c->X.s₀.heap.objs.size<=c
 hd:X.calm=Pm->X.A.handled=Pl
 frames:X.A.frames=Pj X.stack
 stk:X.stack=X.outer\/(X.stack=X.env::X.outer/\X.env.frame=Pj X.env.locals)
 exf:∀b∈X.ex,b≠X.env.locals/\∀x c,X.env.cells.lookup x=Pj c->c≠b
 bs:∀b o,X.base.get? b=Pj o->X.s₀.heap.get? b=Pj o/\X.H₀ b=Pl
 bsz:X.base.objs.size<=X.s₀.heap.objs.size
 noex:∀b o,X.base.get? b=Pj o->b∉X.ex
 exfs:∀b∈X.ex,b∉X.fs
 funs:X.s₀.heap.FunFrames X.base X.outer
 frf:∀b∈X.fs,X.H₀ b=Pl
structure Inv(X:Cx)(pins:List (Addr×Obj))(Z:List (Option V))(H:Hp)(s:Shared):Prop where
 ok:X.Ok
 os:s.os=X.s₀.os
 bare:AllBare s.gens
 base:Un X.fs X.ex X.H₀ H X.s₀.heap s.heap
 loc:∃m,s.heap.Ns X.env.locals m/\∀(i:Nat) (x:Str) (v:V),X.N[i]?=Pj x->Z[i]?=Pj (Pj v)->F5 X.env.scope x->∃u,RelV v u/\Jr X.env s.heap m x u
 cell:∀x c,X.env.cells.lookup x=Pj c->∃v,s.heap.IsCell c v
 free:H X.env.locals=Pl
 freeC:∀x c,X.env.cells.lookup x=Pj c->H c=Pl
 pin:∀p∈X.pn++pins,s.heap.get? p.1=Pj p.2/\H p.1=Pl/\p.1≠X.env.locals/\p.1∉X.fs/\∀v,p.2.data≠.cell v
 hok:HOk X.prog X.w H s.heap
 len:Z.length=X.N.length
section
variable {X:Cx} {pins:List (Ps×Obj)} {Z:List (Option V)} {H H':Hp} {s:Pt} {h':PD}
theorem Cx.Ok.nofr(a:X.Ok)(e:X.base.get? b=Pj o):b∉X.fs:=λc=>by
 have:=(a.funs.mem c).1;rw[e] at this;cases this
theorem Inv.bs(I:Inv X pins Z H s):∀b o,X.base.get? b=Pj o->s.heap.get? b=Pj o/\H b=Pl:=λb o e=>
 ⟨I.base.keep b o (I.ok.bs b o e).1 (I.ok.bs b o e).2 (I.ok.nofr e) (I.ok.noex b o e),I.base.free b o (I.ok.bs b o e).1 (I.ok.bs b o e).2 (I.ok.noex b o e)⟩
theorem Inv.bk(I:Inv X pins Z H s):∀b o,X.base.get? b=Pj o->s.heap.get? b=Pj o:=λb o e=>(I.bs b o e).1
theorem Inv.mod(I:Inv X pins Z H s):Mod X.K X.mg X.base:=I.ok.mod
theorem Inv.kIn(I:Inv X pins Z H s):X.K.In s.heap:=I.ok.mod.kin.keeps I.bk
theorem Inv.lt(I:Inv X pins Z H s):X.env.locals<s.heap.objs.size:=let ⟨_,hn,_⟩:=I.loc;hn.lt
theorem Inv.sz(I:Inv X pins Z H s):X.s₀.heap.objs.size<=s.heap.objs.size:=MP I.ok.above (NX I.lt)
theorem Inv.nofs(I:Inv X pins Z H s)(h:s.heap.objs.size<=a):a∉X.fs:=λc=>by
 obtain⟨_,o,b,_⟩:=I.ok.funs.mem c;show absurd (Mo (Ml b) (MP I.sz h)) (Nl _)
theorem Inv.cne(I:Inv X pins Z H s):∀x c,X.env.cells.lookup x=Pj c->c≠X.env.locals:=λx c e z=>by
 obtain⟨v,o,f,d⟩:=I.cell x c e;obtain⟨m,⟨h,g,i,a,b,_⟩,_⟩:=I.loc;rw[z,a] at f;cases f;rw[b] at d;cases d
theorem Inv.funs(I:Inv X pins Z H s):s.heap.FunFrames X.base X.outer:=by
 let d:∀(l:List Env),(∀b∈vW l,b∈X.fs)->X.s₀.heap.FunFrames X.base l->s.heap.FunFrames X.base l:=by
  intro l
  induction l with
  |nil=>intro _ _;trivial
  |cons k r p=>
   intro g n;obtain⟨hk,⟨L,o,a,m,j,i⟩,h⟩:=n;let f:L∈X.fs:=g L (by unfold vW;rw[MU,a];show MD);obtain⟨q,e⟩:=I.base.slot L o j (I.ok.frf L f) f λz=>I.ok.exfs L z f;show⟨hk,⟨L,_,a,m,e,i⟩,p (λb c=>g b (by unfold vW;rw[MU,a];show Mt _ c)) h⟩
 show d X.outer (λ_ c=>c) I.ok.funs
theorem Inv.stack(I:Inv X pins Z H s):s.heap.FunFrames X.base X.stack:=by
 rcases I.ok.stk with e|⟨e,b⟩
 ·rw[e];show I.funs
 ·rw[e];obtain⟨m,a,_⟩:=I.loc;show .cons (by rw[I.ok.kind];decide) b a ?_ I.funs;show Heap.get?_none_of_le (MP I.ok.bsz I.ok.above)
theorem Inv.stkSub(I:Inv X pins Z H s):∀b∈vW X.stack,b∈X.env.locals::X.fs:=λb a=>by
 rcases I.ok.stk with e|⟨e,c⟩
 ·rw[e] at a;show Mt _ a
 ·rw[e] at a;unfold vW at a;rw[MU,c] at a;show a
theorem Inv.stkFree(I:Inv X pins Z H s):∀b∈vW X.stack,H b=Pl:=λb a=>by
 rcases Mn.mp (I.stkSub b a) with e|a
 ·rw[e];show I.free
 ·obtain⟨_,o,c,_⟩:=I.ok.funs.mem a;show I.base.free b o c (I.ok.frf b a) λz=>I.ok.exfs b z a
theorem Inv.step{t':Nat}{ch:List Ps}(I:Inv X pins Z H s)(h:∀b∈ch,(b∈X.ex\/X.s₀.heap.objs.size<=b)/\b≠X.env.locals/\(∀x c,X.env.cells.lookup x=Pj c->c≠b)/\∀p∈X.pn++pins,p.1≠b)(t:∀b o,b≠X.env.locals->b∉X.fs->b∉ch->s.heap.get? b=Pj o->H b=Pl->h'.get? b=Pj o)(A:∀b o,b≠X.env.locals->b∈X.fs->b∉ch->s.heap.get? b=Pj o->H b=Pl->∃O,h'.get? b=Pj { o with slots:=O })(f:∀b o,b∉ch->s.heap.get? b=Pj o->H b=Pl->H' b=Pl)(C:∀b o,b∉ch->s.heap.get? b=Pj o->∃o',h'.get? b=Pj o')(L:∀b xs,H b=Pj (.tup xs)->H' b=Pj (.tup xs))(F:∀b o u,H b=Pj (.frz o u)->H' b=Pj (.frz o u))(K:∀b ps,H b=Pj (.tbl ps)->∃M,H' b=Pj (.tbl (ps++M)))(ns:∀m,s.heap.Ns X.env.locals m->h'.Ns X.env.locals m)(Q:HOk X.prog X.w H' h')(hg:AllBare g') :
  Inv X pins Z H' { s with heap:=h',gens:=g',drawn:=d',toks:=t' }:=by
 let E:∀b o,X.s₀.heap.get? b=Pj o->b≠X.env.locals:=λb o e=>Mr (Mo (Ml e) I.ok.above)
 let y:∀b o,X.s₀.heap.get? b=Pj o->b∉X.ex->b∉ch:=λb o e a B=>by
  rcases(h b B).1 with z|z
  ·show a z
  ·show absurd (Mo (Ml e) z) (Nl _)
 let g:∀x c,X.env.cells.lookup x=Pj c->∀v,s.heap.IsCell c v->h'.IsCell c v:=λx c e v ⟨o,D,N⟩=>by
  let j:c∉ch:=λz=>(h c z).2.2.1 x c e rfl;by_cases T:c∈X.fs
  ·obtain⟨O,q⟩:=A c o (I.cne x c e) T j D (I.freeC x c e);show⟨_,q,N⟩
  ·show⟨o,t c o (I.cne x c e) T j D (I.freeC x c e),N⟩
 show⟨I.ok,I.os,hg,⟨λb o e n B a=>?_,λb o e n B a=>?_,λb o e n a=>?_,λb o e a=>?_,λb xs e=>L b xs (I.base.tups b xs e),λb o xs e=>F b o xs (I.base.frzs b o xs e),λb ps e=>?_⟩,?_,λx c e=>?_,?_,λx c e=>?_,λp R=>?_,Q,I.len⟩
 ·show t b o (E b o e) B (y b o e a) (I.base.keep b o e n B a) (I.base.free b o e n a)
 ·obtain⟨O,e1⟩:=I.base.slot b o e n B a;obtain⟨P,e2⟩:=A b _ (E b o e) B (y b o e a) e1 (I.base.free b o e n a);show⟨P,e2⟩
 ·obtain⟨o',e1⟩:=I.base.there b o e a;show f b o' (y b o e a) e1 (I.base.free b o e n a)
 ·obtain⟨o',e1⟩:=I.base.there b o e a;show C b o' (y b o e a) e1
 ·obtain⟨m1,e1⟩:=I.base.tbls b ps e;obtain⟨Y,e2⟩:=K b _ e1;show⟨m1++Y,by rw[e2,Array.append_assoc]⟩
 ·obtain⟨m,V,W⟩:=I.loc;show⟨m,ns m V,λi x v e1 e2 e3=>?_⟩;obtain⟨u,r,l⟩:=W i x v e1 e2 e3;show⟨u,r,?_⟩;rcases l with l|⟨k,c,e,z⟩
  ·show .inl l
  ·show .inr ⟨k,c,e,g x c e _ z⟩
 ·obtain⟨v,z⟩:=I.cell x c e;show⟨v,g x c e v z⟩
 ·obtain⟨m,⟨o,_,_,D,_⟩,_⟩:=I.loc;show f _ o (λz=>(h _ z).2.1 rfl) D I.free
 ·obtain⟨v,o,D,N⟩:=I.cell x c e;show f c o (λz=>(h c z).2.2.1 x c e rfl) D (I.freeC x c e)
 ·obtain⟨e,n,S,U,d⟩:=I.pin p R;let j:p.1∉ch:=λz=>(h p.1 z).2.2.2 p R rfl;show⟨t p.1 p.2 S U j e n,f p.1 p.2 j e n,S,U,d⟩
theorem Inv.un{t':Nat}(I:Inv X pins Z H s)(u:Un X.fs [] H H' s.heap h')(f:HOk X.prog X.w H' h'):Inv X pins Z H' { s with heap:=h',toks:=t' }:=by
 obtain⟨m,⟨o,q,l,h,r⟩,_⟩:=id I.loc;obtain⟨p,k⟩:=u.any h I.free (by simp)
 show I.step (g':=s.gens) (d':=s.drawn) (ch:=[]) (λ_ z=>nomatch z) (λb o _ c _ e n=>u.keep b o e n c (by simp)) (λb o _ c _ e n=>u.slot b o e n c (by simp)) (λb o _ e n=>u.free b o e n (by simp)) (λb o _ e=>u.there b o e (by simp)) u.tups u.frzs u.tbls (λt i=>by
  obtain⟨v,d,g,a,j⟩:=i;rw[h] at a;cases a;show⟨_,d,g,k,j⟩) f I.bare
theorem Inv.call{t':Nat}{ch:List Ps}(I:Inv X pins Z H s)(u:Un (vW X.stack) ch H H' s.heap h')(h:HOk X.prog X.w H' h')(l:AllBare g')(f:∀b∈ch,(b∈X.ex\/X.s₀.heap.objs.size<=b)/\b≠X.env.locals/\(∀x c,X.env.cells.lookup x=Pj c->c≠b)/\∀p∈X.pn++pins,p.1≠b) :
  Inv X pins Z H' { s with heap:=h',gens:=g',drawn:=d',toks:=t' }:=by
 obtain⟨m,⟨o,B,y,k,r⟩,_⟩:=id I.loc;obtain⟨A,j⟩:=u.any k I.free λz=>(f _ z).2.1 rfl
 show I.step (ch:=ch) f (λb o j t a e n=>u.keep b o e n (λz=>(Mn.mp (I.stkSub b z)).elim j t) a) (λb o _ _ a e n=>u.any e n a) (λb o a e n=>u.free b o e n a) (λb o a e=>u.there b o e a) u.tups u.frzs u.tbls (λC q=>by
  obtain⟨D,g,i,d,v⟩:=q;rw[k] at d;cases d;show⟨_,g,i,j,v⟩) h l
theorem Inv.turned{t':Nat}{it:Ps}(I:Inv X pins Z H s)(k:∀b o,b≠it->s.heap.get? b=Pj o->h'.get? b=Pj o)(i:H it=Pl)(f:it≠X.env.locals)
  (h1:it∈X.ex\/X.s₀.heap.objs.size<=it) (h2:∀x c,X.env.cells.lookup x=Pj c->c≠it) (h3:∀p∈X.pn++pins,p.1≠it):Inv X pins Z H { s with heap:=h',toks:=t' }:=by
 let d:∀b u,H b=Pj u->b≠it:=λb u e z=>by rw[z,i] at e;cases e
 show I.step (g':=s.gens) (d':=s.drawn) (ch:=[it]) (λb l=>?_) (λb o _ _ a e _=>k b o (λz=>a (by simp[z])) e) (λb o _ _ a e _=>⟨o.slots,k b o (λz=>a (by simp[z])) e⟩) (λ_ _ _ _ n=>n)
  (λb o a e=>⟨o,k b o (λz=>a (by simp[z])) e⟩) (λ_ _ e=>e) (λ_ _ _ e=>e) (λb w e=>⟨#[],by rw[e];simp⟩) (λm j=>?_) (λb u e=>?_) I.bare
 ·let e:b=it:=by simpa using l
  subst e;show⟨h1,f,h2,h3⟩
 ·obtain⟨o,t,h,g,r⟩:=j;show⟨o,t,h,k _ o (Ne.symm f) g,r⟩
 ·show(I.hok b u e).stay (λc v a q=>k c v ?_ q) (λ_ q=>q) λ_ _ q=>q;rcases a with z|z
  ·rw[z];show d b u e
  ·show d c _ z
theorem Inv.tok(I:Inv X pins Z H s)(t:Nat):Inv X pins Z H { s with toks:=t }:=I.un (h':=s.heap) (t':=t) Un.refl I.hok
theorem Inv.kept{t':Nat}(I:Inv X pins Z H s)(k:∀b u,s.heap.get? b=Pj u->h'.get? b=Pj u):Inv X pins Z H { s with heap:=h',toks:=t' }:=I.un (Un.kept k) (I.hok.kept k)
theorem Inv.laid{t':Nat}(I:Inv X pins Z H s)(k:∀b u,s.heap.get? b=Pj u->h'.get? b=Pj u)(c:s.heap.objs.size<=a)(d:ObjOk X.prog X.w (upd H a o) h' a o) :
  Inv X pins Z (upd H a o) { s with heap:=h',toks:=t' }:=I.un (Un.laid k c (I.hok.fresh c)) (I.hok.laid k c d)
theorem Inv.write{x e:Ps}{t':Nat}(I:Inv X pins Z H s)(d:FZ (H x))(f:e=x\/H e=Pj (.own x))(k:∀b u,b≠e->s.heap.get? b=Pj u->h'.get? b=Pj u)(a:∃u,h'.get? e=Pj u)(c:ObjOk X.prog X.w (upd H x o) h' x o):Inv X pins Z (upd H x o) { s with heap:=h',toks:=t' }:=I.un (Un.write d f k a) (I.hok.write d f k a c)
theorem Inv.pins_of{a:List (Ps×Obj)}(I:Inv X pins Z H s)(h:∀p∈a,s.heap.get? p.1=Pj p.2/\H p.1=Pl/\p.1≠X.env.locals/\p.1∉X.fs/\∀v,p.2.data≠.cell v):Inv X a Z H s:=
 ⟨I.ok,I.os,I.bare,I.base,I.loc,I.cell,I.free,I.freeC,λp b=>(MQ.mp b).elim (λz=>I.pin p (NH _ z)) (h p),I.hok,I.len⟩
theorem oa{N:List Str}(c:N.Nodup){i j:Nat}(a:N[i]?=Pj x)(b:N[j]?=Pj x):i=j:=by
 obtain⟨e,e1⟩:=Mg.mp a;obtain⟨d,e2⟩:=Mg.mp b;show(List.getElem_inj c).mp (e1.trans e2.symm)
theorem iN{i:Nat}{Q:Unit->Pt->Prop}(I:Inv X pins Z H s)(hN:X.N.Nodup)(hi:X.N[i]?=Pj x)(t:Bw X.env.scope x)(r:RelV v u)(h:∀s',Inv X pins (Z.set i (Pj v)) H s'->(∃a,Heap.SameBut a s.heap s'.heap/\(a=X.env.locals\/X.env.cells.lookup x=Pj a))->Q () s')(hf:X.fn x=Pm\/X.env.scope.names.lookup x=Pj .local:=by first|show .inl rfl|show .inr rfl|assumption):Pv M A (storeName X.env x u) Q E s:=by
 obtain⟨m,hn,hl⟩:=id I.loc;let S:(X.env.scope.kind==.class||(X.env.scope.kind==.module&&X.env.locals != X.env.globals))=Po:=by rw[I.ok.kind];rfl
 let P:i<Z.length:=by rw[I.len];show(Mg.mp hi).1
 let K:=I.cne
 let g:∀{a:Ps} {L:PD},(∃o,s.heap.get? a=Pj o/\H a=Pl)->Heap.SameBut a s.heap L->HOk X.prog X.w H L:=λ{a L} ha f b ob e=>by
  obtain⟨_,_,B⟩:=ha;show(I.hok b ob e).stay (λc W l q=>(f.2 c ?_).trans q) (λ_ q=>q) λ_ _ q=>q
  rintro rfl
  rcases l with rfl|l
  ·rw[B] at e;cases e
  ·rw[B] at l;cases l
 rcases t with hk|hk
 ·show wpAny_storeName_local hk hn (λL hd f=>?_) S;obtain⟨oL,_,_,he,_⟩:=id hn;show h _ ⟨I.ok,I.os,I.bare,⟨λb o e n C t=>?_,λb o e n C t=>?_,I.base.free,λb o e t=>?_,I.base.tups,I.base.frzs,I.base.tbls⟩,⟨_,hd,λj y v' e1 e2 e3=>?_⟩,λy c e=>?_,I.free,I.freeC,λp hp=>?_,g ⟨oL,he,I.free⟩ f,by simpa using I.len⟩ ⟨_,f,.inl rfl⟩
  ·show(f.2 b (Mr (Mo (Ml e) I.ok.above))).trans (I.base.keep b o e n C t)
  ·obtain⟨sl,e1⟩:=I.base.slot b o e n C t;show⟨sl,(f.2 b (Mr (Mo (Ml e) I.ok.above))).trans e1⟩
  ·obtain⟨o',e1⟩:=I.base.there b o e t;show⟨o',(f.2 b (Mr (Mo (Ml e) I.ok.above))).trans e1⟩
  ·by_cases D:j=i
   ·subst D;rw[hi] at e1;cases e1;rw[MK P] at e2;cases e2;show⟨u,r,.inl ⟨hk,by simp⟩⟩
   ·rw[MG (Ne.symm D)] at e2;obtain⟨u',r',q⟩:=hl j y v' e1 e2 e3;show⟨u',r',?_⟩;rcases q with⟨k,e⟩|⟨k,c,e,z⟩
    ·show .inl ⟨k,?_⟩;have:y≠x:=λe=>D (oa hN e1 (e▸hi));simp[this,e]
    ·show .inr ⟨k,c,e,z.sameBut f (K y c e)⟩
  ·obtain⟨W,z⟩:=I.cell y c e;show⟨W,z.sameBut f (K y c e)⟩
  ·obtain⟨e,n,V,nf,d⟩:=I.pin p hp;show⟨(f.2 p.1 V).trans e,n,V,nf,d⟩
 ·let F:X.fn x=Pm:=by
   rcases hf with z|z
   ·show z
   ·rw[z] at hk;cases hk
  obtain⟨c,l⟩:=I.ok.has x (.inl hk);obtain⟨W,z⟩:=I.cell x c l;show wpAny_storeName_cell I.ok.kind hk l z (λL O f=>?_);obtain⟨oc,R,T⟩:=id z;show h { s with heap:=L } ⟨I.ok,I.os,I.bare,⟨λb o e n C t=>?_,λb o e n C t=>?_,I.base.free,λb o e t=>?_,I.base.tups,I.base.frzs,I.base.tbls⟩,⟨m,hn.sameBut f (Ne.symm (K x c l)),λj y v' e1 e2 e3=>?_⟩,λy Y e=>?_,I.free,I.freeC,λp hp=>?_,g ⟨oc,R,I.freeC x c l⟩ f,by simpa using I.len⟩ ⟨c,f,.inr l⟩
  ·show(f.2 b (Mr (Mo (Ml e) (I.ok.cab x c F l)))).trans (I.base.keep b o e n C t)
  ·obtain⟨sl,e1⟩:=I.base.slot b o e n C t;show⟨sl,(f.2 b (Mr (Mo (Ml e) (I.ok.cab x c F l)))).trans e1⟩
  ·obtain⟨o',e1⟩:=I.base.there b o e t;show⟨o',(f.2 b (Mr (Mo (Ml e) (I.ok.cab x c F l)))).trans e1⟩
  ·by_cases D:j=i
   ·subst D;rw[hi] at e1;cases e1;rw[MK P] at e2;cases e2;show⟨u,r,.inr ⟨.inl hk,c,l,O⟩⟩
   ·rw[MG (Ne.symm D)] at e2;obtain⟨u',r',q⟩:=hl j y v' e1 e2 e3;show⟨u',r',?_⟩;rcases q with q|⟨k,Y,e,z'⟩
    ·show .inl q
    ·show .inr ⟨k,Y,e,z'.sameBut f ?_⟩
     rintro rfl
     show D (oa hN e1 (I.ok.inj _ _ _ e l▸hi))
  ·by_cases U:Y=c
   ·subst U;show⟨_,O⟩
   ·obtain⟨w2,z2⟩:=I.cell y Y e;show⟨w2,z2.sameBut f U⟩
  ·obtain⟨e,n,V,nf,d⟩:=I.pin p hp;show⟨(f.2 p.1 ?_).trans e,n,V,nf,d⟩;intro q;rw[q,R] at e;let q':oc=p.2:=Option.some.inj e;show d W (by rw[<- q'];show T)
theorem j8{i:Nat}{Q:Unit->Pt->Prop}(I:Inv X pins Z H s)(d:X.N.Nodup)(hi:X.N[i]?=Pj x)(b:Bw X.env.scope x)(r:RelV v u)(h:∀s',Inv X pins (Z.set i (Pj v)) H s'->Q () s')(c:X.fn x=Pm\/X.env.scope.names.lookup x=Pj .local:=by first|show .inl rfl|show .inr rfl|assumption):Pv M A (storeName X.env x u) Q E s:=
 iN I d hi b r (λs' a _=>h s' a) c
theorem Inv.call'{s':Pt}{ch:List Ps}(I:Inv X pins Z H s)(d:s'.os=s.os)(u:Un (vW X.stack) ch H H' s.heap s'.heap)(a:HOk X.prog X.w H' s'.heap)(g:AllBare s'.gens)
  (hch:∀b∈ch,(b∈X.ex\/X.s₀.heap.objs.size<=b)/\b≠X.env.locals/\(∀x c,X.env.cells.lookup x=Pj c->c≠b)/\∀p∈X.pn++pins,p.1≠b):Inv X pins Z H' s':=by
 obtain⟨h,g',d',t',f⟩:=s';let e:f=s.os:=d;subst e;show I.call (g':=g') (t':=t') (d':=d') u a g hch
end
abbrev XK:=Pn->Option Ps->Hp->Prop
abbrev St:=List (Option V)
abbrev VK:=V->Hp->Prop
abbrev TE:=St->Hp->VK->Prop
abbrev TT:=St->Hp->(Bool->Hp->Prop)->Prop
abbrev TA:=St->Hp->(List V->Hp->Prop)->Prop
structure iO where
 nx:St->Hp->Prop
 rt:VK
 bk:St->Hp->Prop:=λ_ _=>False
 ct:St->Hp->Prop:=λ_ _=>False
abbrev TS:=iO->St->Hp->Prop
def EP(X:Cx)(pins:List (Ps×Obj))(Z:St)(Q:VK)(u:Pn)(s':Pt):Prop:=∃v H',Inv X pins Z H' s'/\RelV v u/\Q v H'
def TP(X:Cx)(pins:List (Ps×Obj))(Z:St)(Q:Bool->Hp->Prop)(b:Bool)(s':Pt):Prop:=∃H',Inv X pins Z H' s'/\Q b H'
def AP(X:Cx)(pins:List (Ps×Obj))(Z:St)(Q:List V->Hp->Prop)(us:List Pn)(s':Pt):Prop:=∃vs H',Inv X pins Z H' s'/\Vals vs us/\Q vs H'
def SP(X:Cx)(pins:List (Ps×Obj))(D:iO)(f:Flow)(s':Pt):Prop:=
 match f with
 |.next=>∃Z' H',Inv X pins Z' H' s'/\D.nx Z' H'
 |.brk=>∃Z' H',Inv X pins Z' H' s'/\D.bk Z' H'
 |.cont=>∃Z' H',Inv X pins Z' H' s'/\D.ct Z' H'
 |.ret u=>∃v Z' H',Inv X pins Z' H' s'/\RelV v u/\D.rt v H'
def PE(X:Cx)(e:Pp)(t:TE):Prop:=
 ∀(pins:List (Ps×Obj)) (s:Pt) (Z:St) (H:Hp) (Q:VK),Inv X pins Z H s->t Z H Q->Pv (Pw X.prog X.w) X.A (eval e X.env) (EP X pins Z Q) X.xe s
def PT(X:Cx)(e:Pp)(t:TT):Prop:=
 ∀(pins:List (Ps×Obj)) (s:Pt) (Z:St) (H:Hp) (Q:Bool->Hp->Prop),Inv X pins Z H s->t Z H Q->Pv (Pw X.prog X.w) X.A (isTrue e X.env (eval e X.env)) (TP X pins Z Q) X.xe s
def PW(X:Cx)(e:Pp)(t:TT):Prop:=
 ∀(q:Sem Pn) (pins:List (Ps×Obj)) (s:Pt) (Z:St) (H:Hp) (Q:Bool->Hp->Prop),Inv X pins Z H s->t Z H Q->Pv (Pw X.prog X.w) X.A (isTrue e X.env q) (TP X pins Z Q) X.xe s
def PA(X:Cx)(es:List Pp)(t:TA):Prop:=
 ∀(pos:Pos) (pins:List (Ps×Obj)) (s:Pt) (Z:St) (H:Hp) (Q:List V->Hp->Prop),Inv X pins Z H s->t Z H Q->Pv (Pw X.prog X.w) X.A (spliced (backTo pos (Py es X.env))) (AP X pins Z Q) X.xe s
def PS(X:Cx)(st:Pz)(t:TS):Prop:=
 ∀(pins:List (Ps×Obj)) (s:Pt) (Z:St) (H:Hp) (D:iO),Inv X pins Z H s->t D Z H->Pv (Pw X.prog X.w) X.A (exec st X.env) (SP X pins D) X.xe s
def PSs(X:Cx)(st:List Pz)(t:TS):Prop:=
 ∀(pins:List (Ps×Obj)) (s:Pt) (Z:St) (H:Hp) (D:iO),Inv X pins Z H s->t D Z H->Pv (Pw X.prog X.w) X.A (execs st X.env) (SP X pins D) X.xe s
theorem a5{α:Type}{t:Sem α}{Q b:α->Pt->Prop}{M:Model}{A:PC}{E:Pn->Pt->Prop}{s:Pt}(h:Pv M A t Q E s)(c:∀a s,Q a s->b a s):Pv M A t b E s:=wpAny_mono h c λ_ _ x=>x
section
variable {X:Cx}
def Js(i:Nat):TE:=λZ H Q=>∃v,Z[i]?=Pj (Pj v)/\Q v H
def tC(v:V):TE:=λ_ H Q=>Q v H
theorem qi{i:Nat}(p:X.N[i]?=Pj x)(j:F5 X.env.scope x)(hd:(x==("__debug__":Str))=Po:=by decide)(f:(x==("__classdict__":Str))=Po:=by decide):PE X (.Name x pos) (Js i):=by
 intro d s Z H Q I h;obtain⟨v,e,h⟩:=h;obtain⟨m,k,n⟩:=I.loc;obtain⟨u,r,l⟩:=n i x v p e j;let b:EP X d Z Q u s:=⟨v,H,I,r,h⟩;rcases l with⟨hk,o⟩|⟨hk,c,g,a⟩
 ·show wpAny_Name (wpAny_loadName_local I.ok.kind hk k o b) hd
 ·rcases hk with hk|hk
  ·show wpAny_Name (wpAny_loadName_cell I.ok.kind hk g a b) hd
  ·show wpAny_Name (wpAny_loadName_free I.ok.kind hk g a b f) hd
theorem CI{i j pos}:PE X (.Constant (.int i) j pos) (tC (.int i)):=λ_ _ _ H _ I h=>wpAny_Constant_int ⟨.int i,H,I.tok _,⟨_,rfl⟩,h⟩
theorem F6{b j pos}:PE X (.Constant (.bool b) j pos) (tC (.bl b)):=λ_ _ _ H _ I h=>Constant_bool ⟨.bl b,H,I,rfl,h⟩
theorem CJ{j pos}:PE X (.Constant .none j pos) (tC .non):=λ_ _ _ H _ I h=>Constant_none ⟨.non,H,I,rfl,h⟩
theorem CK{x j pos}:PE X (.Constant (.str x) j pos) (tC (.str x)):=λ_ _ _ H _ I h=>Calls.Constant_str ⟨.str x,H,I.tok _,⟨_,rfl⟩,h⟩
def Gl(X:Cx)(x:Str):Prop:=X.env.kindOf x=Pj .globalImplicit
theorem gX{Q:Pn->Pt->Prop}(I:Inv X pins Z H s)(b:Gl X x)(a:X.mg x=Pj u)(h:Q u s)(hd:(x==("__debug__":Str))=Po:=by decide):Pv (Pw X.prog X.w) X.A (eval (.Name x pos) X.env) Q E s:=
 Calls.Name_function_global I.ok.kind b (Calls.loadGlobal_global (by rw[I.ok.glob];show I.mod.glob.keeps I.bk) a h) hd
theorem cI{Q:Pn->Pt->Prop}(I:Inv X pins Z H s)(d:Gl X x)(e:X.mg x=Pl)(a:bootBuiltins x=Pj u)(h:Q u s)(b:x≠"__name__":=by decide)(hd:(x==("__debug__":Str))=Po:=by decide):Pv (Pw X.prog X.w) X.A (eval (.Name x pos) X.env) Q E s:=by
 obtain⟨g,f,c⟩:=I.mod.blt;show Calls.Name_function_global I.ok.kind d (Calls.loadGlobal_builtin (by rw[I.ok.glob];show I.mod.glob.keeps I.bk) e (by rw[I.ok.blt];show f.keeps I.bk) ((c x b).trans a) h) hd
theorem zk(a:Gl X x)(b:X.mg x=Pj u)(r:RelV v u)(hd:(x==("__debug__":Str))=Po:=by decide):PE X (.Name x pos) (tC v):=
 λ_ _ _ H _ I h=>gX I a b ⟨v,H,I,r,h⟩ hd
theorem zl(c:Gl X x)(d:X.mg x=Pl)(a:bootBuiltins x=Pj u)(r:RelV v u)(b:x≠"__name__":=by decide)(hd:(x==("__debug__":Str))=Po:=by decide):PE X (.Name x pos) (tC v):=
 λ_ _ _ H _ I h=>cI I c d a ⟨v,H,I,r,h⟩ b hd
variable {a b:Pp} {ta tb:TE} {pos:Pos}
variable {tA tB':TT} {rest:List Pp}
def Jt(t u:TT):TT:=λZ H Q=>t Z H λc H1=>if c=Pm then u Z H1 Q else Q Po H1
def LU(t u:TT):TT:=λZ H Q=>t Z H λc H1=>if c=Pm then Q Pm H1 else u Z H1 Q
def Ju(t:TT):TT:=λZ H Q=>t Z H λc H1=>Q (!c) H1
theorem zm(d:PT X a tA):PW X (.BoolOp .And [a] pos) tA:=by
 intro f b s Z H Q I h;show isTrue_and (a5 (d b s Z H Q I h) λc s1 e=>?_)
 cases c with
 |true=>show isTrue_and_nil e
 |false=>show e
theorem CL(d:PT X a tA):PW X (.BoolOp .Or [a] pos) tA:=by
 intro f b s Z H Q I h;show isTrue_or (a5 (d b s Z H Q I h) λc s1 e=>?_)
 cases c with
 |false=>show isTrue_or_nil e
 |true=>show e
theorem v8(j:PT X a tA)(k:PW X (.BoolOp .And (b::rest) pos) tB'):PW X (.BoolOp .And (a::b::rest) pos) (Jt tA tB'):=by
 intro i d s Z H Q I h;show isTrue_and (a5 (j d s Z H _ I h) λc s1 ⟨f,e,g⟩=>?_)
 cases c with
 |true=>show k i d s1 Z f Q e g
 |false=>show⟨f,e,g⟩
theorem Bx(j:PT X a tA)(k:PW X (.BoolOp .Or (b::rest) pos) tB'):PW X (.BoolOp .Or (a::b::rest) pos) (LU tA tB'):=by
 intro i d s Z H Q I h;show isTrue_or (a5 (j d s Z H _ I h) λc s1 ⟨f,e,g⟩=>?_)
 cases c with
 |true=>show⟨f,e,g⟩
 |false=>show k i d s1 Z f Q e g
theorem CM(d:PT X a tA):PT X (.UnaryOp .Not a pos) (Ju tA):=by
 intro b s Z H Q I h;show isTrue_not (d b s Z H (λc e=>Q (!c) e) I h)
def F7(ta tb:TE):TE:=λZ H Q=>ta Z H λx H1=>∃c,x=.bl c/\if c=Pm then tb Z H1 Q else Q (.bl Po) H1
def Jv(ta tb:TE):TE:=λZ H Q=>ta Z H λx H1=>∃c,x=.bl c/\if c=Pm then Q (.bl Pm) H1 else tb Z H1 Q
theorem CN{op}(h:PE X a t):PE X (.BoolOp op [a] pos) t:=λb s Z H Q I c=>BoolOp_one (h b s Z H Q I c)
theorem v9(j:PE X a ta)(i:PE X (.BoolOp .And (b::rest) pos) tb):PE X (.BoolOp .And (a::b::rest) pos) (F7 ta tb):=by
 intro d s Z H Q I h;show BoolOp_and (a5 (j d s Z H _ I h) λv s1 ⟨x,f,g,k,e⟩=>?_);obtain⟨c,rfl,e⟩:=e;cases k;show PV ?_
 cases c with
 |true=>show i d s1 Z f Q g e
 |false=>show⟨.bl Po,f,g,rfl,e⟩
theorem By(j:PE X a ta)(i:PE X (.BoolOp .Or (b::rest) pos) tb):PE X (.BoolOp .Or (a::b::rest) pos) (Jv ta tb):=by
 intro d s Z H Q I h;show BoolOp_or (a5 (j d s Z H _ I h) λv s1 ⟨x,f,g,k,e⟩=>?_);obtain⟨c,rfl,e⟩:=e;cases k;show PV ?_
 cases c with
 |false=>show i d s1 Z f Q g e
 |true=>show⟨.bl Pm,f,g,rfl,e⟩
def LV(t:TT)(ta tb:TE):TE:=λZ H Q=>t Z H λc H1=>if c=Pm then ta Z H1 Q else tb Z H1 Q
theorem oe{c:Pp}(l:PT X c tA)(j:PE X a ta)(k:PE X b tb):PE X (.IfExp c a b pos) (LV tA ta tb):=by
 intro e s Z H Q I h;show wpAny_IfExp (a5 (l e s Z H _ I h) λd s1 ⟨g,f,i⟩=>?_)
 cases d with
 |true=>show j e s1 Z g Q f i
 |false=>show k e s1 Z g Q f i
end
def SqL(K:Md)(H:Hp)(a:Ps)(xs:List V):Prop:=
 Rd H a (.lst xs)\/
  ∃(o:Obj) (q:Array Pn) (n:Nat),K.lookup a=Pj o/\o.cls=.type "list"/\o.dict=Pl/\o.data=.seq q n/\q.size<=sizeLine/\Vals xs q.toList
def SqT(K:Md)(H:Hp)(a:Ps)(xs:List V):Prop:=
 Rd H a (.tup xs)\/
  ∃(o:Obj) (q:Array Pn) (n:Nat),K.lookup a=Pj o/\o.cls=.type "tuple"/\o.data=.seq q n/\q.size<=sizeLine/\Vals xs q.toList
noncomputable def Jw:Pn->Option V
 |.none=>Pj .non
 |.bool b=>Pj (.bl b)
 |.int i _=>Pj (.int i)
 |.str x _=>Pj (.str x)
 |.bytes b _=>Pj (.byt b)
 |.float b _=>Pj (.flt b)
 |.ref a=>Pj (.ref a)
 |.type n=>Pj (.ty n)
 |_=>Pl
theorem RelV.abs(r:RelV x u):Jw u=Pj x:=by
 cases x with
 |non=>cases r;rfl
 |bl _=>cases r;rfl
 |int _=>obtain⟨t,rfl⟩:=r;rfl
 |str _=>obtain⟨t,rfl⟩:=r;rfl
 |byt _=>obtain⟨t,rfl⟩:=r;rfl
 |flt _=>obtain⟨t,rfl⟩:=r;rfl
 |ref _=>cases r;rfl
 |ty _=>cases r;rfl
theorem RelV.inj(r:RelV x u)(q:RelV y u):x=y:=Option.some.inj (r.abs.symm.trans q.abs)
theorem Vals.inj(h:Vals xs us)(k:Vals ys us):xs=ys:=by
 induction h generalizing ys with
 |nil=>cases k;rfl
 |cons r t a=>cases k with
  |cons b c=>rw[r.inj b,a c]
section
variable {X:Cx} {pins:List (Ps×Obj)} {Z:St} {H:Hp} {s:Pt} {a:Ps} {xs ys:List V}
theorem SqL.of{K:Md}(h:H a=Pj (.lst xs)):SqL K H a xs:=.inl (.inl h)
theorem SqT.of{K:Md}(h:H a=Pj (.tup xs)):SqT K H a xs:=.inl (.inl h)
theorem Inv.list(I:Inv X pins Z H s)(h:SqL X.K H a xs):∃b:List Pn,Vals xs b/\PlainL s.heap a b.toArray/\xs.length<=sizeLine:=by
 rcases h with h|⟨o,b,n,hk,f,c,d,g,r⟩
 ·obtain⟨z,b,n,r,e⟩:=h.ok I.hok;show⟨b,r,⟨_,n,e,rfl,rfl,rfl⟩,z⟩
 ·show⟨b.toList,r,⟨o,n,I.kIn a o hk,f,c,by simpa using d⟩,?_⟩;let e:=r.length;simp only[Nt] at e
  lia
theorem Inv.tuple(I:Inv X pins Z H s)(h:SqT X.K H a xs):∃b:List Pn,Vals xs b/\IsTup s.heap a b.toArray/\xs.length<=sizeLine:=by
 rcases h with h|⟨o,b,n,hk,d,c,f,r⟩
 ·obtain⟨z,b,r,p⟩:=h.ok I.hok;show⟨b,r,p,z⟩
 ·show⟨b.toList,r,⟨o,I.kIn a o hk,d,n,by simpa using c⟩,?_⟩;let e:=r.length;simp only[Nt] at e
  lia
theorem Inv.list_inj(I:Inv X pins Z H s)(h:SqL X.K H a xs)(h':SqL X.K H a ys):xs=ys:=by
 obtain⟨c,r,⟨o,n,e,_,_,d⟩,_⟩:=I.list h;obtain⟨b,i,⟨j,k,f,_,_,g⟩,_⟩:=I.list h';rw[e] at f;cases f;rw[d] at g;injection g with d1 _;have:c=b:=by simpa using congrArg Array.toList d1
 subst this;show r.inj i
theorem Inv.tuple_inj(I:Inv X pins Z H s)(h:SqT X.K H a xs)(h':SqT X.K H a ys):xs=ys:=by
 obtain⟨c,r,⟨o,e,_,n,d⟩,_⟩:=I.tuple h;obtain⟨b,i,⟨j,f,_,k,g⟩,_⟩:=I.tuple h';rw[e] at f;cases f;rw[d] at g;injection g with d1 _;have:c=b:=by simpa using congrArg Array.toList d1
 subst this;show r.inj i
end
noncomputable abbrev Cx.wish(X:Cx)(E:Pn->Pt->Prop):Cx:={ X with xe:=E }
abbrev Cx.nox(X:Cx):Cx:=X.wish λ_ _=>False
theorem Cx.Ok.wish{X:Cx}(a:X.Ok)(E:Pn->Pt->Prop):(X.wish E).Ok:=
 ⟨a.mod,a.kind,a.glob,a.blt,a.above,a.inj,a.has,a.cab,a.hd,a.frames,a.stk,a.exf,a.bs,a.bsz,a.noex,a.exfs,a.funs,a.frf⟩
theorem Cx.Ok.unwish{X:Cx}(a:(X.wish E).Ok):X.Ok:=
 ⟨a.mod,a.kind,a.glob,a.blt,a.above,a.inj,a.has,a.cab,a.hd,a.frames,a.stk,a.exf,a.bs,a.bsz,a.noex,a.exfs,a.funs,a.frf⟩
section
variable {X:Cx} {pins:List (Ps×Obj)} {Z:St} {H:Hp} {s:Pt} {E:Pn->Pt->Prop}
theorem Inv.wish(I:Inv X pins Z H s)(E:Pn->Pt->Prop):Inv (X.wish E) pins Z H s:=⟨I.ok.wish E,I.os,I.bare,I.base,I.loc,I.cell,I.free,I.freeC,I.pin,I.hok,I.len⟩
theorem Inv.unwish(I:Inv (X.wish E) pins Z H s):Inv X pins Z H s:=⟨I.ok.unwish,I.os,I.bare,I.base,I.loc,I.cell,I.free,I.freeC,I.pin,I.hok,I.len⟩
theorem SP.unwish(h:SP (X.wish E) pins D f s'):SP X pins D f s':=by
 cases f with
 |next=>obtain⟨b,a,I,q⟩:=h;show⟨b,a,I.unwish,q⟩
 |brk=>obtain⟨b,a,I,q⟩:=h;show⟨b,a,I.unwish,q⟩
 |cont=>obtain⟨b,a,I,q⟩:=h;show⟨b,a,I.unwish,q⟩
 |ret u=>obtain⟨v,b,a,I,r,q⟩:=h;show⟨v,b,a,I.unwish,r,q⟩
theorem PSs.nox{st:List Pz}{t:TS}(h:PSs X.nox st t):PSs X st t:=λa s Z H D I b=>
 wpAny_mono (h a s Z H D (I.wish _) b) (λ_ _ q=>q.unwish) λ_ _ z=>False.elim z
end
section
variable {X:Cx} {st:Pz} {rest:List Pz} {t u:TS} {e:Pp} {te:TE} {pos:Pos}
def wa:TS:=λD Z H=>D.nx Z H
def Jx(t u:TS):TS:=λD Z H=>t { D with nx:=u D } Z H
theorem zn:PSs X [] wa:=λ_ _ Z H _ I h=>wpAny_execs_nil ⟨Z,H,I,h⟩
theorem wb(h1:PS X st t)(h2:PSs X rest u):PSs X (st::rest) (Jx t u):=by
 intro a s Z H D I h;show wpAny_execs_cons (a5 (h1 a s Z H { D with nx:=u D } I h) λf s1 q=>?_)
 cases f with
 |next=>
  obtain⟨c,d,b,q⟩:=q;show h2 a s1 c d D b q
 |ret v=>show q
 |brk=>show q
 |cont=>show q
theorem zo(h1:PS X st t):PSs X [st] t:=by
 intro a s Z H D I h;show wpAny_execs_cons (a5 (h1 a s Z H D I h) λf s1 q=>?_)
 cases f with
 |next=>show wpAny_execs_nil q
 |ret v=>show q
 |brk=>show q
 |cont=>show q
theorem zq:PS X (.Pass pos) wa:=λ_ _ Z H _ I h=>wpAny_Pass ⟨Z,H,I,h⟩
theorem Inv.quiet(I:Inv X pins Z H s):interactive X.env=Po:=by simp[interactive,I.ok.kind]
theorem CP{x j pos pos'}:PS X (.Expr (.Constant (.str x) j pos) pos') wa:=λ_ s Z H _ I h=>wpAny_Expr (Calls.Constant_str (show SP X _ _ .next { s with toks:=s.toks+1 } from⟨Z,H,I.tok _,h⟩)) I.quiet
def F8(te:TE):TS:=λD Z H=>te Z H λ_ H1=>D.nx Z H1
theorem zr(f:PE X e te)(b:swapsWith e Pl pos.line X.env=pure Po:=by rfl):PS X (.Expr e pos) (F8 te):=by
 intro a s Z H D I h;show wpAny_Expr_any (a5 (f a s Z H _ I h) λv s1 ⟨x,d,c,i,g⟩=>⟨Z,d,c,g⟩) I.quiet b
def Jy(te:TE):TS:=λD Z H=>te Z H D.rt
theorem CQ(f:PE X e te):PS X (.Return (Pj e) pos) (Jy te):=by
 intro a s Z H D I h;show wpAny_Return_some (a5 (f a s Z H _ I h) λv s1 ⟨x,d,c,b,g⟩=>⟨x,Z,d,c,b,g⟩)
def Jz(c:TT)(t u:TS):TS:=λD Z H=>c Z H λb H1=>if b=Pm then t D Z H1 else u D Z H1
theorem Bz{c:Pp}{a b:List Pz}{tc:TT}(l:PT X c tc)(k:PSs X a t)(j:PSs X b u):PS X (.If c a b pos) (Jz tc t u):=by
 intro e s Z H D I h;show wpAny_If (a5 (l e s Z H _ I h) λd s1 ⟨f,i,g⟩=>?_)
 cases d with
 |true=>show k e s1 Z f D i g
 |false=>show j e s1 Z f D i g
end
abbrev TG:=V->St->Hp->(St->Hp->Prop)->Prop
abbrev wc:=List V->St->Hp->(St->Hp->Prop)->Prop
def PG(X:Cx)(q:Pp)(t:TG):Prop:=
 ∀(pins:List (Ps×Obj)) (s:Pt) (Z:St) (H:Hp) (v:V) (u:Pn) (Q:St->Hp->Prop),Inv X pins Z H s->RelV v u->t v Z H Q->
  Pv (Pw X.prog X.w) X.A (assign q X.env u) (λ_ s'=>∃Z' H',Inv X pins Z' H' s'/\Q Z' H') X.xe s
def CS(X:Cx)(q:List Pp)(t:wc):Prop:=
 ∀(pins:List (Ps×Obj)) (s:Pt) (Z:St) (H:Hp) (vs:List V) (us:List Pn) (Q:St->Hp->Prop),Inv X pins Z H s->Vals vs us->t vs Z H Q->
  Pv (Pw X.prog X.w) X.A (assignInOrder ((PM q X.env).map (·.2)) us) (λ_ s'=>∃Z' H',Inv X pins Z' H' s'/\Q Z' H') X.xe s
abbrev CT:=V->V->V->Hp->(Hp->Prop)->Prop
def F9(X:Cx)(t:CT):Prop:=
 ∀(pins:List (Ps×Obj)) (s:Pt) (Z:St) (H:Hp) (o i v:V) (B q u:Pn) (Q:Hp->Prop),Inv X pins Z H s->RelV o B->RelV i q->RelV v u->t o i v H Q->
  Pv (Pw X.prog X.w) X.A (setItem B q u) (λ_ s'=>∃H',Inv X pins Z H' s'/\Q H') X.xe s
abbrev JA:=V->V->Hp->VK->Prop
def Lq(X:Cx)(op:PJ)(t:JA):Prop:=
 ∀(pins:List (Ps×Obj)) (s:Pt) (Z:St) (H:Hp) (x y:V) (v u:Pn) (Q:VK),Inv X pins Z H s->RelV x v->RelV y u->t x y H Q->
  Pv (Pw X.prog X.w) X.A (inplaceOp op v u) (EP X pins Z Q) X.xe s
section
variable {X:Cx} {pos:Pos}
def gY(i:Nat):TG:=λv Z H Q=>Q (Z.set i (Pj v)) H
theorem r6{i:Nat}(e:X.N.Nodup)(hi:X.N[i]?=Pj x)(b:Bw X.env.scope x)(c:X.fn x=Pm\/X.env.scope.names.lookup x=Pj .local:=by first|show .inl rfl|show .inr rfl|assumption):PG X (.Name x pos) (gY i):=by
 intro a s Z H v u Q I r h;show wpAny_assign_Name (j8 I e hi b r (λf d=>⟨_,H,d,h⟩) c)
def CU:wc:=λvs Z H Q=>vs=[]/\Q Z H
def we(t:TG)(u:wc):wc:=λvs Z H Q=>∃v r,vs=v::r/\t v Z H λZ' H'=>u r Z' H' Q
theorem r9:CS X [] CU:=by
 intro a s Z H c b Q I r h;obtain⟨e,h⟩:=h;subst e;cases r;show assignInOrder_nil ⟨Z,H,I,h⟩
theorem og{e:Pp}{es:List Pp}{t:TG}{u:wc}(h1:PG X e t)(h2:CS X es u)
  (hs:(PM (e::es) X.env).map (·.2)=assign e X.env::(PM es X.env).map (·.2):=by rfl):CS X (e::es) (we t u):=by
 intro a s Z H k j Q I r h;obtain⟨v,i,e1,h⟩:=h;subst e1
 cases r with
 |cons r d=>
  rw[hs];show assignInOrder_cons (a5 (h1 a s Z H _ _ _ I r h) λ_ s1 ⟨f,b,g,c⟩=>?_);show h2 a s1 f b _ _ Q g d c
def Ga(K:Md)(n:Nat)(t:wc):TG:=λv Z H Q=>∃a xs,v=.ref a/\SqT K H a xs/\xs.length=n/\t xs Z H Q
theorem wf(z:X.calm=Pm)(h:CS X es t)(j:(PM es X.env).length=n:=by rfl)(f:(PM es X.env).findIdx? (·.1)=Pl:=by rfl):PG X (.Tuple es k pos) (Ga X.K n t):=by
 intro c s Z H v u Q I r d;obtain⟨a,w,e1,q,m,d⟩:=d;subst e1;cases r;obtain⟨y,g,p,A⟩:=I.tuple q;show assign_Tuple_tuple (I.ok.hd z) p (by simp[j,<- m,g.length]) f λi l=>?_;let x:Inv X c Z H { s with heap:=i }:=I.kept (t':=s.toks) λb o e=>l b o (Mr (Ml e)) e;show h c _ Z H w _ Q x (by simpa using g) d
def JB(to B:TE)(t:CT):TG:=λv Z H Q=>to Z H λo H1=>B Z H1 λi H2=>t o i v H2 λq=>Q Z q
theorem CV{o i:Pp}{to d:TE}{t:CT}(l:PE X o to)(hi:PE X i d)(m:F9 X t)
  (ha:∀v,assign (.Subscript o i pos) X.env v=(do
   let b <- holding [v] (eval o X.env);let c <- holding [v,b] (eval i X.env)
   standAt pos
   holding [v,b,c] (setItem b c v)
   release [v,b,c] []):=by intro _;rfl):PG X (.Subscript o i pos) (JB to d t):=by
 intro a s Z H v u Q I r h;rw[ha];show Pq (PP (a5 (l a s Z H _ I h) λb s1 ⟨x,e,g,w,p⟩=>?_));show Pq (PP (a5 (hi a s1 Z e _ g p) λc s2 ⟨y,z,A,f,q⟩=>?_));show Pq (wpAny_standAt (Pq (PP (a5 (m a s2 Z z x y v b c u _ A w f r q) λ_ B ⟨n,k,j⟩=>?_))));show wpAny_release ⟨Z,n,k,j⟩
def zt(te:TE)(g:TG):TS:=λD Z H=>te Z H λx H1=>g x Z H1 D.nx
theorem qj{tg e:Pp}{te:TE}{g:TG}(i:PE X e te)(f:PG X tg g)(c:swapsWithSole [tg] e pos.line X.env=pure Po:=by rfl)(b:swappedStores [tg] e X.env=pure Pl:=by rfl)
  (h1:(PM [tg] X.env).map (·.2)=[assign tg X.env]:=by rfl):PS X (.Assign [tg] e pos) (zt te g):=by
 intro a s Z H D I h;show wpAny_Assign_stores (a5 (i a s Z H _ I h) λv s1 ⟨x,d,l,k,j⟩=>?_) c b;rw[h1];show a5 (f a s1 Z d x v _ l k j) λ_ s2 q=>q
theorem qk{i:Nat}{x:Str}{e:Pp}{te:TE}{pos':Pos}(n:X.N.Nodup)(hi:X.N[i]?=Pj x)(c:Bw X.env.scope x)(g:PE X e te)(b:swapsWith e (Pj (.Name x pos')) pos.line X.env=pure Po:=by rfl)(d:X.fn x=Pm\/X.env.scope.names.lookup x=Pj .local:=by first|show .inl rfl|show .inr rfl|assumption) :
  PS X (.Assign [.Name x pos'] e pos) (zt te (gY i)):=by
 intro a s Z H D I h;show wpAny_Assign_Name (a5 (g a s Z H _ I h) λv s1 ⟨y,f,l,k,j⟩=>?_) b;show j8 l n hi c k (λs2 m=>⟨_,f,m,j⟩) d
def JC(i:Nat)(te:TE)(q:JA):TS:=λD Z H=>∃x,Z[i]?=Pj (Pj x)/\te Z H λy H1=>q x y H1 λz H2=>D.nx (Z.set i (Pj z)) H2
theorem CW{i:Nat}{x:Str}{e:Pp}{te:TE}{op:PJ}{g:JA}{pos':Pos}(U:X.N.Nodup)(hi:X.N[i]?=Pj x)(f:Bw X.env.scope x)(q:PE X e te)(F:Lq X op g)(L:X.fn x=Pm\/X.env.scope.names.lookup x=Pj .local:=by first|show .inl rfl|show .inr rfl|assumption) :
  PS X (.AugAssign (.Name x pos') op e pos) (JC i te g):=by
 intro a s Z H D I h;obtain⟨v,e1,h⟩:=h;obtain⟨m,n,o⟩:=I.loc;let d:F5 X.env.scope x:=by rcases f with k|k;show .inl k;show .inr (.inl k)
 obtain⟨u,r,l⟩:=o i x v hi e1 d;show wpAny_AugAssign_Name ?_
 let j:Pv (Pw X.prog X.w) X.A (eval e X.env) (λw K=>Pv (Pw X.prog X.w) X.A (inplaceOp op u w) (λr S=>Pv (Pw X.prog X.w) X.A (storeName X.env x r) (λ_=>SP X a D .next) X.xe S) X.xe K) X.xe s:=by
  show a5 (q a s Z H _ I h) λw s1 ⟨y,p,B,Q,O⟩=>?_;show a5 (F a s1 Z p v y u w _ B r Q O) λz s2 ⟨W,R,T,t,P⟩=>?_;show j8 T U hi f t (λV C=>⟨_,R,C,P⟩) L
 rcases l with⟨hk,M⟩|⟨hk,c,E,b⟩
 ·show wpAny_loadName_local I.ok.kind hk n M j
 ·rcases hk with hk|hk
  ·show wpAny_loadName_cell I.ok.kind hk E b j
  ·rcases f with k|k
   ·have:X.env.scope.names.lookup x=Pj .free:=hk;rw[k] at this;cases this
   ·have:X.env.scope.names.lookup x=Pj .free:=hk;rw[k] at this;cases this
def CY(c:TT)(tb:TS):TS:=λD Z H=>∃W:Nat->St->Hp->Prop,(∃m,W m Z H)/\∀m Z H,W m Z H->
 c Z H λb H1=>if b=Pm then ∃N:St->Hp->Prop,(∀Z' H',N Z' H'->∃q,q<m/\W q Z' H')/\tb { D with nx:=N,ct:=N,bk:=D.nx } Z H1 else D.nx Z H1
theorem wg{c:Pp}{body:List Pz}{tc:TT}{tb:TS}(u:PassesOwn (Pw X.prog X.w) X.A X.env X.xe)(K:PT X c tc)(C:PSs X body tb):PS X (.While c body [] pos) (CY tc tb):=by
 intro a s Z H D I h;obtain⟨W,⟨L,E⟩,d⟩:=h;show wpAny_While (codeAny_whileLoop (λn O=>∃t y,Inv X a t y O/\W n t y) ?_ L ⟨Z,H,I,E⟩)
 rintro n s1 ⟨i,r,F,M⟩
 show PY u (a5 (K a s1 i r _ F (d n i r M)) λb s2 ⟨x,z,k⟩=>?_)
 cases b with
 |true=>
  obtain⟨N,B,k⟩:=k;rw[if_pos rfl];show PY u (a5 (C a s2 i x _ z k) λf P j=>?_)
  cases f with
  |next=>
   obtain⟨g,e,m,l⟩:=j;obtain⟨q,p,o⟩:=B g e l;show⟨q,p,g,e,m,o⟩
  |cont=>
   obtain⟨g,e,m,l⟩:=j;obtain⟨q,p,o⟩:=B g e l;show⟨q,p,g,e,m,o⟩
  |brk=>show j
  |ret v=>show j
 |false=>
  rw[if_neg Mz];show wpAny_execs_nil ⟨i,x,z,k⟩
end
structure It where
 go:Nat->Hp->Prop
 yld:Nat->Hp->V->Hp->Prop
 stop:Nat->Hp->Prop
def iP(X:Cx)(pins:List (Ps×Obj))(H:Hp)(b:Ps):Prop:=
 H b=Pl/\b≠X.env.locals/\b∉X.fs/\(b∈X.ex\/X.s₀.heap.objs.size<=b)/\(∀x c,X.env.cells.lookup x=Pj c->c≠b)/\∀p∈X.pn++pins,p.1≠b
theorem Inv.fpOk{H H':Hp}{s:Pt}(I:Inv X pins Z H s)(a:s.heap.objs.size<=b)(f:H' b=Pl):iP X pins H' b:=by
 show⟨f,Nn (Mo I.lt a),I.nofs a,.inr (MP I.sz a),λx c e z=>?_,λp d z=>?_⟩
 ·obtain⟨v,q⟩:=I.cell x c e;show absurd (Mo q.lt (by rw[z];show a)) (Nl _)
 ·show absurd (Mo (Ml (I.pin p d).1) (by rw[z];show a)) (Nl _)
structure ql(P:Program)(w:World)(K:Md)(tg:Expr)(J:It)(fp:List Addr)(it:Addr)(tn:Nat->Heap->Prop):Prop where
 mem:it∈fp
 obj:∀i h,tn i h->∀b∈fp,∃o,h.get? b=Pj o/\∀v,o.data≠.cell v
 keep:∀i h h',tn i h->(∀b∈fp,∀o,h.get? b=Pj o->h'.get? b=Pj o)->tn i h'
 item:∀(X:Cx),X.prog=P->X.w=w->X.K=K->X.calm=Pm->∀(i:Nat) (pins:List (Ps×Obj)) (s:Pt) (Z:St) (H:Hp) (E:Pn->Pt->Prop),Inv X pins Z H s->(∀b∈fp,iP X pins H b)->tn i s.heap->J.go i H->
  Pv (Pw P w) X.A (pyNext (.ref it)) (λr s1=>∃u,r=Pj u/\
   Pv (Pw P w) X.A (letOwnedTupleGo tg (.ref it) u) (λ_ s2=>∃x H',Inv X pins Z H' s2/\RelV x u/\J.yld i H x H'/\tn (i+1) s2.heap/\∀b∈fp,H' b=Pl) E s1) E s
 done:∀(X:Cx),X.prog=P->X.w=w->X.K=K->X.calm=Pm->∀(i:Nat) (pins:List (Ps×Obj)) (s:Pt) (Z:St) (H:Hp) (E:Pn->Pt->Prop),Inv X pins Z H s->(∀b∈fp,iP X pins H b)->tn i s.heap->J.stop i H->
  Pv (Pw P w) X.A (pyNext (.ref it)) (λr s1=>r=Pl/\Inv X pins Z H s1) E s
 self:∀(A:PC) (i:Nat) (s:Pt) (Q:Pn->Pt->Prop) (E:Pn->Pt->Prop),tn i s.heap->Q (.ref it) s->Pv (Pw P w) A (pyIter (.ref it)) Q E s
abbrev TI:=St->Hp->(It->Hp->Prop)->Prop
def JD(X:Cx)(pins:List (Ps×Obj))(Z:St)(tg:Pp)(R:It->Hp->Prop)(q:Pn)(s2:Pt):Prop:=
 ∃(it:Ps) (O:List Ps) (B:Nat->PD->Prop) (J:It) (H':Hp),q=.ref it/\Inv X pins Z H' s2/\ql X.prog X.w X.K tg J O it B/\B 0 s2.heap/\(∀b∈O,iP X pins H' b)/\R J H'
def PI(X:Cx)(tg iter:Pp)(q:TI):Prop:=
 ∀(pins:List (Ps×Obj)) (s:Pt) (Z:St) (H:Hp) (R:It->Hp->Prop),Inv X pins Z H s->q Z H R->
  Pv (Pw X.prog X.w) X.A (eval iter X.env) (λv s1=>Pv (Pw X.prog X.w) X.A (pyIter v) (JD X pins Z tg R) X.xe s1) X.xe s
theorem wj{s:Pt}{o:Obj}{n:String}{Q:Unit->Pt->Prop}(b:s.heap.get? it=Pj o)(d:o.cls=.type n)(hd:o.data=.fields vs)(c:["enumerate","zip","dict_itemiterator","dict_reverseitemiterator","odict_iterator","itertools.zip_longest","itertools.pairwise"].contains n=Po)(a:Q () s):Pv M A (letOwnedTupleGo tg (.ref it) u) Q E s:=by
  unfold letOwnedTupleGo
  cases tg<;>first
    |show Pu a
    |(cases u<;>first
        |show Pu a
        | (show Pq (wpAny_load b ?_)
           rw[d,hd]
           change Pv M A (if(["enumerate","zip","dict_itemiterator","dict_reverseitemiterator","odict_iterator","itertools.zip_longest","itertools.pairwise"].contains n&&vs[0]?==Pj (PZ _))=Pm then _ else _) Q E s
           rw[if_neg (by intro h;rw[c,Bool.false_and] at h;cases h)];show Pu a))
noncomputable def Fz(K:Md)(a:Ps):It:=
 ⟨λi H=>∃xs x,SqL K H a xs/\xs[i]?=Pj x,λi H x H'=>H'=H/\∀xs,SqL K H a xs->xs[i]?=Pj x,λi H=>∃xs,SqL K H a xs/\xs.length<=i⟩
noncomputable def JE(K:Md)(a:Ps):It:=
 ⟨λi H=>∃xs x,SqT K H a xs/\xs[i]?=Pj x,λi H x H'=>H'=H/\∀xs,SqT K H a xs->xs[i]?=Pj x,λi H=>∃xs,SqT K H a xs/\xs.length<=i⟩
noncomputable def Gb(lo:Int)(n:Nat):It:=⟨λi _=>i<n,λi H x H'=>H'=H/\x=.int (lo+i),λi _=>n<=i⟩
theorem uG{P:Px}{w:PB}{K:Md}{tg:Pp}(a it:Ps):ql P w K tg (Fz K a) [it] it (λi h=>h.IsListIter it a i) where
 mem:=by simp
 obj:=λi h f b j=>by
  let e:b=it:=by simpa using j
  subst e;obtain⟨o,e,c,d⟩:=f;show⟨o,e,λv z=>by rw[d] at z;cases z⟩
 keep:=λi h m f k=>f.at λo e=>k it (by simp) o e
 item:=by
  intro X A B r Q i g s Z H E I n f F;subst A B r;obtain⟨xs,x,q,D⟩:=F;obtain⟨N,O,p,U⟩:=I.list q;obtain⟨u,T,R⟩:=O.get D;obtain⟨y,M,f2,t,L,C⟩:=n it (by simp);show wpAny_pyNext_list_item f p.isList (x:=u) (by simpa using T) λm l V=>?_;let S:Inv X g Z H { s with heap:=m }:=I.turned (t':=s.toks) (λb o j e=>(V.2 b j).trans e) y M t L C;obtain⟨o,e,c,d⟩:=id l;show⟨u,rfl,wj (s:={ s with heap:=m }) e c d (by decide) ⟨x,H,S,R,⟨rfl,λys W=>by rw[I.list_inj W q];show D⟩,l,λb j=>(n b j).1⟩⟩
 done:=by
  intro X A B r Q i g s Z H E I n f F;subst A B r;obtain⟨xs,q,D⟩:=F;obtain⟨N,O,p,U⟩:=I.list q;obtain⟨y,M,f2,t,L,C⟩:=n it (by simp);let hl:=O.length;show wpAny_pyNext_list_end (I.ok.hd Q) f p.isList (by simp;lia) λm Y=>⟨rfl,I.turned (t':=s.toks) (λb o j e=>Y b o j e) y M t L C⟩
 self:=λ_ _ _ _ _ f h=>wpAny_pyIter_listiter f h
theorem qm{P:Px}{w:PB}{K:Md}{tg:Pp}(a it:Ps):ql P w K tg (JE K a) [it] it (λi h=>h.IsTupleIter it a i) where
 mem:=by simp
 obj:=λi h f b j=>by
  let e:b=it:=by simpa using j
  subst e;obtain⟨o,e,c,d⟩:=f;show⟨o,e,λv z=>by rw[d] at z;cases z⟩
 keep:=λi h n f k=>f.at λo e=>k it (by simp) o e
 item:=by
  intro X B C t Q i g s Z H E I q f L;subst B C t;obtain⟨xs,x,r,F⟩:=L;obtain⟨l,O,p,U⟩:=I.tuple r;obtain⟨u,T,R⟩:=O.get F;obtain⟨A,N,f2,y,M,D⟩:=q it (by simp);show wpAny_pyNext_tuple_item f (show s.heap.IsTuple a l.toArray from p) (x:=u) (by simpa using T) λn m V=>?_;let S:Inv X g Z H { s with heap:=n }:=I.turned (t':=s.toks) (λb o j e=>(V.2 b j).trans e) A N y M D;obtain⟨o,e,c,d⟩:=id m;show⟨u,rfl,wj (s:={ s with heap:=n }) e c d (by decide) ⟨x,H,S,R,⟨rfl,λys W=>by rw[I.tuple_inj W r];show F⟩,m,λb j=>(q b j).1⟩⟩
 done:=by
  intro X B C t Q i g s Z H E I q f L;subst B C t;obtain⟨xs,r,F⟩:=L;obtain⟨l,O,p,U⟩:=I.tuple r;obtain⟨A,N,f2,y,M,D⟩:=q it (by simp);let hl:=O.length;show wpAny_pyNext_tuple_end (I.ok.hd Q) f (show s.heap.IsTuple a l.toArray from p) (by simp;lia) λn Y=>⟨rfl,I.turned (t':=s.toks) (λb o j e=>Y b o j e) A N y M D⟩
 self:=λ_ _ _ _ _ f h=>wpAny_pyIter_tupleiter f h
theorem qo{P:Px}{w:PB}{K:Md}{tg:Pp}(it:Ps)(lo:Int)(n:Nat):ql P w K tg (Gb lo n) [it] it (λi h=>IsRangeIter h it (lo+(i:Nat)*1) ((n:Int)-(i:Nat)) 1) where
 mem:=by simp
 obj:=λi h a b d=>by
  let e:b=it:=by simpa using d
  subst e
  show⟨_,a,λv z=>by
   let D:Data.fields _=Data.cell v:=z;cases D⟩
 keep:=λi h g a k=>k it (by simp) _ a
 item:=by
  intro X q u l r i c s Z H E I j a y;subst q u l;obtain⟨p,B,f2,m,A,x⟩:=j it (by simp);let W:=Walks.range (prog:=X.prog) (w:=X.w) (I.ok.hd r) it lo 1 n;show W.item i s _ _ y a λv g C L f M=>?_;obtain⟨t,rfl⟩:=L;let F:Inv X c Z H { s with heap:=g,toks:=C }:=I.turned (λb o d e=>M b o (by simpa using d) e) p B m A x;show⟨_,rfl,wj (s:={ s with heap:=g,toks:=C }) (n:="range_iterator") f rfl rfl (by decide) ⟨.int (lo+i),H,F,⟨t,?_⟩,⟨rfl,rfl⟩,f,λb d=>(j b d).1⟩⟩;rw[Int.mul_one]
 done:=by
  intro X q u l r i c s Z H E I j a y;subst q u l;obtain⟨p,B,f2,m,A,x⟩:=j it (by simp);show wpAny_pyNext_range_end (I.ok.hd r) a (by have:n<=i:=y;lia) λg N=>⟨rfl,I.turned (t':=s.toks) (λb o d e=>N b o d e) p B m A x⟩
 self:=λ_ _ _ _ _ a h=>wpAny_pyIter_rangeiter a h
section
variable {X:Cx} {tg:Pp}
def Gc(K:Md)(tl:TE):TI:=λZ H R=>tl Z H λx H1=>∃a,x=.ref a/\(∃xs,SqL K H1 a xs)/\R (Fz K a) H1
def JF(K:Md)(tl:TE):TI:=λZ H R=>tl Z H λx H1=>∃a,x=.ref a/\(∃xs,SqT K H1 a xs)/\R (JE K a) H1
theorem zu{l:Pp}{tl:TE}(f:PE X l tl):PI X tg l (Gc X.K tl):=by
 intro c s Z H R I h;show a5 (f c s Z H _ I h) λv s1 ⟨x,g,d,m,j⟩=>?_;obtain⟨a,e,⟨t,i⟩,q⟩:=j;subst e;cases m;obtain⟨n,u,p,r⟩:=d.list i;show P0 p.isList ?_;show⟨s1.heap.objs.size,[s1.heap.objs.size],_,_,g,rfl,d.kept (t':=s1.toks) λb o e=>Mf _ e,uG a _,⟨_,Mp _ rfl,rfl,rfl⟩,λb k=>?_,q⟩;let e:b=s1.heap.objs.size:=by simpa using k
 subst e;show d.fpOk (Mi _) (d.hok.fresh (Mi _))
theorem CZ{l:Pp}{tl:TE}(g:PE X l tl):PI X tg l (JF X.K tl):=by
 intro c s Z H R I h;show a5 (g c s Z H _ I h) λv s1 ⟨x,i,d,n,k⟩=>?_;obtain⟨a,e,⟨t,j⟩,q⟩:=k;subst e;cases n;obtain⟨f,u,p,r⟩:=d.tuple j;show wpAny_pyIter_tuple (show s1.heap.IsTuple a f.toArray from p) ?_;show⟨s1.heap.objs.size,[s1.heap.objs.size],_,_,i,rfl,d.kept (t':=s1.toks) λb o e=>Mf _ e,qm a _,⟨_,Mp _ rfl,rfl,rfl⟩,λb m=>?_,q⟩;let e:b=s1.heap.objs.size:=by simpa using m
 subst e;show d.fpOk (Mi _) (d.hok.fresh (Mi _))
theorem oh{s:Pt}{R:It->Hp->Prop}{lo hi:Int}{tk:Nat}(I:Inv X pins Z H s)(h1:-(2^62)<=lo)(h2:lo<2^62)(d:-(2^62)<=hi)(c:hi<2^62)(q:R (Gb lo (hi-lo).toNat) H):Pv (Pw X.prog X.w) X.A (pyIter (.ref s.heap.objs.size)) (JD X pins Z tg R) E { s with heap:=s.heap.push { cls:=.type "range",data:=.fields #[.int lo t,.int hi u,.int 1 v] },toks:=tk }:=by
 show wpAny_pyIter_range (IsRange.new ..) (small_one h1 h2 d c) ?_;let a:Inv X pins Z H { s with heap:=s.heap.push { cls:=.type "range",data:=.fields #[.int lo t,.int hi u,.int 1 v] },toks:=tk }:=I.kept λb o e=>Mf _ e
 show⟨(s.heap.push { cls:=.type "range",data:=.fields #[.int lo t,.int hi u,.int 1 v] }).objs.size,[(s.heap.push { cls:=.type "range",data:=.fields #[.int lo t,.int hi u,.int 1 v] }).objs.size],_,_,H,rfl,
  a.kept (t':=tk) λb o e=>Mf _ e,qo _ lo (hi-lo).toNat,?_,λb f=>?_,q⟩
 ·let e1:lo+((0:Nat):Int)*1=lo:=by simp
  let e2:(((hi-lo).toNat:Nat):Int)-((0:Nat):Int)=Builtin.Range.rangeSize lo hi 1:=by rw[rangeSize_one];split<;>lia
  change IsRangeIter _ _ (lo+((0:Nat):Int)*1) ((((hi-lo).toNat:Nat):Int)-((0:Nat):Int)) 1;rw[e1,e2];show Mp _ rfl
 ·let e:b=(s.heap.push { cls:=.type "range",data:=.fields #[.int lo t,.int hi u,.int 1 v] }).objs.size:=by simpa using f
  subst e;show a.fpOk (Mi _) (a.hok.fresh (Mi _))
def Ge(ta:TA):TI:=λZ H R=>ta Z H λvs H1=>∃j:Int,vs=[.int j]/\-(2^62)<=j/\j<2^62/\R (Gb 0 j.toNat) H1
def Gf(ta:TA):TI:=λZ H R=>ta Z H λvs H1=>∃i j:Int,vs=[.int i,.int j]/\(-(2^62)<=i/\i<2^62/\-(2^62)<=j/\j<2^62)/\R (Gb i (j-i).toNat) H1
theorem uH{a:Pp}{ta:TA}{p pos:Pos}(g:Gl X "range")(f:X.mg "range" = Pl)(k:PA X [a] ta)(d:Py [a] X.env=[(Po,eval a X.env)]:=by rfl):PI X tg (.Call (.Name "range" p) [a] [] pos) (Ge ta):=by
 intro b s Z H R I h;show Call_ (cI I g f boot_range (PyProof.Rows.callWith_type1 (a5 (k pos b s Z H _ I h) λu s1 ⟨v,o,n,m,c⟩=>?_) d rfl));obtain⟨j,e,c,l,q⟩:=c;subst e
 cases m with
 |cons r i=>
  cases i;obtain⟨t,rfl⟩:=r;show call_range_1 (oh n (by lia) (by lia) c l (by simpa using q))
theorem uI{a b:Pp}{ta:TA}{p pos:Pos}(u:Gl X "range")(o:X.mg "range" = Pl)(v:PA X [a,b] ta)(n:Py [a,b] X.env=[(Po,eval a X.env),(Po,eval b X.env)]:=by rfl)(hs2:Py [b] X.env=[(Po,eval b X.env)]:=by rfl) :
  PI X tg (.Call (.Name "range" p) [a,b] [] pos) (Gf ta):=by
 intro c s Z H R I h;show Call_ (cI I u o boot_range (PyProof.Rows.callWith_type1 (a5 (v pos c s Z H _ I h) λA s1 ⟨B,z,l,x,f⟩=>?_) (by rw[n,hs2]) (by rw[hs2];rfl)));obtain⟨i,j,e,⟨f,w,m,g⟩,q⟩:=f;subst e
 cases x with
 |cons r d=>
  cases d with
  |cons k d=>
   cases d;obtain⟨t,rfl⟩:=r;obtain⟨y,rfl⟩:=k;show call_range_2 (oh l f w m g q)
def JG(B:TI)(g:TG)(tb:TS):TS:=λD Z H=>B Z H λJ H1=>∃W:Nat->Nat->St->Hp->Prop,(∃m,W 0 m Z H1)/\∀i m Z H,W i m Z H->
 (J.stop i H/\D.nx Z H)\/(J.go i H/\∃N:St->Hp->Prop,(∀Z' H',N Z' H'->∃q,q<m/\W (i+1) q Z' H')/\∀x H',J.yld i H x H'->g x Z H' λO H2=>tb { D with nx:=N,ct:=N,bk:=D.nx } O H2)
noncomputable def mJ(q:List Ps)(h:PD):List (Ps×Obj):=q.filterMap λb=>(h.get? b).map λo=>(b,o)
theorem bj{a:List Ps}{h:PD}(c:b∈a)(e:h.get? b=Pj o):(b,o)∈mJ a h:=Ol.mpr ⟨b,c,by rw[e];rfl⟩
theorem uJ{a:List Ps}{h:PD}{p:Ps×Obj}(f:p∈mJ a h):p.1∈a/\h.get? p.1=Pj p.2:=by
 obtain⟨b,c,e⟩:=Ol.mp f
 cases q:h.get? b with
 |none=>rw[q] at e;cases e
 |some o=>
  rw[q] at e;let d:(b,o)=p:=Option.some.inj e;subst d;show⟨c,q⟩
theorem Inv.pinned{pins:List (Ps×Obj)}{s:Pt}{a:List Ps}(I:Inv X pins Z H s)(h:∀b∈a,iP X pins H b)(g:∀b∈a,∃o,s.heap.get? b=Pj o/\∀v,o.data≠.cell v):Inv X (pins++mJ a s.heap) Z H s:=
 I.pins_of λp i=>(MQ.mp i).elim (λz=>I.pin p (Mq _ z)) λz=>by
  obtain⟨c,e⟩:=uJ z;obtain⟨j,k,f2,_⟩:=h p.1 c;obtain⟨o,f,d⟩:=g p.1 c;rw[e] at f;cases f;show⟨e,j,k,f2,d⟩
theorem Inv.unpinned{pins pl:List (Ps×Obj)}(I:Inv X (pins++pl) Z H s):Inv X pins Z H s:=I.pins_of λp a=>I.pin p (Mq _ (NH _ a))
theorem C0{iter:Pp}{body:List Pz}{wi:TI}{g:TG}{tb:TS}{pos:Pos}(M:PassesOwn (Pw X.prog X.w) X.A X.env X.xe)(hc:X.calm=Pm)(hi:PI X tg iter wi)(hg:PG X tg g)(j:PSs X body tb)
  (hs:∀x,foldedSetIterable iter X.env x=pure x:=by intro _;rfl):PS X (.For tg iter body [] pos) (JG wi g tb):=by
 intro a s Z H D I h;show wpAny_For (a5 (hi a s Z H _ I h) λv s1 h1=>a5 h1 λha s2 h2=>?_) hs;obtain⟨it,L,tn,J,H2,e,I2,T,V,f2,W,⟨m0,w0⟩,B⟩:=h2;subst e
 -- what stays Pm of the iterator's objects through the loop
 let k:∀{t:Hp},(∀b∈L,t b=Pl)->∀b∈L,iP X a t b:=λhn b j=>⟨hn b j,(f2 b j).2⟩;show codeAny_forLoop_any (λn s'=>∃i K t,Inv X a K t s'/\tn i s'.heap/\(∀b∈L,t b=Pl)/\W i n K t) ?_ m0 ⟨0,Z,H2,I2,V,λb j=>(f2 b j).1,w0⟩
 rintro n s3 ⟨i,Q,R,I3,P,C,w3⟩
 rcases B i n Q R w3 with⟨E,qn⟩|⟨go,N,hN,O⟩
 ·show PY M (a5 (T.done X rfl rfl rfl hc i a s3 Q R X.xe I3 (k C) P E) λr s4 ⟨U,I4⟩=>?_);subst U;show wpAny_execs_nil ⟨Q,R,I4,qn⟩
 ·show PY M (a5 (T.item X rfl rfl rfl hc i a s3 Q R X.xe I3 (k C) P go) λr s4 ⟨u,U,h4⟩=>?_);subst U;show PY M (a5 h4 λ_ s5 ⟨x,H5,I5,r5,y5,z,Y⟩=>?_);let S:=I5.pinned (k Y) (T.obj _ _ z);show PY M (a5 (hg _ s5 Q H5 x u _ S r5 (O x H5 y5)) λ_ s6 ⟨Z6,H6,I6,q6⟩=>?_);show PY M (a5 (j _ s6 Z6 H6 _ I6 q6) λf s7 y=>?_)
  let c:∀{p:St} {q:Hp},Inv X (a++mJ L s5.heap) p q s7->N p q->∃m,m<n/\∃i K t,Inv X a K t s7/\tn i s7.heap/\(∀b∈L,t b=Pl)/\W i m K t:=λ{p q} l F=>by
   obtain⟨m',hm,w7⟩:=hN p q F;show⟨m',hm,i+1,p,q,l.unpinned,T.keep _ _ _ z λb j o e=>(l.pin (b,o) (Mq _ (Mq _ (bj j e)))).1,λb j=>?_,w7⟩;obtain⟨o,e,d⟩:=T.obj _ _ z b j;show(l.pin (b,o) (Mq _ (Mq _ (bj j e)))).2.1
  cases f with
  |next=>obtain⟨p,q,l,F⟩:=y;show c l F
  |cont=>obtain⟨p,q,l,F⟩:=y;show c l F
  |brk=>obtain⟨p,q,l,y⟩:=y;show⟨p,q,l.unpinned,y⟩
  |ret v=>obtain⟨x7,p,q,l,r7,y⟩:=y;show⟨x7,p,q,l.unpinned,r7,y⟩
end
abbrev R2:=V->V->Hp->VK->Prop
def gE(X:Cx)(f:Pn->Pn->Sem Pn)(r:R2):Prop:=
 ∀(pins:List (Ps×Obj)) (s:Pt) (Z:St) (H:Hp) (x y:V) (v u:Pn) (Q:VK),Inv X pins Z H s->RelV x v->RelV y u->r x y H Q->
  Pv (Pw X.prog X.w) X.A (f v u) (EP X pins Z Q) X.xe s
def js(X:Cx)(f:Pn)(r:List V->Hp->VK->Prop):Prop:=
 ∀(pins:List (Ps×Obj)) (s:Pt) (Z:St) (H:Hp) (xs:List V) (us:List Pn) (Q:VK),Inv X pins Z H s->Vals xs us->r xs H Q->
  Pv (Pw X.prog X.w) X.A (call f us) (EP X pins Z Q) X.xe s
def JH(X:Cx)(r:V->Hp->(Bool->Hp->Prop)->Prop):Prop:=
 ∀(pins:List (Ps×Obj)) (s:Pt) (Z:St) (H:Hp) (x:V) (v:Pn) (Q:Bool->Hp->Prop),Inv X pins Z H s->RelV x v->r x H Q->
  Pv (Pw X.prog X.w) X.A (truthy v) (TP X pins Z Q) X.xe s
def Ja(r:R2)(ta tb:TE):TE:=λZ H Q=>ta Z H λx H1=>tb Z H1 λy H2=>r x y H2 Q
def rI(C:Int->Int->Prop)(g:Int->Int->V):R2:=λx y H Q=>∃i j,x=.int i/\y=.int j/\C i j/\Q (g i j) H
def sd(g:Int->Int->V):R2:=λx y H Q=>∃i j,x=.int i/\y=.int j/\Q (g i j) H
section
variable {X:Cx} {a b c:Pp} {ta tb tc:TE} {pos:Pos}
theorem C4(l:PE X a ta)(i:PE X b tb){pins:List (Ps×Obj)}{s:Pt}{Z:St}{H:Hp}{R:V->V->Hp->Prop}(I:Inv X pins Z H s)
  (h:ta Z H λx d=>tb Z d λy c=>R x y c) {Q:Pn->Pt->Prop} {f:Pn->Pn->Sem Pn}
  (hf:∀v u s2 x y c,Inv X pins Z c s2->RelV x v->RelV y u->R x y c->Pv (Pw X.prog X.w) X.A (f v u) Q X.xe s2) :
  Pv (Pw X.prog X.w) X.A (eval a X.env) (λv e=>Pv (Pw X.prog X.w) X.A (eval b X.env) (λu g=>Pv (Pw X.prog X.w) X.A (f v u) Q X.xe g) X.xe e) X.xe s:=by
 show a5 (l pins s Z H _ I h) λv s1 ⟨x,d,p,n,j⟩=>?_;show a5 (i pins s1 Z d _ p j) λu s2 ⟨y,c,o,k,m⟩=>?_;show hf v u s2 x y c o n k m
theorem Gg(d:gE X (binaryOp op) r)(i:PE X a ta)(g:PE X b tb):PE X (.BinOp a op b pos) (Ja r ta tb):=by
 intro c s Z H Q I h;show wpAny_BinOp (C4 i g I h λv u s2 x y j k e f q=>d c s2 Z j x y v u Q k e f q)
theorem FA{f:Pn->Pn->Sem Pn}{C:Int->Int->Prop}{g:Int->Int->Int}
  (rule:∀(i j:Int) (t u:Tok) (s:Pt) (Q:Pn->Pt->Prop) (E:Pn->Pt->Prop),C i j->Q (.int (g i j) s.toks) { s with toks:=s.toks+1 }->Pv (Pw X.prog X.w) X.A (f (.int i t) (.int j u)) Q E s) :
  gE X f (rI C λi j=>.int (g i j)):=by
 intro a s Z H x y v u Q I c d h;obtain⟨i,j,rfl,rfl,e,q⟩:=h;obtain⟨t,rfl⟩:=c;obtain⟨b,rfl⟩:=d;show rule i j t b s _ _ e ⟨.int (g i j),H,I.tok _,⟨_,rfl⟩,q⟩
theorem oj{f:Pn->Pn->Sem Pn}{g:Int->Int->Int}
  (rule:∀(i j:Int) (t u:Tok) (s:Pt) (Q:Pn->Pt->Prop) (E:Pn->Pt->Prop),Q (.int (g i j) s.toks) { s with toks:=s.toks+1 }->Pv (Pw X.prog X.w) X.A (f (.int i t) (.int j u)) Q E s) :
  gE X f (sd λi j=>.int (g i j)):=by
 intro a s Z H x y v u Q I c d h;obtain⟨i,j,rfl,rfl,q⟩:=h;obtain⟨t,rfl⟩:=c;obtain⟨b,rfl⟩:=d;show rule i j t b s _ _ ⟨.int (g i j),H,I.tok _,⟨_,rfl⟩,q⟩
theorem zw{f:Pn->Pn->Sem Pn}{g:Int->Int->Bool}
  (rule:∀(i j:Int) (t u:Tok) (s:Pt) (Q:Pn->Pt->Prop) (E:Pn->Pt->Prop),Q (.bool (g i j)) s->Pv (Pw X.prog X.w) X.A (f (.int i t) (.int j u)) Q E s) :
  gE X f (sd λi j=>.bl (g i j)):=by
 intro a s Z H x y v u Q I c d h;obtain⟨i,j,rfl,rfl,q⟩:=h;obtain⟨t,rfl⟩:=c;obtain⟨b,rfl⟩:=d;show rule i j t b s _ _ ⟨.bl (g i j),H,I,rfl,q⟩
def JI(i j:Int):Prop:=0<=j/\j<=1000000/\i.natAbs<2^64
theorem qp(k:Nat):(0:Int)<=2^k:=by
 rw[two_pow_cast];show Int.natCast_nonneg _
theorem C5:gE X (binaryOp .Add) (sd λi j=>.int (i+j)):=oj λ_ _ _ _ _ _ _ q=>add_int q
theorem C6:gE X (binaryOp .Sub) (sd λi j=>.int (i-j)):=oj λ_ _ _ _ _ _ _ q=>sub_int q
theorem C7:gE X (binaryOp .Mod) (rI (λ_ j=>0<j) λi j=>.int (i%j)):=FA λi j _ _ _ _ _ a q=>by
 let b:(0:Int)<j:=a;show mod_int' (by lia) (by rw[Int.fmod_eq_emod_of_nonneg i (by lia)];show q)
theorem C8:gE X (binaryOp .Pow) (rI JI λi j=>.int (i^j.toNat)):=FA λ_ _ _ _ _ _ _ a q=>pow_int_small a.1 a.2.1 a.2.2 q
theorem C9:gE X (binaryOp .RShift) (rI (λ_ j=>0<=j) λi j=>.int (i / 2^j.toNat)):=FA λi j _ _ _ _ _ a q=>
 rshift_int a (by rw[Oq i (qp _)];show q)
theorem Da:gE X (binaryOp .BitAnd) (sd λi j=>.int (Builtin.bitAnd i j)):=oj λ_ _ _ _ _ _ _ q=>and_int q
theorem Gi:gE X (binaryOp .BitOr) (sd λi j=>.int (Builtin.bitOr i j)):=oj λ_ _ _ _ _ _ _ q=>or_int q
theorem Db:gE X (binaryOp .BitXor) (sd λi j=>.int (Builtin.bitXor i j)):=oj λ_ _ _ _ _ _ _ q=>xor_int q
theorem zx:gE X (inplaceOp .Add) (sd λi j=>.int (i+j)):=oj λ_ _ _ _ _ _ _ q=>iadd_int q
theorem zy:gE X (inplaceOp .BitAnd) (sd λi j=>.int (Builtin.bitAnd i j)):=oj λ_ _ _ _ _ _ _ q=>iand_int q
theorem Dc:gE X (inplaceOp .BitOr) (sd λi j=>.int (Builtin.bitOr i j)):=oj λ_ _ _ _ _ _ _ q=>ior_int q
theorem Gj:gE X (compareOp .Lt) (sd λi j=>.bl (decide (i<j))):=zw λ_ _ _ _ _ _ _ q=>lt_int q
theorem Gk:gE X (compareOp .LtE) (sd λi j=>.bl (decide (i<=j))):=zw λ_ _ _ _ _ _ _ q=>le_int q
theorem Gm:gE X (compareOp .Gt) (sd λi j=>.bl (decide (j<i))):=zw λ_ _ _ _ _ _ _ q=>gt_int q
theorem Gn:gE X (compareOp .GtE) (sd λi j=>.bl (decide (j<=i))):=zw λ_ _ _ _ _ _ _ q=>ge_int q
theorem zA{op:PU}{r:R2}(d:gE X (compareOp op) r)(j:PE X a ta)(i:PE X b tb)(f:PR op b=Po):PE X (.Compare a [op] [b] pos) (Ja r ta tb):=by
 intro c s Z H Q I h;show wpAny_Compare1 (C4 j i I h λv u s2 x y k l e g q=>d c s2 Z k x y v u Q l e g q) f
def Go(t:TE):TT:=λZ H Q=>t Z H λx H'=>∃k,x=.bl k/\Q k H'
theorem zB{op:PU}(f:gE X (compareOp op) r)(p:PE X a ta)(m:PE X b tb)(j:PR op b=Po):PT X (.Compare a [op] [b] pos) (Go (Ja r ta tb)):=by
 intro d s Z H Q I h
 show wpAny_isTrue_Compare1 (a5 (p d s Z H _ I h) λv s1 ⟨x,i,A,t,l⟩=>a5 (m d s1 Z i _ A l) λu s2 ⟨y,w,C,n,q⟩=>
  a5 (f d s2 Z w x y v u _ C t n q) λc E ⟨z,g,D,o,k,e,B⟩=>?_) j
 subst e;cases o;show PV ⟨g,D,B⟩
def wk(r r':R2)(ta tb tc:TE):TE:=λZ H Q=>ta Z H λx H1=>tb Z H1 λy H2=>r x y H2 λz q=>∃k,z=.bl k/\
 (if k=Pm then tc Z q λB O=>r' y B O Q else Q (.bl Po) q)
theorem wl(F:gE X (compareOp op) r)(g:gE X (compareOp op') r')(M:PE X a ta)(w:PE X b tb)(E:PE X c tc)(K:lastMarks [op,op'] [b,c]=Po:=by with_unfolding_all rfl):PE X (.Compare a [op,op'] [b,c] pos) (wk r r' ta tb tc):=by
 intro f s Z H Q I h
 show Compare_chain (a5 (M f s Z H _ I h) λv s1 ⟨x,q,D,P,L⟩=>chain_link (a5 (w f s1 Z q _ D L) λu s2 ⟨y,R,S,i,N⟩=>
  a5 (F f s2 Z R x y v u _ S P i N) λd o ⟨z,m,l,A,k,e,j⟩=>?_)) K
 subst e;cases A;show PV ?_
 cases k with
 |false=>show ite_ff ⟨.bl Po,m,l,rfl,j⟩
 |true=>show ite_tt (chain_last (a5 (E f o Z m _ l j) λO s4 ⟨t,C,B,p,n⟩=>g f s4 Z C y t u O Q B i p n))
def zC(K:Md)(x:V)(H:Hp)(k:Bool):Prop:=
 match x with
 |.non=>k=Po
 |.bl b=>k=b
 |.int i=>k=(i != 0)
 |.str y=>y.length<=sizeLine/\k=((y.length:Int) != 0)
 |.byt y=>y.size<=sizeLine/\k=((y.size:Int) != 0)
 |.ref p=>(∃xs,SqL K H p xs/\k=!xs.isEmpty)\/(∃xs,SqT K H p xs/\k=!xs.isEmpty)\/∃kvs,H p=Pj (.dK kvs)/\k=!kvs.isEmpty
 |_=>False
theorem qr{κ:Type}{kvs:List (κ×V)}{vs:List (κ×Pn)}(r:KV kvs vs):(!vs.isEmpty)=!kvs.isEmpty:=by
 cases r<;>rfl
theorem j9{xs:List V}{a:List Pn}(r:Vals xs a):(!a.toArray.isEmpty)=!xs.isEmpty:=by
 cases r<;>simp
theorem iQ:(sizeLine:Nat)<2^63:=by rw[sizeLine_eq];decide
theorem gG:JH X (λx H Q=>∃k,zC X.K x H k/\Q k H):=by
 intro z s Z H x v Q I g h;obtain⟨k,e,q⟩:=h;let D:=iQ;let C:sizeLine=16777216:=sizeLine_eq
 cases x with
 |non=>
  cases g;let a:k=Po:=e;subst a;show truthy_none ⟨H,I,q⟩
 |bl b=>
  cases g;let a:k=b:=e;subst a;show PV ⟨H,I,q⟩
 |int i=>
  obtain⟨t,rfl⟩:=g;let a:k=(i != 0):=e;subst a;show PySem.P.truthy_int ⟨H,I,q⟩
 |str y=>
  obtain⟨t,rfl⟩:=g;obtain⟨B,a⟩:y.length<=sizeLine/\k=((y.length:Int) != 0):=e;subst a;show PySem.P.truthy_str (by lia) ⟨H,I.tok _,q⟩
 |byt y=>
  obtain⟨t,rfl⟩:=g;obtain⟨B,a⟩:y.size<=sizeLine/\k=((y.size:Int) != 0):=e;subst a;show PySem.W.truthy_bytes (by lia) ⟨H,I.tok _,q⟩
 |ref p=>
  cases g;let a:(∃f,SqL X.K H p f/\k=!f.isEmpty)\/(∃f,SqT X.K H p f/\k=!f.isEmpty)\/∃c,H p=Pj (.dK c)/\k=!c.isEmpty:=e;rcases a with⟨f,j,a⟩|⟨f,j,a⟩|⟨c,j,a⟩
  ·subst a;obtain⟨o,r,n,u⟩:=I.list j;let d:=r.length;show wpAny_truthy_list n.isList (by simp only[Mm];lia) ⟨H,I.tok _,by rw[j9 r];show q⟩
  ·subst a;obtain⟨o,r,n,u⟩:=I.tuple j;let d:=r.length;show truthy_tuple n (by simp only[Mm];lia) ⟨H,I.tok _,by rw[j9 r];show q⟩
  ·subst a;obtain⟨u,A,l,r,m⟩:c.length<=sizeLine/\(p==sysModules)=Po/\∃l,KV c l/\s.heap.DictOf (aG X.prog X.w) p l:=I.hok p _ j;let d:c.length=l.length:=Paired.length r;show wpAny_truthy_dict A m (by lia) ⟨H,I.tok _,by rw[qr r];show q⟩
 |_=>show(show False from e).elim
theorem wm(i:PE X a ta)(f:∀b,isTrue a X.env b=(do let v <- b;standAt a.pos;holding [v] (truthy v))) :
  PT X a (λZ H Q=>ta Z H λx d=>∃k,zC X.K x d k/\Q k d):=by
 intro c s Z H Q I h;show isTrue_plain (a5 (i c s Z H _ I h) λv s1 ⟨x,e,l,j,g⟩=>gG c s1 Z e x v Q l j g) (f _)
theorem lL{x:V}(r:Vals [x] us):∃u,us=[u]/\RelV x u:=by
 cases r with
 |cons a b=>cases b;show⟨_,rfl,a⟩
theorem Gp(r:Vals [x,y] us):∃u a,us=[u,a]/\RelV x u/\RelV y a:=by
 cases r with
 |cons d e=>
  cases e with
  |cons c b=>cases b;show⟨_,_,rfl,d,c⟩
theorem wn:js X (.builtin "abs") (λxs H Q=>∃i,xs=[.int i]/\Q (.int (if i<0 then -i else i)) H):=by
 intro a s Z H xs c Q I r h;obtain⟨i,rfl,q⟩:=h;obtain⟨u,rfl,t,rfl⟩:=lL r
 show call_abs_int λu b=>⟨.int (if i<0 then -i else i),H,I.tok _,⟨_,rfl⟩,q⟩
end
structure ObjM(h:Heap)(x dx C:Addr)(mA:Str->Option Value):Prop where
 obj:h.get? x=Pj (Nq C dx)
 ns:h.Ns1 dx mA
 ne:dx≠x
theorem uK{h:PD}{mA:Str->Option Pn}(n:h.Ns1 dx mA):∃d,h.get? dx=Pj d/\∀name,Og name d=Pj (mA name):=by
 obtain⟨o,c,l,g,f,hk,_,i⟩:=n;show⟨o,g,λname=>?_⟩;let e:=i name;unfold nsFind findBy at e;rw[<- Array.find?_toList] at e;unfold Og;rw[f];dsimp only;split
 ·ext y q;rw[q] at e;show congrArg Pj e
 ·ext q;rw[q] at e
  let a:c.toList.any (·.refKey)=Po:=by
   rw[O5];intro y j;obtain⟨z,t,b⟩:=hk y (Array.mem_toList_iff.mp j);simp[DictEntry.refKey,b]
  let k:¬c.toList.any (·.refKey)=Pm:=by rw[a];show Mz
  rw[if_neg k];show congrArg Pj e
theorem ObjM.look{mA:Str->Option Pn}(I:ObjM h x dx C mA):∃a,PySem.W.InstAt h x (Nq C dx) C (Pj a)/\∀name,Og name a=Pj (mA name):=
 let ⟨a,ho,hl⟩:=uK I.ns
 ⟨a,⟨I.obj,rfl,rfl,ho⟩,hl⟩
section
variable {prog:Px} {w:PB} {A:PC} {E:Pn->Pt->Prop} {s:Pt} {K:Md} {x dx C f:Ps} {mA:Str->Option Pn} {name:Str} {v:Pn}
theorem zD{Q:Pn->Pt->Prop}(X:K.In s.heap)(I:ObjM s.heap x dx C mA)(f:N6 K C name=Pm)(c:Ot K C=Pm)(d:Nb K (.ref C) name=Pj Pl)(b:mA name=Pj v)(a:O8 v=Pm)(h:Q v { s with toks:=s.toks+1 }) :
  Pv (Pw prog w) A (getAttr (.ref x) name expr) Q E s:=by
 obtain⟨g,J,e⟩:=I.look;show PySem.W.get_value X J (Oc f).1 (PySem.W.findObj_own c d rfl (by rw[e,b])) a h
theorem wo{Q:Pn×List Pn->Pt->Prop}(X:K.In s.heap)(I:ObjM s.heap x dx C mA)(a:N6 K C name=Pm)(e:Nb K (.ref C) name=Pj (Pj (.ref f)))(c:OY K (.ref f)=Pm)(b:mA name=Pl)(h:Q (.ref f,[.ref x]) s) :
  Pv (Pw prog w) A (getMethod (.ref x) name pl) Q E s:=by
 obtain⟨g,J,d⟩:=I.look;show PySem.W.method_fn X J (Oc a).1 (Oc a).2 e (beq_iff_eq.mp c) (by change(Og name g).map (·.isSome)=Pj Po;rw[d,b];rfl) h
theorem zE{ns:List Str}{Q:Unit->Pt->Prop}(X:K.In s.heap)(I:ObjM s.heap x dx C mA)
  (hs:Nb K (.ref C) "__setattr__" = Pj (Pj (.builtin "object.__setattr__"))) (hp:O6 K C=Pm) (ht:OG K C name=Pj Pl) (hh:Ot K C=Pm)
  (hw:PySem.Within mA ns) (hsz:ns.length<=sizeLine)
  (h:∀d,ObjM d x dx C (λy=>if y=name then Pj v else mA y)->Heap.SameBut dx s.heap d->Q () { s with heap:=d,toks:=s.toks+2 }) :
  Pv (Pw prog w) A (setAttr (.ref x) name v) Q E s:=by
 obtain⟨n,J,o⟩:=I.look;show PySem.W.set_plain X J hs (PySem.W.osa_open (s:={ s with toks:=s.toks+1 }) (r:=Pl) X J hp ht λb=>?_);obtain⟨q,m,f⟩:=PySem.W.any_some hh;let l:s.heap.get? x=Pj ⟨.ref C,Pj dx,.plain,#[]⟩:=I.obj;show Pq (Pu (Pq (Pq (wpAny_loadPart l (Pq (PySem.W.Looks.here (s:={ s with toks:=s.toks+1 }) (PySem.W.looks_clsIn X m) ?_))))));rw[f];show Pu (a:=Pj dx) (Pq (Pu (Pq ?_)));show wpAny_nsSet1 (s:={ s with toks:=s.toks+1 }) I.ns λd c hs2=>?_;obtain⟨p,k,j,i,g,e⟩:=c.count (PySem.Within.cons name v hw);show Pq (wpAny_lookBehind i (by rw[g];show pastItsLine_dict (MP e (by rw[MW];lia))) ?_);show Pu (h _ ⟨(hs2.2 _ (Ne.symm I.ne)).trans I.obj,c,I.ne⟩ hs2)
theorem wq(X:K.In s.heap)(c:Pf K C=Pm)(hi:Nb K (.ref C) "__init__" = Pj (Pj (.ref f)))(b:PySem.W.typeIn K (.ref f)=Pj (.type "function"))(h:codeAny (Pw prog w) (A.under (.builtin "type.__call__" ⟨.ref C::vs,kw⟩)) (.call (.ref f) ⟨.ref (s.heap.objs.size+1)::vs,kw⟩) (PySem.W.InitBack (s.heap.objs.size+1) R)
   { s with heap:=(s.heap.push Nc).push (Nq C s.heap.objs.size) }) :
  codeAny (Pw prog w) A (.call (.ref C) ⟨vs,kw⟩) R s:=by
 obtain⟨e,g,d,t,i⟩:=s;show PySem.W.make_core (PySem.W.makes_of X c) (PySem.W.looks_findIn X hi) (λa=>PySem.W.bind_fn X a b) (.inl rfl) h
end
noncomputable def putF(f:Str)(v:V):List (Str×V)->List (Str×V)
 |[]=>[(f,v)]
 |(g,x)::r=>if g=f then(g,v)::r else(g,x)::putF f v r
theorem ju(f g:Str)(v:V):∀fs:List (Str×V),(putF f v fs).lookup g=if g=f then Pj v else fs.lookup g
 |[]=>by
  change Nm g [(f,v)]=_;by_cases h:g=f
  ·let a:(g==f)=Pm:=beq_iff_eq.mpr h;simp only[Nm,a,if_pos h]
  ·let a:(g==f)=Po:=beq_eq_false_iff_ne.mpr h;simp only[Nm,a,if_neg h]
 |(k,x)::r=>by
  let b:=ju f g v r
  rw[show putF f v ((k,x)::r)=(if k=f then(k,v)::r else(k,x)::putF f v r) from rfl]
  by_cases hk:k=f
  ·rw[if_pos hk];by_cases h:g=k
   ·let a:(g==k)=Pm:=beq_iff_eq.mpr h;simp only[Nm,a,if_pos (h.trans hk)]
   ·let a:(g==k)=Po:=beq_eq_false_iff_ne.mpr h;simp only[Nm,a,if_neg (λe:g=f=>h (e.trans hk.symm))]
  ·rw[if_neg hk];by_cases h:g=k
   ·let a:(g==k)=Pm:=beq_iff_eq.mpr h;simp only[Nm,a,if_neg (λe:g=f=>hk (h.symm.trans e))]
   ·let a:(g==k)=Po:=beq_eq_false_iff_ne.mpr h;simp only[Nm,a];show b
theorem iR(f:Str)(v:V):∀fs:List (Str×V),f∈(putF f v fs).map (·.1)/\∀g,g∈fs.map (·.1)->g∈(putF f v fs).map (·.1)
 |[]=>⟨by simp[putF],λg h=>by simp at h⟩
 |(k,x)::r=>by
  obtain⟨a,b⟩:=iR f v r
  rw[show putF f v ((k,x)::r)=(if k=f then(k,v)::r else(k,x)::putF f v r) from rfl]
  by_cases hk:k=f
  ·rw[if_pos hk];subst hk;show⟨by simp,λg h=>by simpa using h⟩
  ·rw[if_neg hk];show⟨?_,λg h=>?_⟩
   ·rw[Mx];show Mt _ a
   ·rw[Mx] at h⊢;rcases Mn.mp h with e|e
    ·show Mn.mpr (.inl e)
    ·show Mt _ (b g e)
theorem jv(f:Str)(v:V):∀fs:List (Str×V),(putF f v fs).length<=fs.length+1
 |[]=>by simp[putF]
 |(k,x)::r=>by
  let a:=jv f v r
  rw[show putF f v ((k,x)::r)=(if k=f then(k,v)::r else(k,x)::putF f v r) from rfl]
  by_cases hk:k=f
  ·rw[if_pos hk,MW,MW];lia
  ·rw[if_neg hk,MW,MW];lia
theorem RelO.some_of(r:RelO (Pj v) o):∃u,o=Pj u/\RelV v u:=by
 cases o with
 |none=>show(show False from r).elim
 |some u=>show⟨u,rfl,r⟩
theorem RelO.none_of(r:RelO Pl o):o=Pl:=by
 cases o with
 |none=>rfl
 |some u=>show(show False from r).elim
theorem uL(r:RelV v u):O8 u=Pm:=by
 cases v with
 |non=>cases(show u=Value.none from r);rfl
 |bl b=>cases(show u=Value.bool b from r);rfl
 |int i=>obtain⟨t,e⟩:=(show ∃t,u=Value.int i t from r);cases e;rfl
 |str x=>obtain⟨t,e⟩:=(show ∃t,u=Value.str x t from r);cases e;rfl
 |byt b=>obtain⟨t,e⟩:=(show ∃t,u=Value.bytes b t from r);cases e;rfl
 |flt b=>obtain⟨t,e⟩:=(show ∃t,u=Value.float b t from r);cases e;rfl
 |ref a=>cases(show u=Value.ref a from r);rfl
 |ty n=>cases(show u=Value.type n from r);rfl
section
variable {P:Px} {w:PB} {H H':Hp} {h h':PD} {a C dx:Ps} {fs fs':List (Str×V)}
theorem mN(b:HOk P w H h)(e:H a=Pj (.ins C dx fs)):∃mA,ObjM h a dx C mA/\(∀f,RelO (fs.lookup f) (mA f))/\PySem.Within mA (fs.map (·.1))/\fs.length<=1000/\H dx=Pj (.own a):=by
 obtain⟨d,z,c,g,mA,n,r,q⟩:=(show ObjOk P w H h a (.ins C dx fs) from b a _ e);show⟨mA,⟨g,n,c⟩,r,q,z,d⟩
end
structure Cls(K:Md)(C:Addr):Prop where
 pg:N6 K C Str.empty=Pm
 hd:Ot K C=Pm
 po:O6 K C=Pm
 sa:Nb K (.ref C) "__setattr__" = Pj (Pj (.builtin "object.__setattr__"))
theorem Cls.get{K:Md}{C:Ps}(c:Cls K C)(f:Str):N6 K C f=Pm:=c.pg
def NoAttr(K:Md)(C:Ps)(f:Str):Prop:=Nb K (.ref C) f=Pj Pl
theorem NoAttr.taker{K:Md}{C:Ps}{f:Str}(n:NoAttr K C f):OG K C f=Pj Pl:=by
 unfold OG;rw[show Nb K (.ref C) f=Pj Pl from n];rfl
structure Mb(K:Md)(C:Addr)(f:Str)(v:V)(u:Value):Prop where
 at_:Nb K (.ref C) f=Pj (Pj u)
 rel:RelV v u
 get:PySem.W.specialIn K u "__get__" = Pj Pl
 cp:PySem.W.copiedNames.contains f=Po
structure om(K:Md)(C:Addr)(m:Str)(f:Addr):Prop where
 at_:Nb K (.ref C) m=Pj (Pj (.ref f))
 fn:OY K (.ref f)=Pm
 kp:M8 K (.ref f)=Pm
section
variable {X:Cx} {pins:List (Ps×Obj)} {Z:St} {H:Hp} {s:Pt} {a C dx:Ps} {fs:List (Str×V)} {f:Str} {v:V} {A:PC} {E:Pn->Pt->Prop}
theorem qt{Q:Pn->Pt->Prop}(I:Inv X pins Z H s)(e:H a=Pj (.ins C dx fs))(c:Cls X.K C)(n:NoAttr X.K C f)(l:fs.lookup f=Pj v)(h:∀u s',Inv X pins Z H s'->RelV v u->Q u s'):Pv (Pw X.prog X.w) A (getAttr (.ref a) f b) Q E s:=by
 obtain⟨i,O,r,_,_,_⟩:=mN I.hok e;obtain⟨u,g,d⟩:=RelO.some_of (v:=v) (o:=i f) (by rw[<- l];show r f);show zD I.kIn O (c.get f) c.hd n g (uL d) (h u _ (I.tok _) d)
theorem qu{Q:Pn×List Pn->Pt->Prop}(I:Inv X pins Z H s)(e:H a=Pj (.ins C dx fs))(c:Cls X.K C)(k:om X.K C m g)(l:fs.lookup m=Pl)(h:Q (.ref g,[.ref a]) s):Pv (Pw X.prog X.w) A (getMethod (.ref a) m pl) Q E s:=by
 obtain⟨b,O,r,_,_,_⟩:=mN I.hok e;let d:b m=Pl:=RelO.none_of (by rw[<- l];show r m);show wo I.kIn O (c.get m) k.at_ k.fn d h
theorem qw{Q:Unit->Pt->Prop}(I:Inv X pins Z H s)(e:H a=Pj (.ins C dx fs))(c:Cls X.K C)(n:NoAttr X.K C f)(F:fs.length<1000)(B:RelV y u)(h:∀s',Inv X pins Z (upd H a (.ins C dx (putF f y fs))) s'->Q () s'):Pv (Pw X.prog X.w) A (setAttr (.ref a) f u) Q E s:=by
 obtain⟨j,O,r,k,_,i⟩:=mN I.hok e;let l:(fs.map (·.1)).length<=sizeLine:=by rw[Mh,sizeLine_eq];lia
 show zE I.kIn O c.sa c.po n.taker c.hd k l λt d p=>h _ ?_;let m:∃o,t.get? dx=Pj o:=let ⟨o,_,_,e',_⟩:=d.ns;⟨o,e'⟩;show I.write (x:=a) (e:=dx) (by rw[e];show True.intro) (.inr i) (λb q D z=>(p.2 b D).trans z) m ?_;show⟨by rw[ah O.ne];show i,?_,O.ne,d.obj,_,d.ns,λg=>?_,λg v=>?_⟩
 ·have:=jv f y fs;lia
 ·change RelO ((putF f y fs).lookup g) (if g=f then Pj u else j g)
  rw[ju];by_cases q:g=f
  ·rw[if_pos q,if_pos q];show B
  ·rw[if_neg q,if_neg q];show r g
 ·by_cases q:g=f
  ·rw[q];show(iR f y fs).1
  ·show(iR f y fs).2 g (k g λz=>v ?_)
   change(if g=f then Pj u else j g)=Pl
   rw[if_neg q];show z
theorem Inv.made(I:Inv X pins Z H s):Inv X pins Z (upd (upd H s.heap.objs.size (.own (s.heap.objs.size+1))) (s.heap.objs.size+1) (.ins C s.heap.objs.size []))
  { s with heap:=(s.heap.push Nc).push (Nq C s.heap.objs.size) }:=by
 let e1:(s.heap.push Nc).get? s.heap.objs.size=Pj Nc:=Mp s.heap rfl
 let e2:((s.heap.push Nc).push (Nq C s.heap.objs.size)).get? (s.heap.objs.size+1)=Pj (Nq C s.heap.objs.size):=by
  have:=Mp (s.heap.push Nc) (o:=Nq C s.heap.objs.size) rfl;rwa [Nu] at this
 let e3:(s.heap.push Nc).Ns s.heap.objs.size (λ_=>Pl):=⟨Nc,#[],_,e1,rfl,(λe f=>absurd f (by simp)),λ_=>rfl⟩;let d:=I.laid (a:=s.heap.objs.size) (o:=.own (s.heap.objs.size+1)) (h':=s.heap.push Nc) (t':=s.toks) (λb u q=>Mf _ q) (Mi _) ⟨_,e1⟩;show d.laid (a:=s.heap.objs.size+1) (o:=.ins C s.heap.objs.size []) (t':=s.toks) (λb u q=>Mf _ q) (Nat.le_of_eq (Nu _ _)) ?_;let c:s.heap.objs.size≠s.heap.objs.size+1:=Mr (Nw _);show⟨by rw[ah c,ak],ML _,c,e2,λ_=>Pl,(Heap.Ns1.of_empty e3).at λo q=>Mf _ q,λ_=>True.intro,λy g=>absurd rfl g⟩
theorem zG(b:attributeBase e f env (eval e env)=eval e env)(h:Pv (Pw prog w) A (eval e env) (λo a=>Pv (Pw prog w) A (getAttr o f Pm) Q E a) E s):Pv (Pw prog w) A (eval (.Attribute e f pos) env) Q E s:=
 Attribute_any_ h (by rw[arm_eval_Attribute,b])
end
def JJ(K:Md)(ta:TE)(f:Str):TE:=λZ H Q=>ta Z H λx H1=>∃a C dx fs v,x=.ref a/\H1 a=Pj (.ins C dx fs)/\Cls K C/\NoAttr K C f/\fs.lookup f=Pj v/\Q v H1
def JK(K:Md)(ta tv:TE)(f:Str):TS:=λD Z H=>tv Z H λy H1=>ta Z H1 λx H2=>∃a C dx fs,x=.ref a/\H2 a=Pj (.ins C dx fs)/\Cls K C/\NoAttr K C f/\fs.length<1000/\
 D.nx Z (upd H2 a (.ins C dx (putF f y fs)))
section
variable {X:Cx} {o e value:Pp} {f:Str} {pos pos' tpos:Pos} {ta tv:TE}
theorem wt(i:PE X e ta)(k:attributeBase e f X.env (eval e X.env)=eval e X.env):PE X (.Attribute e f pos) (JJ X.K ta f):=by
 intro b s Z H Q I h;show zG k (a5 (i b s Z H _ I h) λu s1 ⟨x,g,p,d,a,C,w,y,v,o,m,c,n,l,q⟩=>?_);subst o;obtain rfl:u=Value.ref a:=d;show qt p m c n l λt s2 r j=>⟨v,g,r,j,q⟩
theorem Dd(p:PE X o ta)(d:PE X value tv)(e:swapsWith value (Pj (.Attribute o f pos')) pos.line X.env=pure Po):PS X (.Assign [.Attribute o f pos'] value pos) (JK X.K ta tv f):=by
 intro b s Z H D I h;show plainObj_wpAny_Assign_Attribute (a5 (d b s Z H _ I h) λu s1 ⟨y,i,v,k,q⟩=>a5 (p b s1 Z i _ v q) λj s2 ⟨x,F,z,g,a,C,B,E,r,m,c,n,l,t⟩=>?_) e;subst r;obtain rfl:j=Value.ref a:=g;show qw z m c n l k λA w=>⟨Z,_,w,t⟩
end
section
variable {X:Cx} {pins:List (Ps×Obj)} {Z:St} {H:Hp} {s:Pt} {A:PC} {E:Pn->Pt->Prop} {Q:Pn->Pt->Prop} {c:Pn} {b:Bool}
inductive qx (K:Md) (H:Hp):V->Value->Prop where
 |bl (x:Bool):qx K H (.bl x) (.type "bool")
 |int (i:Int):qx K H (.int i) (.type "int")
 |lst {a:Ps} {xs:List V} (e:H a=Pj (.lst xs)):qx K H (.ref a) (.type "list")
 |tup {a:Ps} {xs:List V} (e:H a=Pj (.tup xs)):qx K H (.ref a) (.type "tuple")
theorem uM(I:Inv X pins Z H s)(d:RelV x u)(ty:qx X.K H x t)(e:NL X.K t c=Pj b)(h:∀tk,Q (.bool b) { s with toks:=tk }) :
  Pv (Pw X.prog X.w) A (call (.builtin "isinstance") [u,c]) Q E s:=by
 cases ty with
 |bl y=>cases(show u=Value.bool y from d);show Ob PySem.W.kitx_bool I.kIn True.intro e (λz=>nomatch z) h
 |int i=>obtain⟨t,q⟩:=(show ∃t,u=Value.int i t from d);cases q;show Ob PySem.W.kitx_int I.kIn True.intro e (λz=>nomatch z) h
 |@lst a j f=>
  cases(show u=Value.ref a from d);obtain⟨_,_,n,_,g⟩:=(show ObjOk X.prog X.w H s.heap a (.lst j) from I.hok a _ f)
  show Ob PySem.W.kitx_list I.kIn ⟨_,g,rfl⟩ e (λz=>nomatch z) h
 |@tup a j f=>
  cases(show u=Value.ref a from d);obtain⟨_,_,_,p⟩:=(show ObjOk X.prog X.w H s.heap a (.tup j) from I.hok a _ f);obtain⟨o,g,k,_⟩:=p
  show Ob PySem.W.kitx_tuple I.kIn ⟨o,g,k⟩ e (λz=>nomatch z) h
end
structure Room(k:Nat)(A:Around):Prop where
 hd:A.handled=Pl
 dp:A.depth+3*k+5<recursionLimit
 un:A.units+16*k+200<cLine
 gd:A.guards=Pj []
theorem Room.mono{j k:Nat}(r:Room k A)(h:j<=k):Room j A:=⟨r.hd,by have:=r.dp;lia,by have:=r.un;lia,r.gd⟩
theorem Room.deeper{k:Nat}{A:PC}(r:Room (k+1) A)(env:Env):Room k (A.deeper env):=
 ⟨r.hd,by have:=r.dp;change A.depth+1+3*k+5<_;lia,by have:=r.un;change A.units+3+16*k+200<_;lia,r.gd⟩
theorem qy{A:PC}:(A.under (.builtin "type.__call__" ⟨.ref C::us,kw⟩)).depth=A.depth+1:=by
 first|rfl|simp[Around.under,Code.weight,Code.isCreation,Code.isGuard,Code.isCaller,Code.frames,Code.isFrame,guardIds]
theorem qz{A:PC}:(A.under (.builtin "type.__call__" ⟨.ref C::us,kw⟩)).units=A.units+1:=by
 first|rfl|simp[Around.under,Code.cUnits,Code.frames,Code.isFrame]
theorem ot{A:PC}:(A.under (.builtin "type.__call__" ⟨.ref C::us,kw⟩)).guards=A.guards:=by
 first|rfl|simp[Around.under,Code.weight,Code.isCreation,Code.isGuard,Code.isCaller,Code.frames,Code.isFrame,guardIds]
theorem Room.make{k:Nat}{A:PC}(r:Room (k+1) A)(C:Ps)(us:List Pn)(a:List (Str×Pn)):Room k (A.under (.builtin "type.__call__" ⟨.ref C::us,a⟩)):=
 ⟨r.hd,by have:=r.dp;rw[qy];lia,by have:=r.un;rw[qz];lia,by rw[ot];show r.gd⟩
theorem Room.depth{A:PC}(r:Room k A):A.depth<recursionLimit:=by have:=r.dp;lia
def zH:TA:=λ_ H Q=>Q [] H
def Gq(ta:TE)(q:TA):TA:=λZ H Q=>ta Z H λx H1=>q Z H1 λxs H2=>Q (x::xs) H2
section
variable {X:Cx} {e:Pp} {es:List Pp} {te:TE} {t:TA} {pos:Pos}
theorem de:PA X [] zH:=λ_ _ _ _ H Q I h=>Calls.spliced_nil ⟨[],H,I,.nil,h⟩
theorem bf(j:PE X e te)(c:PA X es t)(d:Py (e::es) X.env=(Po,eval e X.env)::Py es X.env:=by rfl):PA X (e::es) (Gq te t):=by
 intro b a s Z H Q I h;rw[d];change Pv _ _ (spliced ((Po,eval e X.env)::backTo b (Py es X.env))) _ _ s;show Calls.spliced_cons (a5 (j a s Z H _ I h) λu s1 ⟨x,f,o,l,g⟩=>?_);show a5 (c b a s1 Z f _ o g) λq s2 ⟨m,n,p,i,k⟩=>⟨x::m,n,p,.cons l i,k⟩
def JL(t:TA):TE:=λZ H Q=>t Z H λxs H1=>xs.length<=sizeLine/\∀p,H1 p=Pl->Q (.ref p) (upd H1 p (.tup xs))
def JM(t:TA):TE:=λZ H Q=>t Z H λxs H1=>xs.length<=sizeLine/\∀p,H1 p=Pl->Q (.ref p) (upd H1 p (.lst xs))
theorem mO{x1}(h:PA X es t):PE X (.Tuple es x1 pos) (JL t):=by
 intro a s Z H Q I g;show wpAny_Tuple_spliced (a5 (h pos a s Z H _ I g) λi s1 ⟨j,c,d,r,z,q⟩=>⟨by rw[<- r.length];show z,?_⟩);let f:c s1.heap.objs.size=Pl:=d.hok.fresh (Mi _);show⟨.ref s1.heap.objs.size,upd c s1.heap.objs.size (.tup j),d.laid (t':=s1.toks) (λb u e=>Mf _ e) (Mi _) ?_,rfl,q _ f⟩;show⟨z,i,r,⟨_,Mp _ rfl,rfl,_,rfl⟩⟩
theorem De(h:PA X es t):PE X (.List es pos) (JM t):=by
 intro a s Z H Q I g;show wpAny_List_spliced (a5 (h pos a s Z H _ I g) λi s1 ⟨j,c,d,r,z,q⟩=>⟨by rw[<- r.length];show z,?_⟩);let f:c s1.heap.objs.size=Pl:=d.hok.fresh (Mi _);show⟨.ref s1.heap.objs.size,upd c s1.heap.objs.size (.lst j),d.laid (t':=s1.toks) (λb u e=>Mf _ e) (Mi _) ?_,rfl,q _ f⟩;show⟨z,i,0,r,Mp _ rfl⟩
end
abbrev Sp:=List V->Hp->VK->XK->Prop
abbrev uN:=List Env->Hp->Pt->XK->Pn->Pt->Prop
structure Env0(P:Program)(w:World)(K:Md)(mg:Str->Option Value)(base:Heap)(A:Around)(outer:List Env)(s:Shared)(H:Hp):Prop where
 frames:A.frames=Pj outer
 mod:Mod K mg base
 bs:∀b o,base.get? b=Pj o->s.heap.get? b=Pj o/\H b=Pl
 bsz:base.objs.size<=s.heap.objs.size
 funs:s.heap.FunFrames base outer
 frf:∀b∈vW outer,H b=Pl
 hok:HOk P w H s.heap
 bare:AllBare s.gens
def CE(q:List Env)(P:Px)(w:PB)(H:Hp)(s:Pt)(Q:VK)(u:Pn)(s':Pt):Prop:=
 ∃v H',s'.os=s.os/\AllBare s'.gens/\Un (vW q) [] H H' s.heap s'.heap/\HOk P w H' s'.heap/\RelV v u/\Q v H'
def CR(CX:uN)(q:List Env)(P:Px)(w:PB)(H:Hp)(s:Pt)(Q:VK)(E:XK)(r:Result)(s':Pt):Prop:=
 match r with
 |.ok (.ret u)=>CE q P w H s Q u s'
 |.ok _=>False
 |.error e=>CX q H s E e s'
structure FnOk(P:Program)(w:World)(K:Md)(mg:Str->Option Value)(base:Heap)(CX:uN)(k:Nat)(f:Addr)(fd:FuncData)(ps:List Str)(sp:Sp):Prop where
 len:∀vs H Q E,sp vs H Q E->vs.length=ps.length
 run:∀(A:PC) (outer:List Env) (s:Pt) (H:Hp) (args:Args) (us:List Pn) (vs:List V) (Q:VK) (E:XK),Room k A->Env0 P w K mg base A outer s H->BindsTo s fd args (ps.zip us)->Vals vs us->sp vs H Q E->
  codeAny (Pw P w) A (.call (.ref f) args) (CR CX outer P w H s Q E) s
theorem FnOk.mono{P:Px}{w:PB}{K:Md}{mg:Str->Option Pn}{base:PD}{CX:uN}{j k:Nat}{f:Ps}{fd:PL}{ps:List Str}{sp:Sp}(F:FnOk P w K mg base CX j f fd ps sp)(h:j<=k) :
  FnOk P w K mg base CX k f fd ps sp:=⟨F.len,λA a s H b d e Q E c=>F.run A a s H b d e Q E (c.mono h)⟩
theorem FnOk.imp{P:Px}{w:PB}{K:Md}{mg:Str->Option Pn}{base:PD}{CX:uN}{k:Nat}{f:Ps}{fd:PL}{ps:List Str}{sp d:Sp}(F:FnOk P w K mg base CX k f fd ps sp)
  (h:∀b H Q E,d b H Q E->sp b H Q E):FnOk P w K mg base CX k f fd ps d:=
 ⟨λb H Q E q=>F.len b H Q E (h _ _ _ _ q),λA a s H c m b Q E e j l g i=>F.run A a s H c m b Q E e j l g (h _ _ _ _ i)⟩
theorem Env0.make{P:Px}{w:PB}{K:Md}{mg:Str->Option Pn}{base:PD}{A:PC}{a:List Env}{s:Pt}{H:Hp}(e:Env0 P w K mg base A a s H)(C:Ps)(us:List Pn)(b:List (Str×Pn)) :
  Env0 P w K mg base (A.under (.builtin "type.__call__" ⟨.ref C::us,b⟩)) a s H:=⟨by first|show e.frames|(simpa[Around.under,Code.envs,Code.isFrame,pushEnvs] using e.frames),e.mod,e.bs,e.bsz,e.funs,e.frf,e.hok,e.bare⟩
section
variable {X:Cx} {pins:List (Ps×Obj)} {Z:St} {H:Hp} {s s':Pt}
theorem Inv.env0(I:Inv X pins Z H s):Env0 X.prog X.w X.K X.mg X.base X.A X.stack s H:=
 ⟨I.ok.frames,I.ok.mod,I.bs,MP I.ok.bsz I.sz,I.stack,I.stkFree,I.hok,I.bare⟩
theorem Inv.after(I:Inv X pins Z H s)(h:CE X.stack X.prog X.w H s Q u s'):EP X pins Z Q u s':=by
 obtain⟨v,j,f,a,k,c,r,q⟩:=h;obtain⟨i,g,d,t,e⟩:=s';obtain rfl:e=s.os:=f;show⟨v,j,I.call (h':=i) (g':=g) (d':=d) (t':=t) (ch:=[]) k c a (λb z=>absurd z (by simp)),r,q⟩
end
def BA(sp:Sp)(dvs:List V)(E:XK)(t:TA):TE:=λZ H Q=>t Z H λvs H1=>sp (vs++dvs) H1 Q E
def Gr(C:Ps)(m:Str)(sp:Sp)(dvs:List V)(E:XK)(ta:TE)(t:TA):TE:=λZ H Q=>ta Z H λx H1=>∃a dx fs,x=.ref a/\H1 a=Pj (.ins C dx fs)/\fs.lookup m=Pl/\
 t Z H1 λvs H2=>sp (x::(vs++dvs)) H2 Q E
def BB(C:Ps)(sp:Sp)(dvs:List V)(E:XK)(t:TA):TE:=λZ H Q=>t Z H λvs H1=>∀x dx,H1 x=Pl->H1 dx=Pl->dx≠x->
 sp (.ref x::(vs++dvs)) (upd (upd H1 dx (.own x)) x (.ins C dx [])) (λv H2=>v=.non/\Q (.ref x) H2) E
def Binds(K:Md)(fd:PL)(ps:List Str)(ds:List Pn):Prop:=
 ∀(s:Pt) (us:List Pn),K.In s.heap->(us++ds).length=ps.length->BindsTo s fd ⟨us,[]⟩ (ps.zip (us++ds))
theorem Binds.all{K:Md}{fd:PL}{ps:List Str}(h:∀us:List Pn,us.length=ps.length->bindArgs fd ⟨us,[]⟩=pure (ps.zip us)):Binds K fd ps []:=λs us _ a=>by
 rw[M5] at a⊢;show .of_eq (h us a)
def eV(CX:uN)(X:Cx)(E:XK):Prop:=∀(pins:List (Ps×Obj)) (Z:St) (H:Hp) (s:Pt) (e:Pn) (s':Pt),Inv X pins Z H s->CX X.stack H s E e s'->X.xe e s'
section
variable {X:Cx} {CX:uN} {k:Nat} {f C:Ps} {fd:PL} {ps:List Str} {sp:Sp} {dvs:List V} {ds:List Pn} {E:XK} {x m:Str} {p pos apos:Pos} {e o:Pp} {es:List Pp} {ta:TE} {t:TA}
theorem qA{vs:List V}(F:FnOk X.prog X.w X.K X.mg X.base CX k f fd ps sp)(c:Room k X.A)(l:Binds X.K fd ps ds)(hd:Vals dvs ds)(i:eV CX X E)(I:Inv X pins Z H s)(r:Vals vs us)(h:sp (vs++dvs) H Q E):Pv (Pw X.prog X.w) X.A (call (.ref f) us) (EP X pins Z Q) X.xe s:=by
 let b:Vals (vs++dvs) (us++ds):=r.append hd;let d:(us++ds).length=ps.length:=by rw[<- b.length];show F.len _ _ _ _ h
 show wpAny_call (codeAny_mono (F.run X.A X.stack s H ⟨us,[]⟩ (us++ds) (vs++dvs) Q E c I.env0 (l s us I.kIn d) b h) λr g a=>?_)
 cases r with
 |error e=>show i pins Z H s e g I a
 |ok j=>
  cases j with
  |ret u=>show I.after a
  |next=>show False.elim a
  |brk=>show False.elim a
  |cont=>show False.elim a
theorem sg(F:FnOk X.prog X.w X.K X.mg X.base CX k f fd ps sp)(c:Room k X.A)(i:Gl X x)(g:X.mg x=Pj (.ref f))(hk:M8 X.K (.ref f)=Pm)(j:Binds X.K fd ps ds)(hd:Vals dvs ds)(d:eV CX X E)
  (ha:PA X (e::es) t) (hdb:(x==("__debug__":Str))=Po:=by decide) (he:Py (e::es) X.env=(Po,eval e X.env)::Py es X.env:=by rfl) (hpl:(backTo pos (Py es X.env)).any (·.1)=Po:=by rfl) :
  PE X (.Call (.Name x p) (e::es) [] pos) (BA sp dvs E t):=by
 intro a s Z H Q I h;show wpAny_Call_Name_kw (gX I i g ?_ hdb);show Om (h₀:=X.base) I.ok.mod.kin hk (a5 (ha pos a s Z H _ I h) λm s1 ⟨n,l,b,r,q⟩=>⟨b.kIn,?_⟩) he hpl;show qA F c j hd d b r q
theorem wu(F:FnOk X.prog X.w X.K X.mg X.base CX k f fd ps sp)(b:Room k X.A)(e:Gl X x)(c:X.mg x=Pj (.ref f))(hk:M8 X.K (.ref f)=Pm)(g:Binds X.K fd ps ds)(hd:Vals dvs ds)(d:eV CX X E)
  (hdb:(x==("__debug__":Str))=Po:=by decide):PE X (.Call (.Name x p) [] [] pos) (BA sp dvs E zH):=by
 intro a s Z H Q I h;show wpAny_Call_Name_kw (gX I e c ?_ hdb);show OX I.kIn hk (qA (us:=[]) F b g hd d I .nil h)
theorem si(B:PE X o ta)(c:Cls X.K C)(j:om X.K C m f)(F:FnOk X.prog X.w X.K X.mg X.base CX k f fd ps sp)(p:Room k X.A)(D:Binds X.K fd ps ds)(hd:Vals dvs ds)(L:eV CX X E)(N:PA X (e::es) t)(d:Py (e::es) X.env=(Po,eval e X.env)::Py es X.env:=by rfl)(g:(backTo pos (Py es X.env)).any (·.1)=Po:=by rfl)(v:eval (.Call (.Attribute o m apos) (e::es) [] pos) X.env=(do
   let ov <- eval o X.env
   standAt apos.atName
   let (f,first) <- holding [ov] (getMethod ov m pl)
   callWith pos f first (backTo pos (Py (e::es) X.env)) (backToKw pos (keywordEach [] X.env))):=by rfl) :
  PE X (.Call (.Attribute o m apos) (e::es) [] pos) (Gr C m sp dvs E ta t):=by
 intro b s Z H Q I h;show PySem.W.methodCall_KW (pl:=pl) (a5 (B b s Z H _ I h) λu s1 ⟨x,z,i,y,a,R,S,O,M,l,q⟩=>?_) v;subst O;obtain rfl:u=Value.ref a:=y;show qu i M c j l ?_
 show Om (first:=[.ref a]) (h₀:=X.base) I.ok.mod.kin j.kp (a5 (N pos b s1 Z z _ i q) λus s2 ⟨vs,T,n,r,P⟩=>⟨n.kIn,?_⟩) d g
 show qA (us:=.ref a::us) (vs:=.ref a::vs) F p D hd L n (.cons rfl r) P
structure Mk(K:Md)(C f:Addr):Prop where
 makes:Pf K C=Pm
 init:Nb K (.ref C) "__init__" = Pj (Pj (.ref f))
 fn:OY K (.ref f)=Pm
 kp:M8 K (.ref C)=Pm
theorem ou{H:Hp}{Q:VK}{vs:List V}(M:Mk X.K C f)(F:FnOk X.prog X.w X.K X.mg X.base CX k f fd ps sp)(g:Room (k+1) X.A)(m:Binds X.K fd ps ds)(hd:Vals dvs ds)(j:eV CX X E)(I:Inv X pins Z H s)(r:Vals vs us)(h:∀x dx,H x=Pl->H dx=Pl->dx≠x->sp (.ref x::(vs++dvs)) (upd (upd H dx (.own x)) x (.ins C dx [])) (λv H2=>v=.non/\Q (.ref x) H2) E) :
  Pv (Pw X.prog X.w) X.A (call (.ref C) us) (EP X pins Z Q) X.xe s:=by
 let c:=h (s.heap.objs.size+1) s.heap.objs.size (I.hok.fresh (Np _)) (I.hok.fresh (Mi _)) (Mr (Nw _));let b:=Inv.made (C:=C) I;let d:Vals (V.ref (s.heap.objs.size+1)::(vs++dvs)) (Value.ref (s.heap.objs.size+1)::(us++ds)):=.cons rfl (r.append hd)
 let i:(Value.ref (s.heap.objs.size+1)::us++ds).length=ps.length:=by
  let e:=d.length;rw[F.len _ _ _ _ c] at e;show e.symm
 show wpAny_call (wq (f:=f) I.kIn M.makes M.init (beq_iff_eq.mp M.fn) (codeAny_mono (F.run _ X.stack _ _ ⟨Value.ref (s.heap.objs.size+1)::us,[]⟩ (Value.ref (s.heap.objs.size+1)::(us++ds)) _ _ E (g.make C us [])
  (b.env0.make C us []) (m _ (Value.ref (s.heap.objs.size+1)::us) b.kIn i) d c) λr p a=>?_))
 cases r with
 |error e=>show j pins Z _ _ e p b a
 |ok l=>
  cases l with
  |ret u=>
   obtain⟨v,n,y,o,q,t⟩:=b.after a;subst q;show⟨o,⟨V.ref (s.heap.objs.size+1),n,y,rfl,t⟩⟩
  |next=>show False.elim a
  |brk=>show False.elim a
  |cont=>show False.elim a
theorem zI(M:Mk X.K C f)(F:FnOk X.prog X.w X.K X.mg X.base CX k f fd ps sp)(c:Room (k+1) X.A)(g:Gl X x)(i:X.mg x=Pj (.ref C))(j:Binds X.K fd ps ds)(hd:Vals dvs ds)(d:eV CX X E)
  (ha:PA X (e::es) t) (hdb:(x==("__debug__":Str))=Po:=by decide) (he:Py (e::es) X.env=(Po,eval e X.env)::Py es X.env:=by rfl) (hpl:(backTo pos (Py es X.env)).any (·.1)=Po:=by rfl) :
  PE X (.Call (.Name x p) (e::es) [] pos) (BB C sp dvs E t):=by
 intro a s Z H Q I h;show wpAny_Call_Name_kw (gX I g i ?_ hdb);show Om (h₀:=X.base) I.ok.mod.kin M.kp (a5 (ha pos a s Z H _ I h) λm s1 ⟨n,l,b,r,q⟩=>⟨b.kIn,?_⟩) he hpl;show ou M F c j hd d b r q
theorem ww(M:Mk X.K C f)(F:FnOk X.prog X.w X.K X.mg X.base CX k f fd ps sp)(b:Room (k+1) X.A)(d:Gl X x)(e:X.mg x=Pj (.ref C))(g:Binds X.K fd ps ds)(hd:Vals dvs ds)(c:eV CX X E)
  (hdb:(x==("__debug__":Str))=Po:=by decide):PE X (.Call (.Name x p) [] [] pos) (BB C sp dvs E zH):=by
 intro a s Z H Q I h;show wpAny_Call_Name_kw (gX I d e ?_ hdb);show OX I.kIn M.kp (ou (us:=[]) M F b g hd c I .nil h)
end
section
variable {X:Cx} {CX:uN} {k:Nat} {f C:Ps} {fd:PL} {ps ks:List Str} {sp:Sp} {E:XK} {x m:Str} {p pos apos kpos:Pos} {e o:Pp} {es:List Pp} {kws:List Keyword} {te ta:TE} {t tk:TA} {nm:Option Str}
structure JN(K:Md)(fd:FuncData)(ps ks:List Str)(g:List Value->List Value->List Value)(gV:List V->List V->List V):Prop where
 to:∀(s:Pt) (us ws:List Pn),K.In s.heap->(g us ws).length=ps.length->BindsTo s fd ⟨us,ks.zip ws⟩ (ps.zip (g us ws))
 rel:∀{vs:List V} {us:List Pn} {zs:List V} {ws:List Pn},Vals vs us->Vals zs ws->Vals (gV vs zs) (g us ws)
variable {g:List Pn->List Pn->List Pn} {gV:List V->List V->List V}
end
structure a7(N P:List Str)(sc:Scope):Prop where
 kind:sc.kind=.function
 co:sc.isCoroutine=Po
 gen:sc.isGenerator=Po
 nd:N.Nodup
 pre:N.take P.length=P
 par:∀x∈P,sc.names.lookup x=Pj .local\/sc.names.lookup x=Pj .cell
 nofree:∀y∈sc.names,y.2≠.free
theorem lM{b:Str->Option PQ}{x:Str}:∀{a:List (Str×Pn)} {m:Str->Option Pn},(∀v,(x,v)∉a)->bindL b a m x=m x
 |[],_,_=>rfl
 |(n,v)::r,m,h=>by
  unfold bindL;rw[lM λw c=>h w (Mt _ c)];split
  ·have:x≠n:=by rintro rfl;show h v MD
   simp[this]
  ·rfl
theorem lN{b:Str->Option PQ}{x:Str}:∀{a:List (Str×Pn)} {m:Str->Option Pn},(∀v,(x,v)∉a)->bindC b a m x=m x
 |[],_,_=>rfl
 |(n,v)::r,m,h=>by
  unfold bindC;rw[lN λw c=>h w (Mt _ c)];split
  ·rfl
  ·have:x≠n:=by rintro rfl;show h v MD
   simp[this]
theorem lO{a:Str->Option PQ}{x:Str}{v:Pn}:∀{P:List Str} {vs:List Pn} {i:Nat} {m:Str->Option Pn},P.Nodup->P[i]?=Pj x->vs[i]?=Pj v->a x=Pj .local->
  bindL a (P.zip vs) m x=Pj v
 |[],_,_,_,_,h,_,_=>by simp at h
 |_::_,[],_,_,_,_,h,_=>by simp at h
 |p::P,w::vs,0,m,nd,h1,h2,hk=>by
  simp at h1 h2;subst h1;subst h2;change bindL a ((p,w)::P.zip vs) m p=_;unfold bindL;rw[lM λv b=>(Mw.mp nd).1 (OH b).1,if_pos hk];simp
 |p::P,w::vs,i+1,m,nd,h1,h2,hk=>by
  change bindL a ((p,w)::P.zip vs) m x=_;unfold bindL;show lO (i:=i) (Mw.mp nd).2 (by simpa using h1) (by simpa using h2) hk
theorem lP{a:Str->Option PQ}{x:Str}{v:Pn}:∀{P:List Str} {vs:List Pn} {i:Nat} {m:Str->Option Pn},P.Nodup->P[i]?=Pj x->vs[i]?=Pj v->a x≠Pj .local->
  bindC a (P.zip vs) m x=Pj v
 |[],_,_,_,_,h,_,_=>by simp at h
 |_::_,[],_,_,_,_,h,_=>by simp at h
 |p::P,w::vs,0,m,nd,h1,h2,hk=>by
  simp at h1 h2;subst h1;subst h2;change bindC a ((p,w)::P.zip vs) m p=_;unfold bindC;rw[lN λv b=>(Mw.mp nd).1 (OH b).1,if_neg hk];simp
 |p::P,w::vs,i+1,m,nd,h1,h2,hk=>by
  change bindC a ((p,w)::P.zip vs) m x=_;unfold bindC;show lP (i:=i) (Mw.mp nd).2 (by simpa using h1) (by simpa using h2) hk
noncomputable def bO(N:List Str)(vs:List V):St:=vs.map Pj++MC (N.length-vs.length) Pl
noncomputable def ly(CX:uN)(P:Px)(w:PB)(K:Md)(mg:Str->Option Pn)(base:PD)(N:List Str)(qual:Str)(scope:PH)(f:Ps)(B:Pn)(A:PC)(outer:List Env)(s:Pt)(H:Hp)(E:XK):Cx where
 prog:=P
 w:=w
 K:=K
 mg:=mg
 base:=base
 A:=A.deeper (envOfC qual scope s.heap.objs.size f B)
 N:=N
 s₀:=s
 H₀:=H
 env:=envOfC qual scope s.heap.objs.size f B
 outer:=outer
 stack:=envOfC qual scope s.heap.objs.size f B::outer
 ex:=[]
 calm:=Pm
 fn:=λ_=>Pm
 pn:=[]
 xe:=λe s'=>Pv (Pw P w) (A.deeper (envOfC qual scope s.heap.objs.size f B)) (leaving (envOfC qual scope s.heap.objs.size f B) e) (λ_ q=>CX outer H s E e q) (λO q=>CX outer H s E O q) s'
theorem ow{a:PH}{x:Str}(h:a.names.lookup x=Pj .cell):∃c,(PK n a.names []).lookup x=Pj c:=by
 let q:=OK a.names n [] (.inl h);show Option.isSome_iff_exists.mp q
theorem uO{CX:uN}{P:Px}{w:PB}{K:Md}{mg:Str->Option Pn}{base:PD}{N ps:List Str}{qual:Str}{scope:PH}{f:Ps}{B:Pn}{A:PC}{d:List Env}{s s1:Pt}{H:Hp}{E:XK}{us:List Pn}{vs:List V}
  (S:a7 N ps scope) (hd:A.handled=Pl) (e0:Env0 P w K mg base A d s H) (hl:vs.length=ps.length) (r:Vals vs us)
  (x:InCallC s s.heap.objs.size (bindL (envOfC qual scope s.heap.objs.size f B).kindOf (ps.zip us) λ_=>Pl) (PK (s.heap.objs.size+1) scope.names []) (bindC (envOfC qual scope s.heap.objs.size f B).kindOf (ps.zip us) λ_=>Pl) s1) :
  Inv (ly CX P w K mg base N qual scope f B A d s H E) [] (bO N vs) H s1:=by
 let F:ps.length<=N.length:=by have:=congrArg NJ S.pre;rw[MJ] at this;lia
 obtain⟨C,M,rfl,hk⟩:=x.done;let j:∀b:Ps,b∉(ly CX P w K mg base N qual scope f B A d s H E).ex:=λb z=>absurd (show b∈([]:List Ps) from z) (by simp)
 show⟨⟨e0.mod,S.kind,rfl,rfl,Mi _,λy z c C g=>?_,λy l=>?_,λy c _ h=>?_,λ_=>hd,Around.frames_deeper e0.frames,.inr ⟨rfl,rfl⟩,λb z=>absurd z (j b),e0.bs,e0.bsz,λb _ _=>j b,λb z=>absurd z (j b),e0.funs,e0.frf⟩,
  rfl,e0.bare,Un.kept hk,⟨_,x.toInCall.ns,λi y v C g O=>?_⟩,λy c h=>⟨_,x.cell y c h⟩,e0.hok.fresh (Mi _),λy c h=>?_,λp m=>absurd (show p∈([]:List (Ps×Obj)) from m) (by simp),e0.hok.kept hk,?_⟩
 ·show name_of_addr x.apart (PySem.mem_of_lookup C) (PySem.mem_of_lookup g)
 ·let l:scope.names.lookup y=Pj .cell\/scope.names.lookup y=Pj .free:=l;rcases l with l|l
  ·show ow l
  ·show absurd rfl (S.nofree _ (PySem.mem_of_lookup l))
 ·show NX (x.above y c (PySem.mem_of_lookup h))
 ·let t:i<vs.length:=by
   unfold bO at g;by_cases t:i<vs.length
   ·show t
   ·rw[MM (by simpa using t)] at g;rw[OE] at g
    split at g<;>cases g
  let I:vs[i]?=Pj v:=by
   unfold bO at g;rw[My (by simpa using t),Mj] at g
   cases e:vs[i]? with
   |none=>rw[e] at g;cases g
   |some a=>rw[e] at g;cases g;rfl
  obtain⟨u,D,L⟩:=r.get I
  let m:ps[i]?=Pj y:=by
   rw[<- S.pre,List.getElem?_take_of_lt (by lia)];show C
  let o:ps.Nodup:=by rw[<- S.pre];show S.nd.sublist (List.take_sublist _ _)
  show⟨u,L,?_⟩;rcases S.par y (Mu m) with k|k
  ·show .inl ⟨k,lO o m D k⟩
  ·obtain⟨c,e⟩:=ow (n:=s.heap.objs.size+1) k;show .inr ⟨.inl k,c,e,?_⟩;let q:=x.cell y c e;rw[lP o m D (by change scope.names.lookup y≠_;rw[k];decide)] at q;show q
 ·show e0.hok.fresh (NX (x.above y c (PySem.mem_of_lookup h)))
 ·unfold bO;change _=N.length;rw[MF,Mh,ON]
  lia
theorem Gs{CX:uN}{P:Px}{w:PB}{K:Md}{mg:Str->Option Pn}{base:PD}{k:Nat}{f:Ps}{name qual:Str}{d:Arguments}{body:List Pz}{scope:PH}{O kV l M c R oc:Pn}{an od:Option Ps}
  {osl:Array (Option Pn)} {N ps:List Str} {sp:Sp} (lk:K.lookup f=Pj ⟨oc,od,.func (Ni name qual d body scope O kV l M an c R),osl⟩) (hcd:NZ K c qual=Pm) (S:a7 N ps scope)
  (len:∀g H Q E,sp g H Q E->g.length=ps.length)
  (hbody:∀(A:PC) (a:List Env) (s:Pt) (H:Hp) (g:List V) (Q:VK) (E:XK),Room k (A.deeper (envOfC qual scope s.heap.objs.size f c))->sp g H Q E->
   ∃t,PSs (ly CX P w K mg base N qual scope f c A a s H E) body t/\t { nx:=λ_ h=>Q .non h,rt:=Q } (bO N g) H) :
  FnOk P w K mg base CX (k+1) f (Ni name qual d body scope O kV l M an c R) ps sp:=by
 show⟨len,λA a s H L us g Q E C m hb r p=>?_⟩;let Z:=len _ _ _ _ p;let T:K.In s.heap:=m.mod.kin.keeps λb o e=>(m.bs b o e).1;let lim:s.heap.NoLimit:=m.mod.nolimit.keeps λb o e=>(m.bs b o e).1
 let i:∀y∈ps.zip us,scope.names.lookup y.1=Pj .local\/(scope.names.lookup y.1=Pj .cell/\((PK (s.heap.objs.size+1) scope.names []).lookup y.1).isSome=Pm):=λ⟨n,v⟩ hy=>by
  rcases S.par n (OH hy).1 with q|q
  ·show .inl q
  ·show .inr ⟨q,OK _ _ _ (.inl q)⟩
 show codeAny_call_function C.depth (T _ _ lk) rfl S.co S.gen rfl (PySem.W.codeRec_of T hcd) (hb _ _ _ _ ?_);show wpAny_newFunctionEnv_cells S.kind i λU he s1 x=>?_;subst he;show⟨lim.keeps x.toInCall.keep,codeAny_func ?_⟩;obtain⟨t,X,hq⟩:=hbody A a s H g Q E (C.deeper _) p;let I:Inv (ly CX P w K mg base N qual scope f c A a s H E) [] (bO N g) H s1:=uO S C.hd m Z r x;show wpAny_mono (X [] s1 (bO N g) H _ I hq) (λY F j=>?_) λe F j=>j
 let z:∀{B:St} {h:Hp} {v:V} {u:Pn},Inv (ly CX P w K mg base N qual scope f c A a s H E) [] B h F->RelV v u->Q v h->CE a P w H s Q u F:=
  λ{B h v u} J D q=>⟨v,h,J.os,J.bare,J.base,J.hok,D,q⟩
 cases Y with
 |ret u=>
  obtain⟨v,B,h,J,D,q⟩:=j;show z J D q
 |next=>
  obtain⟨B,h,J,q⟩:=j;show z (v:=V.non) (u:=Value.none) J rfl q
 |brk=>
  obtain⟨_,_,_,q⟩:=j;show False.elim q
 |cont=>
  obtain⟨_,_,_,q⟩:=j;show False.elim q
section
variable {X:Cx} {x:Str} {p pos:Pos} {e:Pp} {es:List Pp} {t:TA} {id T:String} {r:List V->Hp->VK->Prop}
def Lr(r:List V->Hp->VK->Prop)(t:TA):TE:=λZ H Q=>t Z H λvs H1=>r vs H1 Q
theorem gZ(q:js X (.builtin id) r)(i:Gl X x)(g:X.mg x=Pl)(c:bootBuiltins x=Pj (.builtin id))(k:PA X (e::es) t)(d:x≠"__name__":=by decide)(b:(x==("__debug__":Str))=Po:=by decide)
  (he:Py (e::es) X.env=(Po,eval e X.env)::Py es X.env:=by rfl) (hpl:(backTo pos (Py es X.env)).any (·.1)=Po:=by rfl):PE X (.Call (.Name x p) (e::es) [] pos) (Lr r t):=by
 intro a s Z H Q I h;show wpAny_Call_Name_kw (cI I i g c ?_ d b);show PyProof.Rows.callWith_builtin1 (a5 (k pos a s Z H _ I h) λl s1 ⟨o,f,n,m,j⟩=>q a s1 Z f o l Q n m j) he hpl
theorem fJ(q:js X (.type T) r)(i:Gl X x)(g:X.mg x=Pl)(c:bootBuiltins x=Pj (.type T))(k:PA X (e::es) t)(d:x≠"__name__":=by decide)(b:(x==("__debug__":Str))=Po:=by decide)
  (he:Py (e::es) X.env=(Po,eval e X.env)::Py es X.env:=by rfl) (hpl:(backTo pos (Py es X.env)).any (·.1)=Po:=by rfl):PE X (.Call (.Name x p) (e::es) [] pos) (Lr r t):=by
 intro a s Z H Q I h;show wpAny_Call_Name_kw (cI I i g c ?_ d b);show PyProof.Rows.callWith_type1 (a5 (k pos a s Z H _ I h) λl s1 ⟨o,f,n,m,j⟩=>q a s1 Z f o l Q n m j) he hpl
end
end L2
namespace HT
open PyProof.Rows
section
variable {prog:Px} {w:PB} {A:PC} {E:Pn->Pt->Prop} {s:Pt}
noncomputable def bZ(n d:Nat):Option Int->Nat
 |none=>d
 |some v=>if v<0 then(v+(n:Int)).toNat else min v.toNat n
theorem ox(n d:Nat):bZ n d Pl=d:=rfl
theorem sj(n d k:Nat):bZ n d (Pj (k:Int))=min k n:=by
 change(if(k:Int)<0 then((k:Int)+(n:Int)).toNat else min (k:Int).toNat n)=min k n
 rw[if_neg (by lia),Nd]
theorem Df(n d:Nat)(hd:d<=n)(o:Option Int):bZ n d o<=n:=by
 cases o with
 |none=>show hd
 |some v=>
  change(if v<0 then(v+(n:Int)).toNat else min v.toNat n)<=n
  by_cases a:v<0
  ·rw[if_pos a];lia
  ·rw[if_neg a];show Nat.min_le_right _ _
theorem sn(v:Int)(n d:Nat):(if v<0 then max (v+(n:Int)) 0 else min v (n:Int))=((bZ n d (Pj v):Nat):Int):=by
 change(if v<0 then max (v+(n:Int)) 0 else min v (n:Int))=(((if v<0 then(v+(n:Int)).toNat else min v.toNat n):Nat):Int)
 by_cases a:v<0
 ·simp only[if_pos a];lia
 ·simp only[if_neg a];lia
theorem qB(lo hi:Option Int)(n:Nat):Builtin.Slice.sliceAdjust lo hi 1 (n:Int)=(((bZ n 0 lo:Nat):Int),((bZ n n hi:Nat):Int)):=by
 let a:¬((1:Int)<0):=by lia
 unfold Builtin.Slice.sliceAdjust;simp only[a,if_false];show Prod.ext ?_ ?_
 ·cases lo with
  |none=>rfl
  |some v=>show sn v n 0
 ·cases hi with
  |none=>rfl
  |some v=>show sn v n n
theorem qC(i j:Nat):Builtin.Slice.slicePlaces (i:Int) (j:Int) 1=j-i:=by
 unfold Builtin.Slice.slicePlaces;let a:(1:Int) > 0:=by lia
 simp only[a,if_true,Int.ediv_one]
 split<;>lia
theorem kg{Q:Option Int->Pt->Prop}(p:IsPart v o)(h:Q o s):Pv (Pw prog w) A (Builtin.Slice.slicePartIndex v) Q E s:=by
 cases p with
 |none=>show slicePart_none h
 |int i t=>show slicePart_int h
theorem dZ{lo hi:Option Int}{Q:Int×Int×Nat->Pt->Prop}(c:s.heap.IsSliceOf sl vl vu .none)(pl:IsPart vl lo)(d:IsPart vu hi)(h:Q (((bZ n 0 lo:Nat):Int),1,bZ n n hi-bZ n 0 lo) s):Pv (Pw prog w) A (Builtin.Slice.sliceApplied (.ref sl) (pure (n:Int))) Q E s:=by
 obtain⟨f,a,e,b⟩:=id c;unfold Builtin.Slice.sliceApplied Builtin.Slice.sliceFields;show Pq (Pq (wpAny_field a b (x:=vl) rfl (Pq (wpAny_field a b (x:=vu) rfl (Pq (wpAny_field a b (x:=.none) rfl (Pu ?_)))))));show Pq (slicePart_none ?_)
 change Pv _ _ (if((1:Int)==0)=Pm then _ else _) _ _ s
 rw[if_neg (by decide)];show Pq (kg pl (Pq (kg d (Pq (Pu ?_)))))
 change Pv _ _ (match Builtin.Slice.sliceAdjust lo hi 1 (n:Int) with|(lo,hi)=>pure (lo,(1:Int),Builtin.Slice.slicePlaces lo hi 1)) _ _ s
 rw[qB lo hi n];change Pv _ _ (pure (((bZ n 0 lo:Nat):Int),(1:Int),Builtin.Slice.slicePlaces ((bZ n 0 lo:Nat):Int) ((bZ n n hi:Nat):Int) 1)) _ _ s;rw[qC];show Pu h
theorem wx(xs:Array Pn)(i k:Nat):((MH k).filterMap λ(m:Nat)=>xs[((i:Int)+(m:Int)*1).toNat]?).toArray=((xs.toList.drop i).take k).toArray:=by
 let e:(λ(m:Nat)=>xs[((i:Int)+(m:Int)*1).toNat]?)=λm=>xs[i+m]?:=by
  funext m;have:((i:Int)+(m:Int)*1).toNat=i+m:=by lia
  rw[this]
 rw[e];have:=pick_run xs i k;rw[List.filterMap_map] at this;let e2:((λx=>xs[x]?)∘λx=>i+x)=λm=>xs[i+m]?:=rfl;rw[e2] at this;rw[this]
theorem g6{a:Array Pn}{lo hi:Option Int}{Q:Pn->Pt->Prop}(c:IsTup s.heap t a)(i:s.heap.IsSliceOf sl vl vu .none)(pl:IsPart vl lo)(l:IsPart vu hi)(k:¬(bZ a.size 0 lo=0/\bZ a.size a.size hi=a.size))(h:Q (.ref s.heap.objs.size) { s with heap:=s.heap.push { cls:=.type "tuple",data:=.seq ((a.toList.drop (bZ a.size 0 lo)).take (bZ a.size a.size hi-bZ a.size 0 lo)).toArray } })(hsz:a.size<=sizeLine):Pv (Pw prog w) A (getItem (.ref t) (.ref sl)) Q E s:=by
 let b:sizeOk (.seq ((a.toList.drop (bZ a.size 0 lo)).take (bZ a.size a.size hi-bZ a.size 0 lo)).toArray):=by
  change((a.toList.drop (bZ a.size 0 lo)).take (bZ a.size a.size hi-bZ a.size 0 lo)).toArray.size<=sizeLine;rw[Mm,MJ,Oy,Nt]
  lia
 let o:bZ a.size a.size hi<=a.size:=Df _ _ (Mi _) hi;obtain⟨j,d,e,n⟩:=id i;let f:s.TypeIs (.ref sl) "slice":=⟨j,d,e⟩;unfold getItem
 try with_reducible show PP ?_
 first|show Pq (Pu ?_)|skip
 show Pq (wpAny_sequenceKey c.typeIs (by decide) ?_)
 show Pq (wpAny_callSpecial?_slot (name:=Str.ofString "__getitem__") c.typeIs PyProof.Rows.slot_tuple_getitem
  (PX PyProof.Rows.slot_tuple_getitem c.typeIs entry_tuple_getitem ?_ (args_tuple_getitem _ _)))
 change Pv _ _ (Builtin.Tuple.tupleItemsOf (.ref t) >>= _) _ _ s;show Pq (tupleItemsOf_ c ?_);show Pq (wpAny_typeOf f ?_);rw[if_pos (by decide)];show Pq (dZ i pl l ?_)
 let g:¬((((bZ a.size 0 lo:Nat):Int)==0&&(1:Int)==1&&(bZ a.size a.size hi-bZ a.size 0 lo)==a.size)=Pm):=by
  intro q;rw[Me,Me] at q;let p:((bZ a.size 0 lo:Nat):Int)=0:=eq_of_beq q.1.1;let r:bZ a.size a.size hi-bZ a.size 0 lo=a.size:=eq_of_beq q.2;show k ⟨by lia,by lia⟩
 change Pv _ _ (if(((bZ a.size 0 lo:Nat):Int)==0&&(1:Int)==1&&(bZ a.size a.size hi-bZ a.size 0 lo)==a.size)=Pm then _ else _) _ _ s
 rw[if_neg g,wx]
 first
  |show Pq (m:=Builtin.Tuple.tupleExact _) (PN (Pu ⟨_,rfl,Pu h⟩) b)
  |show Pq (m:=Builtin.Tuple.tupleExact _) (PN (Pq (Pu (Pu ⟨_,rfl,Pu h⟩))) b)
  |show Pq (Pq (m:=Builtin.Tuple.tupleExact _) (PN (Pu (Pu ⟨_,rfl,Pu h⟩)) b))
  |show Pq (Pq (m:=Builtin.Tuple.tupleExact _) (PN (Pu ⟨_,rfl,Pu h⟩) b))
end
end HT
namespace L2
open PyProof.Rows
abbrev TO:=St->Hp->(Option Int->Hp->Prop)->Prop
def PO(X:Cx)(e:Option Pp)(t:TO):Prop:=
 ∀(pins:List (Ps×Obj)) (s:Pt) (Z:St) (H:Hp) (Q:Option Int->Hp->Prop),Inv X pins Z H s->t Z H Q->
  Pv (Pw X.prog X.w) X.A (evalPart e X.env) (λu s'=>∃o H',Inv X pins Z H' s'/\IsPart u o/\Q o H') X.xe s
def zJ:TO:=λ_ H Q=>Q Pl H
def Gu(t:TE):TO:=λZ H Q=>t Z H λx H1=>∃i,x=.int i/\Q (Pj i) H1
section
variable {X:Cx} {e:Pp} {te:TE} {lo hi:Option Pp} {tl th:TO} {pos p2:Pos}
theorem zK:PO X Pl zJ:=by
 intro a s Z H Q I h;rw[evalPart_none];show Pu ⟨Pl,H,I,.none,h⟩
theorem zL(h:PE X e te):PO X (Pj e) (Gu te):=by
 intro a s Z H Q I b;rw[evalPart_some];show a5 (h a s Z H _ I b) λu s1 ⟨x,c,g,f,d⟩=>?_;obtain⟨i,rfl,q⟩:=d;obtain⟨t,rfl⟩:=f;show⟨Pj i,c,g,.int i t,q⟩
def SlR(X:Cx)(r:V->Option Int->Option Int->Hp->VK->Prop):Prop:=
 ∀(pins:List (Ps×Obj)) (s:Pt) (Z:St) (H:Hp) (x:V) (v q B:Pn) (lo hi:Option Int) (O:Ps) (Q:VK),Inv X pins Z H s->RelV x v->s.heap.IsSliceOf O q B .none->IsPart q lo->IsPart B hi->r x lo hi H Q->
  ∃T id,typeLookup (.type T) "__getitem__" = pure (Pj (.builtin id))/\s.TypeIs v T/\Pv (Pw X.prog X.w) X.A (getItem v (.ref O)) (EP X pins Z Q) X.xe s
theorem SlR.or{r r':V->Option Int->Option Int->Hp->VK->Prop}(h:SlR X r)(h':SlR X r'):SlR X (λx lo hi H Q=>r x lo hi H Q\/r' x lo hi H Q):=by
 intro a s Z H x v g i lo hi f Q I e b d c q;rcases q with q|q
 ·show h a s Z H x v g i lo hi f Q I e b d c q
 ·show h' a s Z H x v g i lo hi f Q I e b d c q
def LW(r:V->Option Int->Option Int->Hp->VK->Prop)(te:TE)(tl th:TO):TE:=λZ H Q=>te Z H λx H1=>tl Z H1 λl H2=>th Z H2 λu q=>r x l u q Q
theorem kh(i:SlR X r)(o:PE X e te)(m:PO X lo tl)(B:PO X hi th):PE X (.Subscript e (.Slice lo hi Pl p2) pos) (LW r te tl th):=by
 intro a s Z H Q I h;show Subscript_ (a5 (o a s Z H _ I h) λv s1 ⟨x,n,t,L,F⟩=>?_);show wpAny_Slice (a5 (m a s1 Z n _ t F) λd s2 ⟨l,M,N,D,K⟩=>a5 (B a s2 Z M _ N K) λf c ⟨u,g,z,C,y⟩=>?_);rw[evalPart_none];show Pu ?_;let p:Inv X a Z g { c with heap:=c.heap.push { cls:=.type "slice",data:=.fields #[d,f,.none] } }:=z.kept (t':=c.toks) λb P q=>Mf _ q;obtain⟨T,O,j,k,E⟩:=i a { c with heap:=c.heap.push { cls:=.type "slice",data:=.fields #[d,f,.none] } } Z g x v d f l u c.heap.objs.size Q p L (Heap.IsSliceOf.new ..) D C y;change Pv (Pw X.prog X.w) X.A (subscriptTail e (.Slice lo hi Pl p2) v (.ref c.heap.objs.size)) (EP X a Z Q) X.xe { c with heap:=c.heap.push { cls:=.type "slice",data:=.fields #[d,f,.none] } };show tail_any (ops:=[.ref c.heap.objs.size,v]) k j E (by with_unfolding_all rfl)
def oy(xs:List V)(lo hi:Option Int):List V:=(xs.drop (HT.bZ xs.length 0 lo)).take (HT.bZ xs.length xs.length hi-HT.bZ xs.length 0 lo)
theorem jw(xs:List V)(lo hi:Option Int):(oy xs lo hi).length<=xs.length:=by
 unfold oy;rw[MJ,Oy]
 lia
def JO(K:Md):V->Option Int->Option Int->Hp->VK->Prop:=λx lo hi H Q=>∃a xs,x=.ref a/\SqT K H a xs/\
 ¬(HT.bZ xs.length 0 lo=0/\HT.bZ xs.length xs.length hi=xs.length)/\∀p,H p=Pl->Q (.ref p) (upd H p (.tup (oy xs lo hi)))
theorem sl_tup:SlR X (JO X.K):=by
 intro i s Z H x v y z lo e w Q I p l n m h;obtain⟨a,d,rfl,t,k,q⟩:=h;cases p;obtain⟨f,r,j,g⟩:=I.tuple t;let c:f.toArray.size=d.length:=by rw[Mm];show r.length.symm
 show⟨"tuple",_,PyProof.Rows.slot_tuple_getitem.lookup,j.typeIs,?_⟩;show HT.g6 j l n m (by rw[c];show k) ?_ (by rw[c];show g);rw[c];show⟨.ref s.heap.objs.size,_,I.laid (t':=s.toks) (o:=.tup (oy d lo e)) (λb u q=>Mf _ q) (Mi _) ?_,rfl,q _ (I.hok.fresh (Mi _))⟩;show⟨MP (jw d lo e) g,_,(r.drop (HT.bZ d.length 0 lo)).take (HT.bZ d.length d.length e-HT.bZ d.length 0 lo),IsTup.new _ _⟩
end
noncomputable def jx(n:Nat)(i:Int):Option Nat:=if 0<=i then(if i<n then Pj i.toNat else Pl) else if -(n:Int)<=i then Pj (i+n).toNat else Pl
def qe{α:Type}(xs:List α)(i:Int):Option α:=(jx xs.length i).bind λj=>xs[j]?
theorem mP{n:Nat}{i:Int}{j:Nat}(h:jx n i=Pj j):seqIndex? i n=Pj j/\j<n/\-(n:Int)<=i/\i<n:=by
 unfold jx at h;by_cases b:0<=i
 ·rw[if_pos b] at h;by_cases a:i<n
  ·rw[if_pos a] at h;let e:i.toNat=j:=Option.some.inj h;show⟨by rw[seqIndex_of b a,e],by lia,by lia,a⟩
  ·rw[if_neg a] at h;cases h
 ·rw[if_neg b] at h;by_cases a:-(n:Int)<=i
  ·rw[if_pos a] at h;let e:(i+n).toNat=j:=Option.some.inj h;show⟨by rw[seqIndex_neg (by lia) a,e],by lia,a,by lia⟩
  ·rw[if_neg a] at h;cases h
theorem mQ{α:Type}{xs:List α}{i:Int}{v:α}(h:qe xs i=Pj v):∃j,seqIndex? i xs.length=Pj j/\xs[j]?=Pj v/\j<xs.length/\-(xs.length:Int)<=i/\i<xs.length:=by
 unfold qe at h
 cases e:jx xs.length i with
 |none=>rw[e] at h;cases h
 |some j=>
  rw[e] at h;obtain⟨d,c,b,a⟩:=mP e;show⟨j,d,h,c,b,a⟩
def sr(b:Pp):Prop:=∀o i,subscripted b Po o i=operate [o,i] (getItem o i)
def IxR(X:Cx)(r:R2):Prop:=
 ∀(value q:Pp) (pins:List (Ps×Obj)) (s:Pt) (Z:St) (H:Hp) (x y:V) (v u:Pn) (Q:VK),Inv X pins Z H s->RelV x v->RelV y u->r x y H Q->
  subscripted q Po v u=operate [v,u] (getItem v u)->Pv (Pw X.prog X.w) X.A (subscriptTail value q v u) (EP X pins Z Q) X.xe s
def FB(X:Cx)(id:String)(r:V->List V->Hp->VK->Prop):Prop:=
 ∀(pins:List (Ps×Obj)) (s:Pt) (Z:St) (H:Hp) (x:V) (xs:List V) (v:Pn) (us:List Pn) (Q:VK),Inv X pins Z H s->RelV x v->Vals xs us->r x xs H Q->
  Pv (Pw X.prog X.w) X.A (call (.builtin id) (v::us)) (EP X pins Z Q) X.xe s
section
variable {X:Cx} {a b:Pp} {ta tb:TE} {pos:Pos}
theorem IxR.or{r r':R2}(h:IxR X r)(h':IxR X r'):IxR X (λx y H Q=>r x y H Q\/r' x y H Q):=by
 intro b a c s Z H x y v u Q I e f q d;rcases q with q|q
 ·show h b a c s Z H x y v u Q I e f q d
 ·show h' b a c s Z H x y v u Q I e f q d
theorem su(d:IxR X r)(j:PE X a ta)(i:PE X b tb)(e:sr b):PE X (.Subscript a b pos) (Ja r ta tb):=by
 intro c s Z H Q I h;show Subscript_ (C4 j i I h λv u s2 x y k l f g q=>d a b c s2 Z k x y v u Q l f g q (e _ _))
def Gv(K:Md):R2:=λx y H Q=>∃p xs i v,x=.ref p/\y=.int i/\SqL K H p xs/\qe xs i=Pj v/\Q v H
def Gw(K:Md):R2:=λx y H Q=>∃p xs i v,x=.ref p/\y=.int i/\SqT K H p xs/\qe xs i=Pj v/\Q v H
def Gx:R2:=λx y H Q=>∃z i c,x=.str z/\y=.int i/\z.length<=sizeLine/\qe z.cps.toList i=Pj c/\Q (.str ⟨#[c]⟩) H
theorem ix_list:IxR X (Gv X.K):=by
 intro k g a s Z H x y v u Q I B L h n;obtain⟨p,S,i,z,rfl,rfl,M,E,q⟩:=h;cases B;obtain⟨t,rfl⟩:=L;obtain⟨l,r,f,R⟩:=I.list M;obtain⟨j,c,C,P,F,A⟩:=mQ E;obtain⟨w,o,d⟩:=r.get C;let D:=r.length;let O:=iQ;let b:EP X a Z Q w s:=⟨z,H,I,d,q⟩;by_cases m:0<=i
 ·let e:i.toNat=j:=by
   rw[seqIndex_of m A] at c;show Option.some.inj c
  show item_listR f.isList m (by lia) (by rw[e];simpa using o) b n
 ·let e:(i+(l.toArray.size:Int)).toNat=j:=by
   rw[seqIndex_neg (by lia) F] at c;rw[Mm,<- D];show Option.some.inj c
  show subscriptTail_builtinR (x:=w) f.isList.typeIs slot_list_getitem.lookup
   (wpAny_getItem_list_neg (Q:=λr N=>r=w/\EP X a Z Q r N) f.isList (by lia) (by rw[Mm]<;>lia) (by lia) (by rw[e];simpa using o) ⟨rfl,b⟩) n
theorem ix_tup:IxR X (Gw X.K):=by
 intro e c a s Z H x y v u Q I g o h n;obtain⟨p,P,i,z,rfl,rfl,A,m,q⟩:=h;cases g;obtain⟨t,rfl⟩:=o;obtain⟨B,r,f,O⟩:=I.tuple A;obtain⟨j,E,k,N,M,F⟩:=mQ m;obtain⟨w,C,b⟩:=r.get k;let l:=r.length;let L:=iQ;let d:EP X a Z Q w s:=⟨z,H,I,b,q⟩;show subscriptTail_builtinR (x:=w) f.typeIs slot_tuple_getitem.lookup
  (getItem_tuple (j:=j) (Q:=λr D=>r=w/\EP X a Z Q r D) f (by lia) (by lia) (by rw[Mm,<- l];show E) (by simpa using C) ⟨rfl,d⟩) n
theorem Dg:IxR X Gx:=by
 intro b a d s Z H x y v u Q I k n h f;obtain⟨z,i,c,rfl,rfl,r,o,q⟩:=h;obtain⟨t,rfl⟩:=k;obtain⟨w,rfl⟩:=n;obtain⟨j,e,l,B,p,g⟩:=mQ o;let m:z.cps.toList.length=z.length:=by simp[Str.length]
 rw[m] at e p g;let A:=iQ
 show tail_any (typeIs_str s z t) slot_str_getitem.lookup (getItem_str (c:=c) (by
  let e1:decide (i < -(2^63:Int))=Po:=decide_eq_false (by lia);let e2:decide (i ≥ 2^63)=Po:=decide_eq_false (by lia);rw[e1,e2,OV]) (by rw[e];simpa using l) ⟨.str ⟨#[c]⟩,H,I.tok _,⟨_,rfl⟩,q⟩) f
def Ls(K:Md):R2:=λx y H Q=>Gv K x y H Q\/Gw K x y H Q\/Gx x y H Q
theorem mR:IxR X (Ls X.K):=ix_list.or (ix_tup.or Dg)
theorem qD(a:List Pn)(n j:Nat)(u:Pn):Obj.mapSeq (·.setIfInBounds j u) { cls:=.type "list",data:=.seq a.toArray n }={ cls:=.type "list",data:=.seq (a.set j u).toArray n }:=by
 simp[Obj.mapSeq]
theorem Inv.lst{pins:List (Ps×Obj)}{Z:St}{H:Hp}{s:Pt}{p:Ps}{xs:List V}(I:Inv X pins Z H s)(h:H p=Pj (.lst xs)) :
  ∃(a:List Pn) (n:Nat),Vals xs a/\s.heap.get? p=Pj { cls:=.type "list",data:=.seq a.toArray n }/\xs.length<=sizeLine:=by
 obtain⟨z,a,n,r,e⟩:=I.hok p _ h;show⟨a,n,r,e,z⟩
theorem Inv.lstUpd{H:Hp}{s:Pt}{xs ys:List V}{a its':List Pn}(I:Inv X pins Z H s)(h:H p=Pj (.lst xs))(d:s.heap.get? p=Pj { cls:=.type "list",data:=.seq a.toArray n })(c:f { cls:=.type "list",data:=.seq a.toArray n }={ cls:=.type "list",data:=.seq its'.toArray n' })(r:Vals ys its')(g:ys.length<=sizeLine)(t:Nat) :
  Inv X pins Z (upd H p (.lst ys)) { s with heap:=s.heap.update p f,toks:=t }:=by
 let e:(s.heap.update p f).get? p=Pj { cls:=.type "list",data:=.seq its'.toArray n' }:=by
  rw[NR f d (by rw[c]<;>rfl),c]
 show I.write (x:=p) (e:=p) (by rw[h];trivial) (.inl rfl) (λb u i q=>(Nz _ _ (Ne.symm i)).trans q) ⟨_,e⟩ ?_;show⟨g,its',n',r,e⟩
def Gy:V->V->V->Hp->(Hp->Prop)->Prop:=λo i v H Q=>∃p xs k j,o=.ref p/\i=.int k/\H p=Pj (.lst xs)/\jx xs.length k=Pj j/\Q (upd H p (.lst (xs.set j v)))
theorem wy:F9 X Gy:=by
 intro b s Z H o i v K E u Q I B y z h;obtain⟨p,C,k,j,rfl,rfl,w,x,q⟩:=h;cases B;obtain⟨t,rfl⟩:=y;obtain⟨a,n,r,e,A⟩:=I.lst w;obtain⟨c,F,m,g⟩:=mP x;let d:=r.length;let D:=iQ
 let l:Inv X b Z (upd H p (.lst (C.set j v))) { s with heap:=s.heap.update p (Obj.mapSeq (·.setIfInBounds j u)) }:=
  I.lstUpd w e (qD a n j u) (r.set z j) (by rw[NM];show A) s.toks
 by_cases f:0<=k
 ·let hk:k.toNat=j:=by
   rw[seqIndex_of f g] at c;show Option.some.inj c
  show PySem.W.ki_setAt e f (by lia) (by rw[Mm,<- d];show g) (by rw[hk];show⟨_,l,q⟩)
 ·let hk:(k+(a.toArray.size:Int)).toNat=j:=by
   rw[seqIndex_neg (by lia) m] at c;rw[Mm,<- d];show Option.some.inj c
  show PySem.W.ki_setBack e (by lia) (by rw[Mm,<- d];show m) (by lia) (by rw[hk];show⟨_,l,q⟩)
theorem mS(lo hi:Option Int)(n:Nat):(sliceBounds lo hi Pl n).1=((HT.bZ n 0 lo:Nat):Int)/\(sliceBounds lo hi Pl n).2.1=((HT.bZ n n hi:Nat):Int)/\(sliceBounds lo hi Pl n).2.2=1:=by
 show⟨?_,?_,rfl⟩
 ·cases lo with
  |none=>simp[sliceBounds,HT.bZ]
  |some i=>
   simp only[sliceBounds,HT.bZ,Oz,show(1:Int) > 0 by decide,if_true];by_cases h:i<0
   ·simp only[h,if_true]<;>lia
   ·simp only[h,if_false]<;>lia
 ·cases hi with
  |none=>simp[sliceBounds,HT.bZ]
  |some i=>
   simp only[sliceBounds,HT.bZ,Oz,show(1:Int) > 0 by decide,if_true];by_cases h:i<0
   ·simp only[h,if_true]<;>lia
   ·simp only[h,if_false]<;>lia
theorem lz(a:List Pn)(lo hi:Option Int):slicePick a.toArray lo hi Pl=((a.drop (HT.bZ a.length 0 lo)).take (HT.bZ a.length a.length hi-HT.bZ a.length 0 lo)).toArray:=by
 obtain⟨c,b,d⟩:=mS lo hi a.toArray.size;unfold slicePick;rw[c,b,d]
 simp only[sliceRange_one,pick_run,Mm]<;>rfl
def JP(K:Md):V->Option Int->Option Int->Hp->VK->Prop:=λx lo hi H Q=>∃a xs,x=.ref a/\SqL K H a xs/\∀p,H p=Pl->Q (.ref p) (upd H p (.lst (oy xs lo hi)))
theorem sw:SlR X (JP X.K):=by
 intro f s Z H x v w y lo e u Q I m j l k h;obtain⟨a,c,rfl,n,q⟩:=h;cases m;obtain⟨p,r,g,i⟩:=I.list n;let d:=r.length;show⟨"list",_,slot_list_getitem.lookup,g.isList.typeIs,?_⟩
 show wpAny_getItem_list_slice g.isList j l k .none (by simp) ?_ (by rw[Mm]<;>lia)
 rw[lz,<- d];show⟨.ref s.heap.objs.size,_,I.laid (t':=s.toks) (o:=.lst (oy c lo e)) (λb t q=>Mf _ q) (Mi _) ?_,rfl,q _ (I.hok.fresh (Mi _))⟩;show⟨MP (jw c lo e) i,_,0,(r.drop (HT.bZ c.length 0 lo)).take (HT.bZ c.length c.length e-HT.bZ c.length 0 lo),Mp _ rfl⟩
theorem mT:js X (.builtin "len") (λxs H Q=>∃p ys,xs=[.ref p]/\(SqL X.K H p ys\/SqT X.K H p ys)/\Q (.int ys.length) H):=by
 intro f s Z H xs k Q I r h;obtain⟨p,ys,rfl,b,q⟩:=h;obtain⟨u,rfl,i⟩:=lL r;cases i;let j:=iQ;rcases b with b|b
 ·obtain⟨e,d,c,g⟩:=I.list b;let a:=d.length
  show Calls.call_len_list c.isList (by simp only[Mm]<;>lia) ⟨.int ys.length,H,I.tok _,⟨s.toks+1,by rw[Mm,a]⟩,q⟩
 ·obtain⟨e,d,c,g⟩:=I.tuple b;let a:=d.length
  show len_tuple c (by simp only[Mm]<;>lia) ⟨.int ys.length,H,I.tok _,⟨s.toks+1,by rw[Mm,a]⟩,q⟩
theorem eC:js X (.type "list") (λxs H Q=>∃p ys,xs=[.ref p]/\(SqL X.K H p ys\/SqT X.K H p ys)/\∀l,H l=Pl->Q (.ref l) (upd H l (.lst ys))):=by
 intro g s Z H xs C Q I r h;obtain⟨p,ys,rfl,k,q⟩:=h;obtain⟨u,rfl,B⟩:=lL r;cases B
 let m:∀(a:List Pn),Vals ys a->ys.length<=sizeLine->∀(c:PD) (f:Nat),(∀b A,s.heap.get? b=Pj A->c.get? b=Pj A)->
   c.get? s.heap.objs.size=Pj { cls:=.type "list",dict:=Pl,data:=.seq a.toArray f,slots:=#[] }->EP X g Z Q (.ref s.heap.objs.size) { s with heap:=c }:=λa d i c f j e=>
  ⟨.ref s.heap.objs.size,_,I.laid (t':=s.toks) j (Mi _) (show ObjOk X.prog X.w _ c _ (.lst ys) from⟨i,a,f,d,e⟩),rfl,q _ (I.hok.fresh (Mi _))⟩
 rcases k with k|k
 ·obtain⟨a,d,z,i⟩:=I.list k;let t:=d.length;obtain⟨o,y,x,n,v⟩:=z.isList
  show call_list_seq p (.inl rfl) y x v (λc f j e=>m a d i c f j e) (by simp only[Mm]<;>lia)
 ·obtain⟨a,d,z,i⟩:=I.tuple k;let t:=d.length;obtain⟨o,y,x,n,v⟩:=z
  show call_list_seq p (.inr rfl) y x v (λc f j e=>m a d i c f j e) (by simp only[Mm]<;>lia)
theorem lA:js X (.type "tuple") (λxs H Q=>∃p ys,xs=[.ref p]/\((SqL X.K H p ys/\∀l,H l=Pl->Q (.ref l) (upd H l (.tup ys)))\/(SqT X.K H p ys/\Q (.ref p) H))):=by
 intro a s Z H xs x Q I r h;obtain⟨p,ys,rfl,h⟩:=h;obtain⟨u,rfl,t⟩:=lL r;cases t;rcases h with⟨g,q⟩|⟨g,q⟩
 ·obtain⟨c,i,f,j⟩:=I.list g;let k:=i.length
  show call_tuple_list f.isList (λd n=>?_) (by simp only[Mm]<;>lia)
  let m:Inv X a Z H { s with heap:=d }:=I.kept (t':=s.toks) n
  let v:Inv X a Z (upd H d.objs.size (.tup ys)) { s with heap:=d.push { cls:=.type "tuple",data:=.seq c.toArray } }:=
   m.laid (t':=s.toks) (λb o e=>Mf _ e) (Mi _) (show ObjOk X.prog X.w _ _ _ (.tup ys) from⟨j,c,i,IsTup.new _ _⟩)
  show⟨.ref d.objs.size,_,v,rfl,q _ (m.hok.fresh (Mi _))⟩
 ·obtain⟨c,i,f,j⟩:=I.tuple g;show call_tuple_same f ⟨.ref p,H,I,rfl,q⟩
def Jb(K:Md)(T:String)(x:V)(H:Hp):Prop:=match x with
 |.ref p=>(T="list"/\∃xs,SqL K H p xs)\/(T="dict"/\∃kvs,H p=Pj (.dK kvs))
 |_=>False
theorem wz{s:Pt}{T:String}(I:Inv X pins Z H s)(r:RelV x v)(ty:Jb X.K T x H) :
  s.TypeIs v T/\∀a,v=.ref a->∃d,s.heap.get? a=Pj d/\d.dict=Pl:=by
 cases x with
 |ref p=>
  cases r;rcases ty with⟨rfl,k,i⟩|⟨rfl,h,hk⟩
  ·obtain⟨j,_,b,_⟩:=I.list i;show⟨b.isList.typeIs,λa e=>?_⟩;cases e;obtain⟨o,n,e,c,g,_⟩:=b;show⟨o,e,g⟩
  ·obtain⟨_,_,_,_,o,_,_,e,f,_⟩:=I.hok p _ hk;show⟨⟨o,e,f.1⟩,λa e2=>?_⟩;cases e2;show⟨o,e,f.2.1⟩
 |_=>show False.elim ty
def Gz(K:Md)(T:String)(r:V->List V->Hp->VK->Prop)(to:TE):TE:=λZ H Q=>to Z H λx H1=>Jb K T x H1/\r x [] H1 Q
def LX(K:Md)(T:String)(r:V->List V->Hp->VK->Prop)(to:TE)(t:TA):TE:=λZ H Q=>to Z H λx H1=>Jb K T x H1/\t Z H1 λxs H2=>r x xs H2 Q
variable {o e:Pp} {es:List Pp} {to:TE} {t:TA} {name:Str} {apos cpos:Pos} {T id:String} {r:V->List V->Hp->VK->Prop}
theorem qG(l:PlainAttrs T)(b:Slot T name id)(c:typeOf (.builtin id)=pure (.type "method_descriptor"))(j:FB X id r)(f:PE X o to)
  (hbase:attributeBase o name X.env (eval o X.env)=eval o X.env:=by rfl) (hline:(apos.endLine==cpos.line)=Pm:=by rfl):PE X (.Call (.Attribute o name apos) [] [] cpos) (Gz X.K T r to):=by
 intro a s Z H Q I h;show wpAny_Call_method0_late hbase hline (a5 (f a s Z H _ I h) λv s1 ⟨x,i,e,d,n,k⟩=>?_);obtain⟨m,g⟩:=wz e d n;show⟨T,id,l,b,c,m,g,Calls.callWith_builtin rfl (PySem.evalArgs_none (j a s1 Z i x [] v [] Q e d .nil k))⟩
theorem wB(z:PlainAttrs T)(b:Slot T name id)(c:typeOf (.builtin id)=pure (.type "method_descriptor"))(l:FB X id r)(i:PE X o to)(p:PA X (e::es) t)
  (hbase:attributeBase o name X.env (eval o X.env)=eval o X.env:=by rfl)
  (hfew:((backTo cpos (Py (e::es) X.env)).all (λx=>!x.1)&&(backToKw cpos (keywordEach [] X.env)).all (λx=>x.1.isSome)
   && decide ((e::es).length+([]:List Keyword).length+(if([]:List Keyword).isEmpty then 0 else 1)<30))=Pm:=by rfl)
  (hline:(apos.endLine==cpos.line)=Pm:=by rfl) (hs:Py (e::es) X.env=(Po,eval e X.env)::Py es X.env:=by rfl) (hplain:(backTo cpos (Py es X.env)).any (·.1)=Po:=by rfl) :
  PE X (.Call (.Attribute o name apos) (e::es) [] cpos) (LX X.K T r to t):=by
 intro a s Z H Q I h;show wpAny_Call_method_late hbase hfew hline rfl (a5 (i a s Z H _ I h) λv s1 ⟨x,k,g,f,C,m⟩=>?_);obtain⟨B,j⟩:=wz g f C;show⟨T,id,z,b,c,B,j,?_⟩;let d:=p cpos a s1 Z k _ g m;rw[hs] at d⊢
 show Calls.callWith_builtin (by change(Po||(backTo cpos (Py es X.env)).any (·.1))=Po;rw[hplain]<;>rfl) (Calls.evalArgs_plain ?_)
 show a5 d λu s2 ⟨w,y,A,n,q⟩=>l a s2 Z y x w v u Q A f n q
/- xs.append(e),list.index on a module's tuple .. are FB facts of 06m -/
end
def Dh(X:Cx)(id:String)(r:V->List V->Hp->VK->Prop):Prop:=
 ∀(pins:List (Ps×Obj)) (s:Pt) (Z:St) (H:Hp) (x:V) (xs:List V) (v:Pn) (us:List Pn) (Q:VK),Inv X pins Z H s->RelV x v->Vals xs us->r x xs H Q->
  Pv (Pw X.prog X.w) X.A (call (.builtin id) (v::us)) (EP X pins Z Q) X.xe s
theorem Vals.one{x:V}(h:Vals [x] us):∃u,us=[u]/\RelV x u:=by
 cases h with
 |cons r t=>cases t;show⟨_,rfl,r⟩
theorem Vals.two(h:Vals [x,y] us):∃u v,us=[u,v]/\RelV x u/\RelV y v:=by
 cases h with
 |cons r t=>
  obtain⟨v,rfl,q⟩:=Vals.one t;show⟨_,_,rfl,r,q⟩
theorem Vals.zero:∀{us:List Pn},Vals [] us->us=[]
 |_,.nil=>rfl
theorem Vals.dropLast{xs:List V}{us:List Pn}(h:Vals xs us):Vals xs.dropLast us.dropLast:=by
 induction h with
 |nil=>show .nil
 |cons r t a=>
  cases t with
  |nil=>show .nil
  |cons q b=>show .cons r a
theorem Vals.eraseIdx:∀{xs:List V} {us:List Pn} (i:Nat),Vals xs us->Vals (xs.eraseIdx i) (us.eraseIdx i)
 |_,_,_,.nil=>.nil
 |_,_,0,.cons _ t=>t
 |_,_,i+1,.cons r t=>.cons r (Vals.eraseIdx i t)
theorem Vals.reverse{xs:List V}{us:List Pn}(h:Vals xs us):Vals xs.reverse us.reverse:=by
 induction h with
 |nil=>show .nil
 |cons r t a=>rw[Nr,Nr];show Vals.append a (.cons r .nil)
theorem Vals.rep(h:Vals xs us):∀k:Nat,Vals (MC k xs).flatten (MC k us).flatten
 |0=>.nil
 |k+1=>by
  rw[Nf,Nf,NO,NO];show Vals.append h (Vals.rep h k)
theorem qH{α:Type}(l:List α):l.eraseIdx (l.length-1)=l.dropLast:=by
 induction l with
 |nil=>rfl
 |cons a r c=>
  cases r with
  |nil=>rfl
  |cons b r=>
   let e:(a::b::r).length-1=((b::r).length-1)+1:=by
    let f:(a::b::r).length=r.length+2:=rfl;let d:(b::r).length=r.length+1:=rfl
    lia
   rw[e,List.eraseIdx_cons_succ,c]
   all_goals rfl
theorem lQ{α:Type}:∀(l:List α) (i:Nat),(l.eraseIdx i).length<=l.length
 |[],_=>Mi _
 |_::_,0=>Np _
 |_::r,i+1=>Nat.succ_le_succ (lQ r i)
theorem lR(b:List Pn):∀(k:Nat) (a:List Pn),
  OS (λc d=>c++d) a.toArray (MC k b.toArray)=(a++(MC k b).flatten).toArray
 |0,a=>by simp
 |k+1,a=>by
  let e:a.toArray++b.toArray=(a++b).toArray:=by simp
  let e2:(a++b)++(MC k b).flatten=a++(MC (k+1) b).flatten:=by
   rw[Nf,NO,MX]
  rw[<- e2,<- lR b k (a++b),<- e,Nf,List.foldl_cons]
section
variable {X:Cx} {pins:List (Ps×Obj)} {Z:St} {H:Hp} {s:Pt} {l b:Ps} {xs ys zs:List V}
theorem Inv.lset{a its':List Pn}{f:Array Pn->Array Pn}{t':Nat}(I:Inv X pins Z H s)(g:H l=Pj (.lst xs))(e:s.heap.get? l=Pj { cls:=.type "list",data:=.seq a.toArray n })(h:f a.toArray=its'.toArray)(b:Vals ys its')(d:ys.length<=sizeLine) :
  Inv X pins Z (upd H l (.lst ys)) { s with heap:=s.heap.update l (Obj.mapSeq f),toks:=t' }:=by
 let q:=PySem.IsL.update e f;rw[h] at q;show I.write (x:=l) (e:=l) (by rw[g];show trivial) (.inl rfl) (λj u i c=>(Nz s.heap (Obj.mapSeq f) (Ne.symm i)).trans c) ⟨_,q⟩ ?_;show⟨d,its',_,b,q⟩
theorem Inv.lnew{a:List Pn}{t':Nat}(I:Inv X pins Z H s)(b:Vals ys a)(c:ys.length<=sizeLine) :
  Inv X pins Z (upd H s.heap.objs.size (.lst ys)) { s with heap:=s.heap.push { cls:=.type "list",data:=.seq a.toArray },toks:=t' }:=
 I.laid (λ_ _ q=>Mf _ q) (Mi _) ⟨c,a,0,b,Mp _ rfl⟩
theorem Inv.fresh(I:Inv X pins Z H s):H s.heap.objs.size=Pl:=I.hok.fresh (Mi _)
theorem Inv.lstM(I:Inv X pins Z H s)(b:H l=Pj (.lst xs)):xs.length<=sizeLine/\∃(a:List Pn) (n:Nat),Vals xs a/\xs.length=a.length/\s.heap.get? l=Pj { cls:=.type "list",data:=.seq a.toArray n }:=by
 obtain⟨z,a,n,r,e⟩:=I.hok l _ b;show⟨z,a,n,r,r.length,e⟩
theorem oz{n:Nat}(h:n<=sizeLine):Builtin.List.listTooLong n=Po:=by
 unfold Builtin.List.listTooLong;show decide_eq_false (by lia)
end
section
variable {X:Cx}
def sA:V->List V->Hp->VK->Prop:=λx vs H Q=>∃l xs y,x=.ref l/\vs=[y]/\H l=Pj (.lst xs)/\xs.length<sizeLine/\Q .non (upd H l (.lst (xs++[y])))
theorem lS:Dh X "list.append" sA:=by
 intro b s Z H x o v k Q I d g h;obtain⟨l,m,y,rfl,rfl,c,i,q⟩:=h;cases d;obtain⟨u,rfl,f⟩:=g.one;obtain⟨z,a,n,r,j,e⟩:=I.lstM c;show call_meets F.slot_list_append ⟨_,e,rfl⟩ F.entry_list_append (F.args_list_append_2 _ _) (PySem.list_append l a.toArray n u (by rw[Mm];lia)) ⟨e,?_⟩;show⟨.non,_,I.lset (its':=a++[u]) c e (by simp) (r.append (.cons f .nil)) ?_,rfl,q⟩;rw[MF,N9]
 lia
def sB:V->List V->Hp->VK->Prop:=λx vs H Q=>∃l b xs zs,x=.ref l/\vs=[.ref b]/\H l=Pj (.lst xs)/\H b=Pj (.lst zs)/\xs.length+zs.length<=sizeLine/\Q .non (upd H l (.lst (xs++zs)))
theorem uP:Dh X "list.extend" sB:=by
 intro i s Z H x D v B Q I t o h;obtain⟨l,b,K,y,rfl,rfl,j,g,E,q⟩:=h;cases t;obtain⟨u,rfl,k⟩:=o.one;cases k;obtain⟨z,c,n,r,A,e⟩:=I.lstM j;obtain⟨C,a,p,m,w,e2⟩:=I.lstM g;let f:c.toArray.size+a.toArray.size<=sizeLine:=by rw[Mm,Mm];lia
 let d:¬(!c.toArray.isEmpty&&Builtin.List.listTooLong (c.toArray.size+a.toArray.size))=Pm:=by
  rw[oz f,Bool.and_false];show Mz
 show call_meets F.slot_list_extend ⟨_,e,rfl⟩ F.entry_list_extend (F.args_list_extend_2 _ _)
  (AutoSeq1.list_extend_list_list_0 l c.toArray n b a.toArray p d (by rw[Mm];lia) (by lia)) ⟨e,e2,?_⟩
 show⟨.non,_,I.lset (its':=c++a) j e (by simp) (r.append m) ?_,rfl,q⟩;rw[MF]
 lia
def GA:V->List V->Hp->VK->Prop:=λx vs H Q=>∃l xs y,x=.ref l/\vs=[]/\H l=Pj (.lst xs)/\xs[xs.length-1]?=Pj y/\Q y (upd H l (.lst xs.dropLast))
theorem Di:Dh X "list.pop" GA:=by
 intro d s Z H x w v p Q I j o h;obtain⟨l,t,y,rfl,rfl,f,k,q⟩:=h;cases j;let c:=o.zero;subst c;obtain⟨z,a,n,r,i,e⟩:=I.lstM f;obtain⟨u,g,m⟩:=r.get k
 let b:a.toArray[a.toArray.size-1]?=Pj u:=by
  change a.toArray[a.length-1]?=Pj u;rw[<- Nh,<- i];show g
 show call_meets F.slot_list_pop ⟨_,e,rfl⟩ F.entry_list_pop (F.args_list_pop_1 _) (MeetsSeq.list_pop_last l a.toArray n u b (by rw[Mm];lia)) ⟨e,?_⟩;show⟨y,_,I.lset (its':=a.dropLast) f e ?_ r.dropLast ?_,m,q⟩
 ·change a.toArray.eraseIdxIfInBounds (a.toArray.size-1)=a.dropLast.toArray;rw[Mm,Oa,qH]
 ·rw[List.length_dropLast]
  lia
def wC:V->List V->Hp->VK->Prop:=λx vs H Q=>∃l xs i k y,x=.ref l/\vs=[.int i]/\H l=Pj (.lst xs)/\-(2^63)<=i/\i<2^63/\seqIndex? i xs.length=Pj k/\xs[k]?=Pj y/\Q y (upd H l (.lst (xs.eraseIdx k)))
theorem wD:Dh X "list.pop" wC:=by
 intro c s Z H x E v D Q I j B h;obtain⟨l,A,i,k,y,rfl,rfl,d,C,g,hk,o,q⟩:=h;cases j;obtain⟨u,rfl,p⟩:=B.one;obtain⟨t,rfl⟩:=p;obtain⟨z,a,n,r,m,e⟩:=I.lstM d;obtain⟨w,f,b⟩:=r.get o;show call_meets F.slot_list_pop ⟨_,e,rfl⟩ F.entry_list_pop (F.args_list_pop_2 _ _)
  (MeetsSeq.list_pop_at l a.toArray n i t k w (fitsIndex_both C g) (by rw[Mm,<- m];show hk) (by rw[<- Nh];show f) (by rw[Mm];lia)) ⟨e,?_⟩
 show⟨y,_,I.lset (its':=a.eraseIdx k) d e ?_ (r.eraseIdx k) ?_,b,q⟩
 ·change a.toArray.eraseIdxIfInBounds k=(a.eraseIdx k).toArray;rw[Oa]
 ·have:=lQ A k
  lia
def wF:V->List V->Hp->VK->Prop:=λx vs H Q=>∃l xs,x=.ref l/\vs=[]/\H l=Pj (.lst xs)/\Q .non (upd H l (.lst xs.reverse))
theorem Dj:Dh X "list.reverse" wF:=by
 intro c s Z H x m v j Q I f g h;obtain⟨l,k,rfl,rfl,d,q⟩:=h;cases f;let b:=g.zero;subst b;obtain⟨z,a,n,r,i,e⟩:=I.lstM d;show call_meets F.slot_list_reverse ⟨_,e,rfl⟩ F.entry_list_reverse (F.args_list_reverse_1 _) (AutoSeq1.list_reverse_list_0 l a.toArray n (by rw[Mm];lia)) ⟨e,?_⟩;show⟨.non,_,I.lset (its':=a.reverse) d e (by simp) r.reverse ?_,rfl,q⟩;rw[Od]
 lia
def Dk:V->List V->Hp->VK->Prop:=λx vs H Q=>∃l xs,x=.ref l/\vs=[]/\H l=Pj (.lst xs)/\Q .non (upd H l (.lst []))
theorem GB:Dh X "list.clear" Dk:=by
 intro c s Z H x m v j Q I f g h;obtain⟨l,k,rfl,rfl,d,q⟩:=h;cases f;let a:=g.zero;subst a;obtain⟨z,b,n,r,i,e⟩:=I.lstM d;show call_meets F.slot_list_clear ⟨_,e,rfl⟩ F.entry_list_clear (F.args_list_clear_1 _) (AutoSeq1.list_clear_list_0 l b.toArray n (by rw[Mm];lia)) ⟨e,?_⟩;show⟨.non,_,I.lset (its':=[]) (ys:=[]) d e rfl .nil (ML _),rfl,q⟩
def JQ:R2:=λx y H Q=>∃l b xs zs,x=.ref l/\y=.ref b/\H l=Pj (.lst xs)/\H b=Pj (.lst zs)/\xs.length+zs.length<=sizeLine/\∀p,H p=Pl->Q (.ref p) (upd H p (.lst (xs++zs)))
theorem Dl:gE X (binaryOp .Add) JQ:=by
 intro f s Z H x y v u Q I i j h;obtain⟨l,b,C,A,rfl,rfl,o,d,t,q⟩:=h;cases i;cases j;obtain⟨z,c,n,r,B,e⟩:=I.lstM o;obtain⟨w,a,p,k,g,e2⟩:=I.lstM d;show PySem.P.add_list e e2 ?_ (by rw[Mm,Mm];lia);let m:c.toArray++a.toArray=(c++a).toArray:=by simp
 rw[m];show⟨.ref _,_,I.lnew (t':=s.toks) (r.append k) (by rw[MF];lia),rfl,q _ I.fresh⟩
def JR:R2:=λx y H Q=>∃l k xs,x=.ref l/\y=.int k/\H l=Pj (.lst xs)/\-(2^63)<=k/\k<2^63/\xs.length*k.toNat<=sizeLine/\
 ∀p,H p=Pl->Q (.ref p) (upd H p (.lst (MC k.toNat xs).flatten))
theorem zM{α:Type}(xs:List α)(k:Nat):(MC k xs).flatten.length=k*xs.length:=by
 induction k with
 |zero=>simp
 |succ k a=>rw[Nf,NO,MF,a,Nat.succ_mul,Nat.add_comm]
theorem Dm:gE X (binaryOp .Mult) JR:=by
 intro p s Z H x y v u Q I C K h;obtain⟨l,k,O,rfl,rfl,L,B,D,w,q⟩:=h;cases C;obtain⟨t,rfl⟩:=K;obtain⟨z,b,n,r,A,e⟩:=I.lstM L;let g:b.toArray.size*k.toNat<=sizeLine:=by rw[Mm,<- A];show w
 let d:¬b.toArray.size*k.toNat > (2^63-1) / 8:=by
  have:(sizeLine:Nat)<=(2^63-1) / 8:=by decide
  lia
 let f:¬(!Builtin.List.listFitsIndex k)=Pm:=by
  rw[fitsIndex_both B D];show Mz
 let c:¬Builtin.List.listTooLong (b.toArray.size*k.toNat)=Pm:=by
  rw[oz g];show Mz
 let i:OS (λo j=>o++j) #[] (MC (if b.toArray.isEmpty=Pm then 0 else k.toNat) b.toArray)=(MC k.toNat b).flatten.toArray:=by
  let E:∀m:Nat,OS (λo j=>o++j) #[] (MC m b.toArray)=(MC m b).flatten.toArray:=λm=>by
   have:=lR b m [];rw[NA] at this;show this
  rw[E]
  cases b with
  |nil=>simp
  |cons a N=>rw[if_neg (by simp)]
 show wpAny_binaryOp_repeat_ref (by decide) ⟨_,e,rfl⟩ (λM=>typeIs_int M k t) noFill_list_mul F.fills_int_mul F.slot_int_rmul repeat_list F.slot_int_index.lookup
  (call_meets F.slot_int_rmul (typeIs_int s k t) F.entry_int_rmul (F.args_int_rmul_2 _ _) (int___rmul___int_list k t l b.toArray n)
   ⟨e,rfl,⟨_,e,rfl⟩,call_meets F.slot_list_mul ⟨_,e,rfl⟩ F.entry_list_mul (F.args_list_mul_2 _ _) (AutoListH.list___mul___list_int_3 l b.toArray n k t f d c) ⟨e,?_⟩⟩)
 rw[i];show⟨.ref _,_,I.lnew (t':=s.toks) (r.rep k.toNat) (by rw[zM,Nat.mul_comm];show w),rfl,q _ I.fresh⟩
end
end L2
namespace Att
open PySem PySem.W PySem.Calls PyProof.Rows
theorem jK:∀(ns:List Int) (vs:List Pn),WellAll P h vs (ns.map WData.int)->IntsAre vs ns:=by
 intro ns
 induction ns with
 |nil=>
  intro vs w;rw[OA] at w;cases w;show .nil
 |cons n ns c=>
  intro vs w;rw[Mx] at w
  cases w with
  |cons a b=>
   cases a;show .cons _ _ (c _ b)
theorem uQ{l:OpenLaw}(o:l.most=Pj n){h:PD}(b:l.row.toRowW.claim.pre args=Pm)(j:WellAll P h vals args) :
  ∃a k ns,vals=[Value.ref a]/\args=[WData.list (ns.map WData.int)]/\h.get? a=Pj { cls:=.type "list",data:=.seq k.toArray }/\IntsAre k ns/\ns.length<=n:=by
 let i:WShape.hasAll [] args [.list .int]=Pm:=(pre_splitW b).1;let m:l.pre.holds [] { args:=args }=Pm:=(pre_splitW b).2;obtain⟨d,r,rfl,w,p⟩:=hasAllW_cons i;obtain rfl:=hasAllW_nil p;obtain⟨x,rfl,s⟩:=hasW_list w;obtain⟨ns,rfl⟩:=items_int s
 let e:ns.length<=n:=by
  unfold OpenLaw.pre at m
  let g:(WTm.not (.lt (.lit (.int (n:Int))) (.len (.arg 0)))).holds [] { args:=[.list (ns.map .int)] }=Pm:=by
   let g:=(holds_andW m).1;rw[o] at g;show g
  let f:=condW_of g (w_not (w_lt w_lit (w_len_list (w_arg rfl))));rw[Mh] at f;show Nat.le_of_not_lt λq=>?_;let t:(n:Int)<((ns.length:Nat):Int):=by lia
  first
   |(rw[decide_eq_true t] at f;show absurd f (by decide))
   |(simp at f;lia)
 cases j with
 |cons v w2=>
  cases w2
  cases v with
  |list u c=>show⟨_,_,ns,rfl,rfl,u,jK ns _ c,e⟩
theorem uR(l:OpenLaw)(args:List WData):l.row.toRowW.claim.post args (.bool Pm) args=Pm:=
 postW_of (r:=l.row.toRowW) (X:=(Pm==Pm))
  (show WShape.has [] (.bool Pm) .bool=Pm by first|rfl|decide|simp[WShape.has,WShape.arms,WShape.armsAll])
  (show(WTm.eq .res (.lit (.bool Pm))).value [] { args:=args,res:=Pj (.bool Pm),after:=args }=Pj (.bool (Pm==Pm)) from w_eq_bool (w_res rfl) w_lit) rfl
theorem oA{l:OpenLaw}{n:Nat}{YP:PB->PD->Prop}{d:DefRec}(F:l.most=Pj n)(s:d.params.defaults=[])(i:∀(w:PB) (x b:Pt) (mg y:Str->Option Pn) (g:Ps) (o:Obj) (t m c:Pn) (a:Ps) (vs:List Pn) (ns:List Int),
   Ground q loose [] XP w x mg y b.heap->YP w b.heap->
   b.heap.get? g=Pj o->o.data=.func (docDef d.name d.params d.body d.scope t m c)->b.heap.CodeRec m d.name->mg d.name=Pj (.ref g)->
   b.heap.get? a=Pj { cls:=.type "list",data:=.seq vs.toArray }->IntsAre vs ns->ns.length<=n->b.gens=#[]->
   codeAny (Pw l.prog w) callerA (.call (.ref g) ⟨[.ref a],[]⟩) (λr s'=>r=.ok (.ret (.bool Pm))/\OldK b.heap s'.heap/\s'.os=b.os/\AllBare s'.gens) b) :
  WalkO q loose XP YP l.row.toRowW d [] (λf vs=>PySem.call f vs):=by
 intro w x b mg y G I g o t m c M kV N D p B u R z C S j A O v E;obtain rfl:M=.none:=Dflts.none B s;obtain rfl:kV=.none:=Dflts.noKw B;obtain⟨a,vs,ns,rfl,rfl,h,e,k⟩:=uQ F j v;show enter_call (codeAny_mono (i w x b mg y g o t m c a vs ns G I N (fd_plain D) p u h e k R) λr s' Q=>?_);obtain⟨rfl,H,L,K⟩:=Q
 show⟨.inl ⟨.bool Pm,.bool Pm,[],rfl,λ_=>rfl,.bool Pm,uR l _,λ_=>⟨List.Pairwise.nil,λ_ P=>(nomatch P)⟩⟩,H,L,K⟩
end Att
namespace L2
open PyProof.Rows
theorem lT:∀{vs:List Pn} {ns:List Int},IntsAre vs ns->Vals (ns.map V.int) vs
 |_,_,.nil=>.nil
 |_,_,.cons n t h=>.cons ⟨t,rfl⟩ (lT h)
def Do(H:Hp):Prop:=∀b,H b=Pl\/∃o xs,H b=Pj (.frz o (.lst xs))
theorem wH{K:Md}{mg R:Str->Option Pn}{x:Str}{c:Pt}{vs:List Pn}{ns:List Int}(X:K.In c.heap)(hns:c.heap.Ns PF mg)(g:c.heap.Ns builtinsNs R)(Q:∀x:Str,x≠"__name__"->R x=bootBuiltins x)(y:c.heap.NoLimit)(hg:c.gens=#[])(I:c.heap.get? a=Pj { cls:=.type "list",data:=.seq vs.toArray })(hi:IntsAre vs ns)(S:ns.length<=sizeLine)(Z:Room k callerA)(F:∀base:PD,K.In base->base.Ns PF mg->FnOk P w K mg base CX k fa fd [x] sp)(j:∀(s:Pt) (u:Pn),BindsTo s fd ⟨[u],[]⟩ [(x,u)])(N:∀H:Hp,Do H->SqL K H a (ns.map V.int)->sp [.ref a] H (λv _=>v=.bl Pm) λ_ _ _=>False)(O:∀H e s',CX [] H c (λ_ _ _=>False) e s'->False) :
  codeAny (Pw P w) callerA (.call (.ref fa) ⟨[.ref a],[]⟩) (λr s'=>r=.ok (.ret (.bool Pm))/\OldK c.heap s'.heap/\s'.os=c.os/\AllBare s'.gens) c:=by
 let Y:=lT hi;let t:=hi.length
 -- from an abstract heap in which nothing but the script may be tracked
 let i:∀H:Hp,Do H->SqL K H a (ns.map V.int)->HOk P w H c.heap->(∀b,H b≠Pl->b=a)->(H a≠Pl->K.lookup a=Pl)->
   codeAny (Pw P w) callerA (.call (.ref fa) ⟨[.ref a],[]⟩) (λr s'=>r=.ok (.ret (.bool Pm))/\OldK c.heap s'.heap/\s'.os=c.os/\AllBare s'.gens) c:=by
  intro H W hS D U hK;let f:∀{b:Ps} {o:Obj},c.heap.get? b=Pj o->H b=Pl->(mI c.heap H).get? b=Pj o:=λe n=>v7 e n
  let L:∀{b:Ps} {o:Obj} {C:Array DictEntry} {l:Nat},c.heap.get? b=Pj o->o.data=.dict C l->H b=Pl:=λ{b o C l} e d=>by
   cases q:H b with
   |none=>rfl
   |some u=>
    let M:b=a:=U b (by rw[q];simp);subst M;rw[I] at e;cases e;let d':Data.seq vs.toArray _=Data.dict C l:=d;cases d'
  let vX:∀{b:Ps} {m:Str->Option Pn},c.heap.Ns b m->(mI c.heap H).Ns b m:=λ{b m} ⟨o,C,l,e,d,r⟩=>⟨o,C,l,f e (L e d),d,r⟩
  let A:K.In (mI c.heap H):=λb o e=>f (X b o e) (by
   cases q:H b with
   |none=>rfl
   |some u=>
    let M:b=a:=U b (by rw[q];simp);subst M;rw[hK (by rw[q];simp)] at e;cases e)
  let hM:Mod K mg (mI c.heap H):=⟨A,vX hns,⟨R,vX g,Q⟩,let ⟨mc,h1,h2⟩:=y;⟨mc,vX h1,h2⟩⟩;let e0:Env0 P w K mg (mI c.heap H) callerA [] c H:=⟨rfl,hM,λb o e=>zi e,Nat.le_of_eq (uF _ _),trivial,λb g=>absurd (show b∈([]:List Ps) from g) (by simp),D,.of_eq hg⟩;show codeAny_mono ((F _ A (vX hns)).run callerA [] c H ⟨[.ref a],[]⟩ [.ref a] [.ref a] _ _ Z e0 (j c (.ref a)) (.cons rfl .nil) (N H W hS)) λr s' h=>?_
  cases r with
  |error e=>show(O H e s' h).elim
  |ok fl=>
   cases fl with
   |next=>show False.elim h
   |brk=>show False.elim h
   |cont=>show False.elim h
   |ret u=>
    obtain⟨v,H',os,E,T,B,r',q⟩:=h;let q':v=.bl Pm:=q;subst q';obtain rfl:u=Value.bool Pm:=r';show⟨rfl,OldK.of_keep λb o e=>?_,os,E⟩
    cases q:H b with
    |none=>show T.keep b o e q (by intro z;show absurd (show b∈([]:List Ps) from z) (by simp)) (by simp)
    |some u=>
     rcases W b with z|⟨ob,xs,z⟩
     ·rw[q] at z;cases z
     ·let z2:=T.frzs b ob _ z;obtain⟨e1,_⟩:=D b _ z;obtain⟨e2,_⟩:=B b _ z2;rw[e] at e1;cases e1;show e2
 cases hk:K.lookup a with
 |some o=>
  -- the script is one of the module's own objects
  let e:=X a o hk;rw[I] at e;cases e;show i (λ_=>Pl) (λ_=>.inl rfl) (.inr ⟨_,vs.toArray,_,hk,rfl,rfl,rfl,by rw[Mm,t];show S,by simpa using Y⟩) (λb u z=>by let p:(Pl:Option HO)=Pj u:=z;cases p) (λb z=>absurd rfl z) λz=>absurd rfl z
 |none=>
  show i (λb=>if b=a then Pj (.frz { cls:=.type "list",data:=.seq vs.toArray } (.lst (ns.map V.int))) else Pl) (λb=>?_) (.inl (.inr ⟨{ cls:=.type "list",data:=.seq vs.toArray },if_pos rfl⟩)) (λb u z=>?_) (λb z=>?_) λ_=>hk
  ·by_cases g:b=a
   ·show .inr ⟨_,_,if_pos g⟩
   ·show .inl (if_neg g)
  ·by_cases g:b=a
   ·let p:=(if_pos g).symm.trans z;cases p;subst g;show⟨I,by rw[Mh];show S,vs,_,Y,I⟩
   ·let p:=(if_neg g).symm.trans z;cases p
  ·by_cases g:b=a
   ·show g
   ·show absurd (if_neg g) z
theorem zN{l:PySem.W.OpenLaw}{n k:Nat}{YP:PB->PD->Prop}{d:DefRec}{K:Params->Md}{CX:PB->uN}{sp:PB->Sp}{x:Str}(L:l.most=Pj n)(p:n<=sizeLine)(t:d.params.defaults=[])(D:Room k callerA)(r:∀(w:PB) (h:PD),YP w h->(K w.params).In h)(F:∀(w:PB) (mg:Str->Option Pn) (m:Ps) (h:PD),(K w.params).In h->h.Ns PF mg->mg d.name=Pj (.ref m)->
   ∃fd:PL,(∀(s:Pt) (u:Pn),BindsTo s fd ⟨[u],[]⟩ [(x,u)])/\
    ∀base:PD,(K w.params).In base->base.Ns PF mg->FnOk l.prog w (K w.params) mg base (CX w) k m fd [x] (sp w))(z:∀(w:PB) (H:Hp) (a:Ps) (ns:List Int),ns.length<=n->Do H->SqL (K w.params) H a (ns.map V.int)->sp w [.ref a] H (λv _=>v=.bl Pm) λ_ _ _=>False)(A:∀(w:PB) (H:Hp) (s:Pt) (e:Pn) (s':Pt),CX w [] H s (λ_ _ _=>False) e s'->False) :
  PySem.W.WalkO q loose XP YP l.row.toRowW d [] (λf B=>PySem.call f B):=by
 show Att.oA L t λw Z E mg mb m o X cd M a B ns G P Y U I y j i c R=>?_;let C:=r w _ P;obtain⟨fd,O,N⟩:=F w mg m _ C G.T.g y;show wH C G.T.g G.T.b G.T.builtins G.T.nolimit R j i (MP c p) D N O (λH Q S=>z w H a ns c Q S) λH e s'=>A w H E e s'
noncomputable def cb(s:Pz):Arguments:=match s with
 |.FunctionDef _ a _ _ _ _ _ _ _ _=>a
 |_=>{ posonlyargs:=[],args:=[],vararg:=Pl,kwonlyargs:=[],kw_defaults:=[],kwarg:=Pl,defaults:=[] }
noncomputable def aC(s:Pz):List Pz:=match s with
 |.FunctionDef _ _ b _ _ _ _ _ _ _=>b
 |_=>[]
noncomputable def ab(s:Pz):PH:=match s with
 |.FunctionDef _ _ _ _ _ _ sc _ _ _=>sc
 |_=>{ kind:=.function,names:=[],isGenerator:=Po,isCoroutine:=Po }
abbrev iS:uN:=λ_ _ _ _ _ _=>False
noncomputable abbrev E0:XK:=λ_ _ _=>False
theorem ki:eV iS X E0:=λ_ _ _ _ _ _ _ h=>h.elim
structure Fun(K:Md)(x qual:Str)(st:Stmt)(f:Addr)(fd:FuncData):Prop where
 ex:∃(oc:Pn) (od:Option Ps) (kV doc pm:Pn) (an:Option Ps) (cdv ct:Pn) (osl:Array (Option Pn)),
  fd=Ni x qual (cb st) (aC st) (ab st) .none kV doc pm an cdv ct/\K.lookup f=Pj ⟨oc,od,.func fd,osl⟩/\NZ K cdv qual=Pm
 kp:M8 K (.ref f)=Pm
section
variable {P:Px} {w:PB} {K:Md} {mg:Str->Option Pn} {base:PD}
theorem Fun.ok{x qual:Str}{st:Pz}{f:Ps}{fd:PL}{N ps:List Str}{k:Nat}{sp:Sp}(F:Fun K x qual st f fd)(S:a7 N ps (ab st))(d:∀vs H Q E,sp vs H Q E->vs.length=ps.length)
  (hbody:∀(b:Pn) (A:PC) (a:List Env) (s:Pt) (H:Hp) (vs:List V) (Q:VK) (E:XK),Room k (A.deeper (envOfC qual (ab st) s.heap.objs.size f b))->sp vs H Q E->
   ∃t,PSs (ly iS P w K mg base N qual (ab st) f b A a s H E).nox (aC st) t/\t { nx:=λ_ m=>Q .non m,rt:=Q } (bO N vs) H):FnOk P w K mg base iS (k+1) f fd ps sp:=by
 obtain⟨r,o,kV,i,n,an,b,p,j,rfl,l,c⟩:=F.ex;show Gs l c S d λA a s H vs Q E g e=>?_;obtain⟨t,h,q⟩:=hbody b A a s H vs Q E g e;show⟨t,h.nox,q⟩
theorem Fun.binds{x qual:Str}{st:Pz}{f:Ps}{fd:PL}{ps:List Str}(F:Fun K x qual st f fd)
  (h:∀(kV a d:Pn) (an:Option Ps) (b c:Pn) (e:List Pn),e.length=ps.length->bindArgs (Ni x qual (cb st) (aC st) (ab st) .none kV a d an b c) ⟨e,[]⟩=pure (ps.zip e)):Binds K fd ps []:=by
 obtain⟨l,j,kV,a,d,an,b,c,i,rfl,k,g⟩:=F.ex;show .all (h kV a d an b c)
theorem kj{x qual:Str}{st:Pz}{f:Ps}{i:Pn}{h an:Option Ps}{d:Array (Option Pn)}{kV b e a g:Pn}(l:K.lookup f=Pj ⟨i,h,.func (Ni x qual (cb st) (aC st) (ab st) .none kV b e an a g),d⟩)
  (c:NZ K a qual=Pm) (k:M8 K (.ref f)=Pm):Fun K x qual st f (Ni x qual (cb st) (aC st) (ab st) .none kV b e an a g):=⟨⟨i,h,kV,b,e,an,a,g,d,rfl,l,c⟩,k⟩
end
theorem uS{A a:Prop}(h:a):if Po=Pm then A else a:=by
 rw[if_neg Mz];show h
theorem uT{A a:Prop}(h:A):if Pm=Pm then A else a:=by
 rw[if_pos rfl];show h
def Same(H H':Hp):Prop:=∀b o,H b=Pj o->H' b=Pj o
theorem Same.refl(H:Hp):Same H H:=λ_ _ h=>h
theorem Same.trans(a:Same H H1)(b:Same H1 H2):Same H H2:=λc o h=>b c o (a c o h)
theorem Same.free{H H':Hp}(e:Same H H')(h:H' l=Option.none):H l=Option.none:=by
 cases q:H l with
 |none=>rfl
 |some o=>
  rw[e l o q] at h;cases h
end L2
namespace HT
open PyProof.Rows
section
variable {prog:Px} {w:PB} {A:PC} {E:Pn->Pt->Prop} {s:Pt}
theorem g7{t e:Ps}{a:Array Pn}{f i:Pn}{lo hi:Option Int}{Q:Pn->Pt->Prop}(b:IsTup s.heap t a)(g:s.heap.IsSliceOf e f i .none)(pl:IsPart f lo)(k:IsPart i hi)
  (h0:bZ a.size 0 lo=0) (h1:bZ a.size a.size hi=a.size) (h:Q (.ref t) s):Pv (Pw prog w) A (getItem (.ref t) (.ref e)) Q E s:=by
 obtain⟨j,c,d,l⟩:=id g;let n:s.TypeIs (.ref e) "slice":=⟨j,c,d⟩;unfold getItem
 try with_reducible show PP ?_
 first|show Pq (Pu ?_)|skip
 show Pq (wpAny_sequenceKey b.typeIs (by decide) ?_);show Pq (wpAny_callSpecial?_slot (name:=Str.ofString "__getitem__") b.typeIs PyProof.Rows.slot_tuple_getitem (PX PyProof.Rows.slot_tuple_getitem b.typeIs entry_tuple_getitem ?_ (args_tuple_getitem _ _)));change Pv _ _ (Builtin.Tuple.tupleItemsOf (.ref t) >>= _) _ _ s;show Pq (tupleItemsOf_ b ?_);show Pq (wpAny_typeOf n ?_);rw[if_pos (by decide)];show Pq (dZ g pl k ?_);rw[h0,h1]
 change Pv _ _ (if((((0:Nat):Int))==0&&(1:Int)==1&&(a.size-0)==a.size)=Pm then _ else _) _ _ s
 rw[if_pos (by simp)];show Pq (m:=Builtin.Tuple.tupleIsExact _) ?_;unfold Builtin.Tuple.tupleIsExact;show Pq (wpAny_typeOf b.typeIs (Pu ?_));rw[if_pos (by decide)]
 first
  |show Pq (wpAny_rule (Pu ⟨_,rfl,Pu h⟩))
  |show Pu ⟨_,rfl,Pu h⟩
  |show Pq (Pu (Pu ⟨_,rfl,Pu h⟩))
end
end HT
namespace L2
open PyProof.Rows
section
variable {X:Cx}
theorem zO:SlR X (λx lo hi H Q=>∃a xs,x=.ref a/\SqT X.K H a xs/\HT.bZ xs.length 0 lo=0/\HT.bZ xs.length xs.length hi=xs.length/\Q (.ref a) H):=by
 intro c s Z H x v p t lo hi o Q I j f i g h;obtain⟨a,xs,rfl,l,k,m,q⟩:=h;cases j;obtain⟨b,r,e,n⟩:=I.tuple l;let d:b.toArray.size=xs.length:=by rw[Mm];show r.length.symm
 show⟨"tuple",_,PyProof.Rows.slot_tuple_getitem.lookup,e.typeIs,HT.g7 e f i g (by rw[d];show k) (by rw[d];show m) ⟨.ref a,H,I,rfl,q⟩⟩
end
section
variable {κ:Type} [DecidableEq κ]
noncomputable def g8(kvs:List (κ×V))(k:κ):Option V:=(kvs.find? λkv=>decide (kv.1=k)).map (·.2)
noncomputable def cy(kvs:List (κ×V))(k:κ)(v:V):List (κ×V):=
 if(kvs.any λkv=>decide (kv.1=k))=Pm then kvs.map (λkv=>if kv.1=k then(kv.1,v) else kv) else kvs++[(k,v)]
theorem kl{p:κ×V}(e:p.1=k):g8 (p::r) k=Pj p.2:=by simp[g8,NB,e]
theorem km{p:κ×V}(e:¬p.1=k):g8 (p::r) k=g8 r k:=by simp[g8,NB,e]
theorem oB(k:κ):∀kvs:List (κ×V),(kvs.any λkv=>decide (kv.1=k))=(g8 kvs k).isSome
 |[]=>rfl
 |p::r=>by
  rw[OW];by_cases e:p.1=k
  ·simp only[kl e,decide_eq_true e,Bool.true_or,OZ]
  ·rw[km e,decide_eq_false e,Bool.false_or];show oB k r
theorem dE(kvs:List (κ×V))(k:κ)(v:V):(cy kvs k v).length<=kvs.length+1:=by
 unfold cy;split
 ·rw[Mh];lia
 ·rw[MF,MW,Pg];lia
theorem RelO.isSome_eq{o:Option V}{u:Option Pn}(r:RelO o u):o.isSome=u.isSome:=by
 cases o with
 |none=>cases u with
  |none=>rfl
  |some _=>show(show False from r).elim
 |some _=>cases u with
  |none=>show(show False from r).elim
  |some _=>rfl
theorem KV.val(r:KV kvs vs)(k:κ):RelO (g8 kvs k) (valueAt vs k):=by
 unfold KV at r
 induction r with
 |nil=>show True.intro
 |@cons p q i a h t g=>
  obtain⟨d,f⟩:=h;by_cases e:p.1=k
  ·let c:q.1=k:=d.symm.trans e;let b:valueAt (q::a) k=Pj q.2:=by simp[valueAt,NB,c]
   rw[kl e,b];show f
  ·let c:¬q.1=k:=λz=>e (d.trans z);let b:valueAt (q::a) k=valueAt a k:=by simp[valueAt,NB,c]
   rw[km e,b];show g
theorem KV.any{kvs:List (κ×V)}{vs:List (κ×Pn)}(r:KV kvs vs)(k:κ):(kvs.any λkv=>decide (kv.1=k))=vs.any λkv=>decide (kv.1=k):=by
 unfold KV at r
 induction r with
 |nil=>rfl
 |cons h t a=>rw[OW,OW,a,h.1]
theorem KV.repl{kvs:List (κ×V)}{vs:List (κ×Pn)}(r:KV kvs vs)(k:κ)(f:RelV y u) :
  KV (kvs.map λa=>if a.1=k then(a.1,y) else a) (vs.map λa=>if a.1=k then(a.1,u) else a):=by
 unfold KV at r⊢
 induction r with
 |nil=>show .nil
 |@cons p q g i h t d=>
  rw[Mx,Mx];show .cons ?_ d;obtain⟨b,c⟩:=h;by_cases e:p.1=k
  ·rw[if_pos e,if_pos (b.symm.trans e)];show⟨b,f⟩
  ·rw[if_neg e,if_neg (λz=>e (b.trans z))];show⟨b,c⟩
theorem KV.put(r:KV kvs vs)(k:κ)(a:RelV y u):KV (cy kvs k y) (stored vs k u):=by
 unfold cy stored;rw[r.any k];by_cases e:(vs.any λb=>decide (b.1=k))=Pm
 ·rw[if_pos e,if_pos e];show r.repl k a
 ·rw[if_neg e,if_neg e];show Paired.snoc r ⟨rfl,a⟩
theorem KV.length{kvs:List (κ×V)}{vs:List (κ×Pn)}(r:KV kvs vs):kvs.length=vs.length:=Paired.length r
end
theorem kn(r:RelV (kV k) u):(aG P w).is k u=Pm:=by
 cases k with
 |inl i=>obtain⟨t,e⟩:=(show ∃t,u=Value.int i t from r);subst e;show n8 P w i t
 |inr x=>obtain⟨t,e⟩:=(show ∃t,u=Value.str x t from r);subst e;show n9 P w x t
theorem lU:∀{ks:List aJ} {us:List Pn},Vals (ks.map kV) us->ItemsAre (aG P w) ks us
 |[],_,r=>by rw[OA] at r;cases r;show .nil
 |k::ks,_,r=>by
  rw[Mx] at r
  cases r with
  |cons h t=>show .cons (kn h) (lU t)
abbrev KT(m:Nat)(H:Hp):List (List (aJ ⊕ List aJ)×V)->List (List (aJ ⊕ List aJ)×Ps×Pn)->Prop:=Paired λp q=>p.1=q.1/\TkAt H m p.1 q.2.1/\RelV p.2 q.2.2
theorem KT.val(r:KT m H kvs xs)(k:List (aJ ⊕ List aJ)):RelO (g8 kvs k) ((atKey xs k).map (·.2)):=by
 induction r with
 |nil=>show True.intro
 |@cons p q i a h t g=>
  obtain⟨d,_,f⟩:=h;by_cases e:p.1=k
  ·let c:q.1=k:=d.symm.trans e;let b:atKey (q::a) k=Pj q.2:=by simp[atKey,NB,c]
   rw[kl e,b];show f
  ·let c:¬q.1=k:=λz=>e (d.trans z);let b:atKey (q::a) k=atKey a k:=by simp[atKey,NB,c]
   rw[km e,b];show g
theorem KT.repl{kvs:List (List (aJ ⊕ List aJ)×V)}{xs:List (List (aJ ⊕ List aJ)×Ps×Pn)}(r:KT m H kvs xs)(k:List (aJ ⊕ List aJ))(g:RelV y u) :
  KT m H (kvs.map λb=>if b.1=k then(b.1,y) else b) (xs.map (putAt k u)):=by
 induction r with
 |nil=>show .nil
 |@cons p q i j h t f=>
  rw[Mx,Mx];show .cons ?_ f;obtain⟨a,c,d⟩:=h;unfold putAt;by_cases e:p.1=k
  ·rw[if_pos e,if_pos (a.symm.trans e)];show⟨a,c,g⟩
  ·rw[if_neg e,if_neg (λz=>e (a.trans z))];show⟨a,c,d⟩
theorem KT.put{m:Nat}{H:Hp}{kvs:List (List (aJ ⊕ List aJ)×V)}{xs:List (List (aJ ⊕ List aJ)×Ps×Pn)}(r:KT m H kvs xs)(k:List (aJ ⊕ List aJ)){b:Ps}{y:V}{u:Pn}(d:TkAt H m k b)(a:RelV y u) :
  KT m H (cy kvs k y) (storedH xs k b u):=by
 let e:(kvs.any λc=>decide (c.1=k))=(atKey xs k).isSome:=by
  rw[oB,(r.val k).isSome_eq,N1]
 unfold cy storedH;rw[e];by_cases q:(atKey xs k).isSome=Pm
 ·rw[if_pos q,if_pos q];show r.repl k a
 ·rw[if_neg q,if_neg q];show Paired.snoc r ⟨rfl,d,a⟩
theorem KT.keeps{H H':Hp}(r:KT m H kvs xs)(a:∀b ys,H b=Pj (.tup ys)->H' b=Pj (.tup ys)):KT m H' kvs xs:=
 Paired.mapP r λ_ _ z=>⟨z.1,z.2.1.keep a,z.2.2⟩
section
variable {P:Px} {w:PB} {H:Hp} {h:PD} {a:Ps}
theorem BC(b:HOk P w H h)(e:Rd H a u):ObjOk P w H h a u:=e.ok b
theorem oC{kvs:List (aJ×V)}(b:HOk P w H h)(e:Rd H a (.dK kvs)):kvs.length<=sizeLine/\(a==sysModules)=Po/\∃vs,KV kvs vs/\h.DictOf (aG P w) a vs:=
 show ObjOk P w H h a (.dK kvs) from BC b e
theorem lV{kvs:List (aJ×V)}(b:HOk P w H h)(e:H a=Pj (.dK kvs)):kvs.length<=sizeLine/\(a==sysModules)=Po/\∃vs,KV kvs vs/\h.DictOf (aG P w) a vs:=oC b (.inl e)
theorem Dp{ks:List aJ}(f:HOk P w H h)(e:H a=Pj (.tup (ks.map kV))):(tupleKind (aG P w)).is h ks a:=by
 obtain⟨_,b,r,o,d,g,n,c⟩:=(show ObjOk P w H h a (.tup (ks.map kV)) from f a _ e);show⟨o,b.toArray,n,d,g,c,by simpa using lU r⟩
theorem fK{A:PC}(a:A.units+9<cLine):(bE m (aG P w)).room A.in1:=by
 change A.units+1+8<cLine
 lia
theorem ko:∀{m:Nat} {ks:List (aJ ⊕ List aJ)} {vs:List V} {us:List Pn},HOk P w H h->TkIts H m ks vs->Vals vs us->Its2 (aG P w) h m ks us
 |_,[],_,_,ok,r,v=>by cases(show _=[] from r);cases v;show .nil
 |m,.inl k::xs,_,_,ok,r,v=>by
  obtain⟨d,rfl,z,t⟩:=r
  cases v with
  |cons a c=>show .key z (kn a) (ko ok t c)
 |m,.inr ks::xs,_,_,ok,r,v=>by
  obtain⟨b,d,rfl,z,g,t⟩:=r
  cases v with
  |@cons _ u _ _ a c=>
   cases(show u=Value.ref b from a);show .tup z (Dp ok g) (ko ok t c)
theorem eD(c:HOk P w H h)(e:TkAt H m ks a):(bE m (aG P w)).is h ks a:=by
 obtain⟨j,g,r⟩:=e;obtain⟨_,b,q,o,f,i,n,d⟩:=(show ObjOk P w H h a (.tup j) from c a _ g);show⟨o,b.toArray,n,f,i,d,by simpa using ko c r q⟩
theorem oE{kvs:List (List (aJ ⊕ List aJ)×V)}(g:HOk P w H h)(e:Rd H a (.dT m ep kvs)):kvs.length<=sizeLine/\(a==sysModules)=Po/\
  ∃c,KT m H kvs c/\h.DictOfH (bE m (aG P w)) a c:=by
 obtain⟨z,y,c,r,o,k,v,j,u,s,i⟩:=(show ObjOk P w H h a (.dT m ep kvs) from BC g e);show⟨z,y,c,r,o,k,ep,v,j,u,s,λx b=>?_,i⟩
 let d:∀{l:List (List (aJ ⊕ List aJ)×V)} {n:List (List (aJ ⊕ List aJ)×Ps×Pn)},KT m H l n->∀x∈n,(bE m (aG P w)).is h x.1 x.2.1:=by
  intro l n q
  induction q with
  |nil=>intro x b;show nomatch b
  |@cons p q B C f t A=>
   intro x b;rcases Mn.mp b with e|b
   ·subst e;show eD g (by rw[<- f.1];show f.2.1)
   ·show A x b
 show d r x b
theorem wJ(b:HOk P w H h)(e:H a=Pj (.dT m ep kvs)):(a==sysModules)=Po/\∃xs o es,KT m H kvs xs/\h.get? a=Pj o/\o.ExactDict/\o.data=.dict es ep/\es.toList=xs.map (entryOfKey (bE m (aG P w))):=
 let ⟨_,y,xs,r,o,es,h1,h2,h3,h4,_⟩:=(show ObjOk P w H h a (.dT m ep kvs) from b a _ e)
 ⟨y,xs,o,es,r,h1,h2,h3,h4⟩
theorem wK{kvs:List (List (aJ ⊕ List aJ)×V)}(c:HOk P w H h)(e:H a=Pj (.dT m ep kvs)):kvs.length<=sizeLine/\(a==sysModules)=Po/\
  ∃b,KT m H kvs b/\h.DictOfH (bE m (aG P w)) a b:=oE c (.inl e)
end
def DGet(H:Hp)(a:Ps)(y:V)(r:Option V):Prop:=
 (∃kvs k,Rd H a (.dK kvs)/\y=kV k/\r=g8 kvs k)\/∃m ep kvs k b,Rd H a (.dT m ep kvs)/\y=.ref b/\TkAt H m k b/\r=g8 kvs k
def DPut(H:Hp)(a:Ps)(y v:V)(F:Nat->Hp):Prop:=
 (∃kvs k,H a=Pj (.dK kvs)/\y=kV k/\kvs.length<sizeLine/\F=λ_=>upd H a (.dK (cy kvs k v)))\/
 ∃m ep kvs k b,H a=Pj (.dT m ep kvs)/\y=.ref b/\TkAt H m k b/\kvs.length<sizeLine/\F=λe=>upd H a (.dT m e (cy kvs k v))
theorem DGet.k{H:Hp}{a:Ps}{kvs:List (aJ×V)}{k:aJ}(e:H a=Pj (.dK kvs)):DGet H a (kV k) (g8 kvs k):=.inl ⟨kvs,k,.inl e,rfl,rfl⟩
theorem DGet.t{H:Hp}{a b:Ps}{m ep:Nat}{kvs:List (List (aJ ⊕ List aJ)×V)}{k:List (aJ ⊕ List aJ)}(e:H a=Pj (.dT m ep kvs))(c:TkAt H m k b):DGet H a (.ref b) (g8 kvs k):=.inr ⟨m,ep,kvs,k,b,.inl e,rfl,c,rfl⟩
theorem DPut.k{H:Hp}{a:Ps}{kvs:List (aJ×V)}{k:aJ}{v:V}(e:H a=Pj (.dK kvs))(b:kvs.length<sizeLine):DPut H a (kV k) v λ_=>upd H a (.dK (cy kvs k v)):=.inl ⟨kvs,k,e,rfl,b,rfl⟩
theorem DPut.t{H:Hp}{a b:Ps}{m ep:Nat}{kvs:List (List (aJ ⊕ List aJ)×V)}{k:List (aJ ⊕ List aJ)}{v:V}(e:H a=Pj (.dT m ep kvs))(c:TkAt H m k b)(d:kvs.length<sizeLine) :
  DPut H a (.ref b) v λe=>upd H a (.dT m e (cy kvs k v)):=.inr ⟨m,ep,kvs,k,b,e,rfl,c,d,rfl⟩
section
variable {X:Cx} {pins:List (Ps×Obj)} {Z:St} {H:Hp} {s:Pt} {a:Ps} {y v:V} {u r:Pn} {o:Option V} {A:PC} {E:Pn->Pt->Prop}
theorem Inv.big(I:Inv X pins Z H s):sysModules<s.heap.objs.size:=by
 let h:PF<s.heap.objs.size:=(I.mod.glob.keeps I.bk).lt;show NY (by decide) h
theorem uU{Q:Pn->Pt->Prop}(x:A.units+9<cLine)(I:Inv X pins Z H s)(g:DGet H a y (Pj v))(t:RelV y u)(h:∀f s',Inv X pins Z H s'->RelV v f->Q f s') :
  Pv (Pw X.prog X.w) A (getItem (.ref a) u) Q E s:=by
 rcases g with⟨n,k,e,j,l⟩|⟨m,L,n,k,b,e,j,C,l⟩
 ·subst j;obtain⟨z,B,K,c,q⟩:=oC I.hok e;obtain⟨f,i,d⟩:=RelO.some_of (v:=v) (o:=valueAt K k) (by rw[l];show c.val k);show wpAny_getItem_of (kn t) q.mapOf i (h f _ (I.tok _) d)
 ·subst j;cases(show u=Value.ref b from t);obtain⟨z,B,F,c,q⟩:=oE I.hok e;obtain⟨f,i,d⟩:=RelO.some_of (v:=v) (o:=(atKey F k).map (·.2)) (by rw[l];show c.val k);obtain⟨p,D,r⟩:=OL.mp i;show wpAny_getItem_heap (fK x) (eD I.hok C) q D ?_;rw[r];show h f _ (I.tok _) d
theorem JS{Q:Pn->Pt->Prop}(p:A.units+9<cLine)(I:Inv X pins Z H s)(g:DGet H a y o)(n:RelV y u)(h:∀s',Inv X pins Z H s'->Q (.bool o.isSome) s') :
  Pv (Pw X.prog X.w) A (compareOp .In u (.ref a)) Q E s:=by
 rcases g with⟨i,k,e,f,l⟩|⟨m,t,i,k,b,e,f,r,l⟩
 ·subst f;obtain⟨z,d,x,c,j⟩:=oC I.hok e;show wpAny_in_of (kn n) d j.mapOf ?_;rw[<- (c.val k).isSome_eq,<- l];show h _ (I.tok _)
 ·subst f;cases(show u=Value.ref b from n);obtain⟨z,d,v,c,j⟩:=oE I.hok e;show wpAny_in_heap (fK p) (eD I.hok r) d j ?_;let q:=(c.val k).isSome_eq;rw[N1] at q;rw[<- q,<- l];show h _ (I.tok _)
theorem zP{Q:Pn->Pt->Prop}(p:A.units+9<cLine)(I:Inv X pins Z H s)(g:DGet H a y o)(n:RelV y u)(h:∀s',Inv X pins Z H s'->Q (.bool (!o.isSome)) s') :
  Pv (Pw X.prog X.w) A (compareOp .NotIn u (.ref a)) Q E s:=by
 rcases g with⟨i,k,e,f,l⟩|⟨m,t,i,k,b,e,f,r,l⟩
 ·subst f;obtain⟨z,d,x,c,j⟩:=oC I.hok e;show wpAny_notIn_of (kn n) d j.mapOf ?_;rw[<- (c.val k).isSome_eq,<- l];show h _ (I.tok _)
 ·subst f;cases(show u=Value.ref b from n);obtain⟨z,d,v,c,j⟩:=oE I.hok e;show wpAny_notIn_heap (fK p) (eD I.hok r) d j ?_;let q:=(c.val k).isSome_eq;rw[N1] at q;rw[<- q,<- l];show h _ (I.tok _)
theorem jR{h':PD}{t':Nat}(I:Inv X pins Z H s)(f:FZ (H a))(d:Heap.SameBut a s.heap h')(g:∃q,h'.get? a=Pj q)(c:ObjOk X.prog X.w (upd H a ob) h' a ob) :
  Inv X pins Z (upd H a ob) { s with heap:=h',toks:=t' }:=
 I.write (x:=a) (e:=a) f (.inl rfl) (λb q h z=>(d.2 b h).trans z) g c
theorem wL{h':PD}{kvs:List (aJ×V)}(z:kvs.length<=sizeLine)(hd:(a==sysModules)=Po)(b:KV kvs vs)(c:h'.DictOf (aG P w) a vs) :
  ObjOk P w H' h' a (.dK kvs):=⟨z,hd,vs,b,c⟩
theorem uV{F:Nat->Hp}{Q:Unit->Pt->Prop}(W:A.units+9<cLine)(I:Inv X pins Z H s)(g:DPut H a y v F)(M:RelV y u)(O:RelV v r)(h:∀e s',Inv X pins Z (F e) s'->Q () s') :
  Pv (Pw X.prog X.w) A (setItem (.ref a) u r) Q E s:=by
 rcases g with⟨d,k,e,o,l,C⟩|⟨m,K,d,k,b,e,o,N,l,C⟩
 ·subst o C;obtain⟨z,n,V,f,t⟩:=lV I.hok e;let x:V.length<=sizeLine:=by rw[<- f.length];show z
  let p:(cy d k v).length<=sizeLine:=by have:=dE d k v;lia
  show wpAny_setItem_pairs (hsz:=x) (kn M) t λD i B=>h 0 _ ?_;let S:∃q,D.get? a=Pj q:=let ⟨q,_,_,j,_⟩:=i;⟨q,j⟩;show jR I (by rw[e];show True.intro) B S (wL p n (f.put k O) i)
 ·subst o C;cases(show u=Value.ref b from M);obtain⟨z,n,xs,f,t⟩:=wK I.hok e;let x:xs.length<=sizeLine:=by rw[<- Paired.length f];show z
  let p:(cy d k v).length<=sizeLine:=by have:=dE d k v;lia
  show wpAny_setItem_heap (hsz:=x) (fK W) (eD I.hok N) t λD i B=>?_;obtain⟨q,Y,K,j,R,U,T,_,P⟩:=i;show h K _ ?_;show jR I (by rw[e];show True.intro) B ⟨q,j⟩ ⟨p,n,_,(f.put k N O).keeps λc ys L=>?_,q,Y,j,R,U,T,P⟩
  rw[ah (Bv L e (λz=>nomatch z))]
  show L
end
def GC(i:Pp):Prop:=∀B q,subscripted i Po B q=operate [B,q] (getItem B q)
theorem zQ{T id:String}(k:typeLookup (.type T) "__getitem__" = pure (Pj (.builtin id)))(g:GC slice)(h:Pv (Pw prog w) A (eval value env) (λo d=>Pv (Pw prog w) A (eval slice env) (λi b=>b.TypeIs o T/\Pv (Pw prog w) A (getItem o i) Q E b) E d) E s) :
  Pv (Pw prog w) A (eval (.Subscript value slice pos) env) Q E s:=by
 show Subscript_ (wpAny_mono h (λo d l=>wpAny_mono l (λi b c=>?_) λ_ _ x=>x) λ_ _ x=>x);obtain⟨e,c⟩:=c;unfold subscriptTail;show Pq ?_;rw[getitemInPython_of_ne e.not_modules];show Pq (wpAny_specialOf e k ?_)
 let a:Pv (Pw prog w) A (subscripted slice Po o i) (λr f=>Pv (Pw prog w) A (letTemporaryGo value o r >>= λ_=>pure r) Q E f) E b:=by
  rw[g o i];show wpAny_operating (wpAny_mono c (λr f j=>Pq (wpAny_letTemporaryGo (Pu j))) λ_ _ x=>x)
 first
  |show Pu (Pq a)
  |show Pq (Pu (Pq a))
  |show Pq a
theorem oF{s:Pt}(I:Inv X pins Z H s)(g:DGet H a y o):s.TypeIs (.ref a) "dict":=by
 rcases g with⟨c,k,e,_,_⟩|⟨m,f,c,k,b,e,_,_,_⟩
 ·obtain⟨_,_,i,_,d⟩:=oC I.hok e;show d.typeIs
 ·obtain⟨_,_,h,_,d⟩:=oE I.hok e;show d.typeIs
def GD(td ty:TE):TE:=λZ H Q=>td Z H λx H1=>ty Z H1 λy H2=>∃a v,x=.ref a/\DGet H2 a y (Pj v)/\Q v H2
def GE(td ty tv:TE):TS:=λD Z H=>tv Z H λv H1=>td Z H1 λx H2=>ty Z H2 λy q=>∃a F,x=.ref a/\DPut q a y v F/\∀e,D.nx Z (F e)
section
variable {X:Cx} {o i e value:Pp} {pos pos' tpos:Pos} {td ty tv:TE}
theorem mU(e:X.A.units+9<cLine)(f:PE X o td)(hi:PE X i ty)(j:GC i):PE X (.Subscript o i pos) (GD td ty):=by
 intro b s Z H Q I h;show zQ PySem.F.slot_dict_getitem.lookup j (a5 (f b s Z H _ I h) λu s1 ⟨x,l,t,k,n⟩=>a5 (hi b s1 Z l _ t n) λz s2 ⟨y,r,d,m,a,v,q,g,p⟩=>?_);subst q;obtain rfl:u=Value.ref a:=k;show⟨oF d g,uU e d g m λC B w c=>⟨v,r,w,c,p⟩⟩
theorem zR(m:X.A.units+9<cLine)(p:PE X o td)(hi:PE X i ty)(n:PE X value tv)(q:swapsWith value (Pj (.Subscript o i pos')) pos.line X.env=pure Po) :
  PS X (.Assign [.Subscript o i pos'] value pos) (GE td ty tv):=by
 intro b s Z H D I h;show wpAny_Assign_Subscript (a5 (n b s Z H _ I h) λr s1 ⟨v,d,j,E,w⟩=>a5 (p b s1 Z d _ j w) λu s2 ⟨x,C,K,c,z⟩=>a5 (hi b s2 Z C _ K z) λL M ⟨y,N,l,t,a,F,B,g,k⟩=>?_) q;subst B;obtain rfl:u=Value.ref a:=c;show uV m l g t E λe s4 f=>⟨Z,F e,f,k e⟩
end
theorem wM(h:PD)(a:sysModules<h.objs.size):ObjOk P w H (h.push { cls:=.type "dict",data:=.dict #[] }) h.objs.size (.dK []):=
 ⟨ML _,beq_eq_false_iff_ne.mpr (Ne.symm (Mr a)),[],.nil,Heap.DictOf.new h⟩
theorem wN(h:PD)(a:sysModules<h.objs.size):ObjOk P w H (h.push { cls:=.type "dict",data:=.dict #[] }) h.objs.size (.dT m 0 []):=
 ⟨ML _,beq_eq_false_iff_ne.mpr (Ne.symm (Mr a)),[],.nil,_,#[],Mp _ rfl,⟨rfl,rfl,rfl⟩,rfl,rfl,Oh⟩
def Dq:TE:=λ_ H Q=>∀p,H p=Pl->Q (.ref p) (upd H p (.dK []))
def Dr(m:Nat):TE:=λ_ H Q=>∀p,H p=Pl->Q (.ref p) (upd H p (.dT m 0 []))
section
variable {X:Cx} {pos:Pos}
theorem wP:PE X (.Dict [] [] pos) Dq:=λb s Z H Q I h=>
 wpAny_Dict_empty ⟨.ref s.heap.objs.size,_,I.laid (a:=s.heap.objs.size) (o:=.dK []) (t':=s.toks) (λ_ _ q=>Mf _ q) (Mi _) (wM s.heap I.big),rfl,h _ (I.hok.fresh (Mi _))⟩
theorem wQ:PE X (.Dict [] [] pos) (Dr m):=λb s Z H Q I h=>
 wpAny_Dict_empty ⟨.ref s.heap.objs.size,_,I.laid (a:=s.heap.objs.size) (o:=.dT m 0 []) (t':=s.toks) (λ_ _ q=>Mf _ q) (Mi _) (wN s.heap I.big),rfl,h _ (I.hok.fresh (Mi _))⟩
end
structure M1(X:Cx)(o:Expr)(m:Str)(apos:Pos)(e:Expr)(cpos:Pos):Prop where
 base:attributeBase o m X.env (eval o X.env)=eval o X.env
 few:((backTo cpos (Py [e] X.env)).all (λx=>!x.1)&&(backToKw cpos (keywordEach [] X.env)).all (λx=>x.1.isSome)
  && decide (([e]:List Pp).length+([]:List Keyword).length+(if([]:List Keyword).isEmpty then 0 else 1)<30))=Pm
 line:(apos.endLine==cpos.line)=Pm
 trees:backTo cpos (Py [e] X.env)=[(Po,eval e X.env)]
structure M2(X:Cx)(o:Expr)(m:Str)(apos:Pos)(e f:Expr)(cpos:Pos):Prop where
 base:attributeBase o m X.env (eval o X.env)=eval o X.env
 few:((backTo cpos (Py [e,f] X.env)).all (λx=>!x.1)&&(backToKw cpos (keywordEach [] X.env)).all (λx=>x.1.isSome)
  && decide (([e,f]:List Pp).length+([]:List Keyword).length+(if([]:List Keyword).isEmpty then 0 else 1)<30))=Pm
 line:(apos.endLine==cpos.line)=Pm
 trees:backTo cpos (Py [e,f] X.env)=[(Po,eval e X.env),(Po,eval f X.env)]
section
variable {prog:Px} {w:PB} {A:PC} {E:Pn->Pt->Prop} {s:Pt} {d it:Ps} {o:Obj} {es:Array DictEntry} {ep i:Nat}
theorem GF{Q:Pn->Pt->Prop}(hd:(d==sysModules)=Po)(b:s.heap.get? d=Pj o)(e:o.cls=.type "dict")(a:o.data=.dict es ep)
  (hQ:Q (.ref s.heap.objs.size) { s with heap:=s.heap.push { cls:=.type "dict_keyiterator",data:=.fields #[.ref d,.int 0 0,.int es.size 0,.int ep 0] } }):Pv (Pw prog w) A (pyIter (.ref d)) Q E s:=by
 let c:s.TypeIs (.ref d) "dict":=⟨o,b,e⟩;show wpAny_pyIter_slot c PySem.F.slot_dict_iter (PX PySem.F.slot_dict_iter c PySem.F.entry_dict_iter ?_ (PySem.F.args_dict_iter_1 _));unfold Builtin.«dict.__iter__» Builtin.Dict.dictSlotNone;show Pq (Pq (wpAny_notOrdered_dict c ?_));change Pv _ _ (pure (Value.ref d)) _ _ s;show Pu ?_;change Pv _ _ (Builtin.Dict.showsAll d >>= _) _ _ s;unfold Builtin.Dict.showsAll;rw[if_neg (by rw[hd];show Mz)];show Pq (Pu (Pq (wpAny_dictEntries b a (Pq (wpAny_dictEpoch b a ?_)))));show Pq (PN (Pu ⟨_,rfl,"dict_keyiterator",_,⟨_,Mp _ rfl,rfl⟩,PySem.F.slot_dict_keyiterator_next.lookup,by simpa[PZ] using hQ⟩))
theorem BD{Q:Option Pn->Pt->Prop}(u:A.handled=Pl)(n:s.heap.IsKeyIter it d i es.size ep)(l:s.heap.get? d=Pj o)(k:o.data=.dict es ep)
  (yes:∀e g,es[i]?=Pj e->g.IsKeyIter it d (i+1) es.size ep->Heap.SameBut it s.heap g->Q (Pj e.key) { s with heap:=g })
  (no:∀g,es[i]?=Pl->Heap.ExtBut it s.heap g->Q Pl { s with heap:=g }):Pv (Pw prog w) A (pyNext (.ref it)) Q E s:=by
 let c:=n.typeIs;rcases n with⟨x,p,v,h⟩;let t:=PySem.F.slot_dict_keyiterator_next;let j:Builtin.Dict_items.ownsTuple "dict_keyiterator" = Po:=by decide
 unfold pyNext;show Pq (wpAny_attempt (wpAny_callSpecial?_slot (name:=Str.ofString "__next__") c t (PX t c PySem.F.entry_dict_keyiterator_next ?_ (PySem.F.args_dict_keyiterator_next_1 _))));show Pq (Pu (Pq (Pq ?_)))
 first|show Pq (wpAny_typeNameOfWhole_keyiter c (Pu ?_))|show Pq (wpAny_typeNameOf_keyiter c (Pu ?_))
 show Pq (wpAny_fieldsOf p h ?_);simp only[j,M3,if_false]
 change Pv _ _ (if(Value.ref d==Value.none)=Pm then _ else _) _ _ s
 rw[if_neg (show ¬((Value.ref d==Value.none)=Pm) from Mz)];show Pq (Pu (Pq (wpAny_dictEntries l k ?_)));rw[if_neg (by simp)];show Pq (Pu (Pq (wpAny_dictEpoch l k ?_)));rw[if_neg (by simp)];show Pu ?_;let q:¬((i:Int)<0):=by lia
 cases e:es[i]? with
 |some r=>
  simp only[q,if_false,Nd,e];show Pq ?_
  first|show Pq (wpAny_typeNameOfWhole_keyiter c (Pu ?_))|show Pq (wpAny_typeNameOf_keyiter c (Pu ?_))
  show Pq (wpAny_isOneOf_keyiter c ?_);change Pv _ _ (setField (.ref it) 1 (PZ ((i:Int)+1)) >>= _) _ _ s;show Pq (wpAny_setField p h (by simp) ?_)
  let f:(s.heap.update it (Obj.mapFields (·.setIfInBounds 1 (PZ ((i:Int)+1))))).IsKeyIter it d (i+1) es.size ep:=
   ⟨_,NR _ p (Obj.isFreed_of_fields (Obj.data_mapFields h _)),(Obj.cls_mapFields ..).trans v,by rw[Obj.data_mapFields h];simp[PZ]⟩
  show Pq (PP (Pq (wpAny_isOneOf_keyiter (s:={ s with heap:=s.heap.update it (Obj.mapFields (·.setIfInBounds 1 (PZ ((i:Int)+1)))) }) f.typeIs ?_)));change Pv _ _ (pure r.key) _ _ _;show Pu (Pu ⟨_,rfl,Pu (yes r _ e f (Heap.SameBut.update ..))⟩)
 |none=>
  simp only[q,if_false,Nd,e];show Pq ?_
  first|show Pq (wpAny_typeNameOfWhole_keyiter c (Pu ?_))|show Pq (wpAny_typeNameOf_keyiter c (Pu ?_))
  change Pv _ _ (setField (.ref it) 0 .none >>= _) _ _ s;show Pq (wpAny_setField p h (by simp) (Pq (m:=newExc (.type "StopIteration") []) ?_));simp only[newExc,newTuple]
  show Pq (PN (Pq (m:=firstArgMember _ _) (wpAny_of_eq (a:=Value.none) (by first|rfl|(simp only[firstArgMember];rfl)) (PN ?_ (by size_fits)))) (by size_fits))
  simp only[raiseNew];show Pq (wpAny_handled ?_);rw[show A.in1.handled=Pl from u];show Pq (Pu (wpAny_throw ?_));show Pq (wpAny_isInstance (T:="StopIteration") (b:=Pm) ⟨_,Mp _ rfl,rfl⟩ isSubtype_stop ?_);show Pu (no _ e (((Heap.SameBut.update ..).extBut.push _).push _))
end
theorem Paired.get{α β:Type}{F:α->β->Prop}:∀{l:List α} {r:List β} {i:Nat} {y:β},Paired F l r->r[i]?=Pj y->∃x,l[i]?=Pj x/\F x y
 |_,_,i,_,.nil,h=>by simp at h
 |_,_,0,_,.cons q t,h=>by simp at h;subst h;show⟨_,rfl,q⟩
 |_,_,i+1,_,.cons q t,h=>by simpa using Paired.get t (by simpa using h)
noncomputable def fZ(q:List (Str×Ps)):List (Str×PQ)->List (Str×Ps)->List (Str×Ps)
 |[],acc=>acc
 |(n,k)::r,acc=>fZ q r (if k=.free then(match q.lookup n with|some c=>(n,c)::acc|none=>acc) else acc)
theorem d6{a:List (Str×Ps)}:∀{b:List (Str×PQ)} {f:List (Str×Ps)},(∀x c,f.lookup x=Pj c->a.lookup x=Pj c)->
  ∀x c,(fZ a b f).lookup x=Pj c->a.lookup x=Pj c
 |[],_,h=>h
 |(n,k)::r,f,h=>by
  unfold fZ;show d6 λx c=>?_;split
  ·cases e:a.lookup n with
   |none=>show h x c
   |some d=>
    dsimp only;intro q;rw[MA] at q
    cases g:x==n with
    |true=>
     rw[g] at q;have:x=n:=by simpa using g
     subst this;cases q;show e
    |false=>
     rw[g] at q;show h x c q
  ·show h x c
theorem lW:∀{b:List (Str×PQ)} {a:List (Str×Ps)} {x:Str},(∃c,a.lookup x=Pj c)->∃c,(fZ cells b a).lookup x=Pj c
 |[],_,_,h=>h
 |(n,k)::r,a,x,h=>by
  unfold fZ;show lW ?_;split
  ·cases e:cells.lookup n with
   |none=>show h
   |some d=>
    dsimp only;rw[MA]
    cases x==n with
    |true=>show⟨d,rfl⟩
    |false=>show h
  ·show h
theorem kq{a:List (Str×Ps)}:∀{b:List (Str×PQ)} {d:List (Str×Ps)} {x:Str},(x,NameKind.free)∈b->(∃c,a.lookup x=Pj c)->∃c,(fZ a b d).lookup x=Pj c
 |(n,k)::r,d,x,h,f=>by
  unfold fZ;rcases Mn.mp h with e|h
  ·cases e;obtain⟨c,f⟩:=f;show lW ⟨c,?_⟩;rw[if_pos rfl,f];simp
  ·show kq h f
theorem gg{scope:PH}{env:Env}(h:∀y∈scope.names,y.2=.free->∃c,env.cells.lookup y.1=Pj c):closureFor scope env=pure (fZ env.cells scope.names []):=by
 let i:∀(b:List (Str×PQ)) (d:List (Str×Ps)),(∀y∈b,y.2=.free->∃c,env.cells.lookup y.1=Pj c)->
   (forIn b d λ(x:Str×PQ) (r:List (Str×Ps))=>(match x with|(name,kind)=>if(kind==.free)=Pm then do let a <- cellOf env name;pure (ForInStep.yield ((name,a)::r)) else pure (ForInStep.yield r):Sem (ForInStep (List (Str×Ps)))))=pure (fZ env.cells b d):=by
  intro b
  induction b with
  |nil=>intro d _;rfl
  |cons y r l=>
   intro d g;obtain⟨n,k⟩:=y;rw[List.forIn_cons];dsimp only;by_cases hk:k=.free
   ·obtain⟨c,o⟩:=g (n,k) MD hk;subst hk;let e:cellOf env n=pure c:=by unfold cellOf;rw[o]
    rw[e];simp only[beq_self_eq_true,if_true,pure_bind];rw[l _ λy j=>g y (Mt _ j)]
    conv=>rhs;unfold fZ
    rw[if_pos rfl];let f:env.cells.lookup n=Pj c:=o;rw[f]
   ·let e:(k==NameKind.free)=Po:=by simpa using hk
    rw[e];simp only[M3,if_false,pure_bind];rw[l _ λy j=>g y (Mt _ j)]
    conv=>rhs;unfold fZ
    rw[if_neg hk]
 unfold closureFor;show(congrArg (λm=>m >>= λr=>pure r) (i scope.names [] h)).trans (by simp)
theorem cu:∀(b:List (Str×PQ)) (n:Nat) (a:List (Str×Ps)),PK n b a=PK n b []++a
 |[],n,a=>rfl
 |(x,k)::r,n,a=>by
  unfold PK;split
  ·rw[cu r (n+1) ((x,n)::a),cu r (n+1) [(x,n)],MX];rfl
  ·show cu r n a
theorem wR{x:Str}{c:Ps}:∀{a:List (Str×PQ)} {n:Nat} {d:List (Str×Ps)},(PK n a d).lookup x=Pj c->((x,NameKind.cell)∈a/\n<=c)\/d.lookup x=Pj c
 |[],_,_,h=>.inr h
 |(y,k)::r,n,d,h=>by
  unfold PK at h;split at h
  ·ext hk;let hk:k=.cell:=by simpa using hk
   subst hk;rcases wR h with⟨b,e⟩|b
   ·show .inl ⟨Mt _ b,Ou e⟩
   ·rw[MA] at b
    cases f:x==y with
    |true=>
     rw[f] at b;have:x=y:=by simpa using f
     subst this;cases b;show .inl ⟨MD,Mi _⟩
    |false=>rw[f] at b;show .inr b
  ·rcases wR h with⟨b,e⟩|b
   ·show .inl ⟨Mt _ b,e⟩
   ·show .inr b
theorem qI:∀{a:List (Str×PQ)} {n:Nat} {b:List (Str×Ps)},(x,NameKind.cell)∉a->(PK n a b).lookup x=b.lookup x
 |[],_,_,_=>rfl
 |(y,k)::r,n,b,h=>by
  unfold PK;let c:(x,NameKind.cell)∉r:=λz=>h (Mt _ z);split
  ·ext hk;let hk:k=.cell:=by simpa using hk
   subst hk;rw[qI c,MA]
   have:(x==y)=Po:=by
    have:x≠y:=λz=>h (by rw[z];show MD);simpa using this
   rw[this]
  ·show qI c
theorem mV{x:Str}:∀{a:List (Str×PQ)} {n:Nat} {b:List (Str×Ps)},((x,NameKind.cell)∈a\/∃c,b.lookup x=Pj c)->∃c,(PK n a b).lookup x=Pj c
 |[],_,_,h=>by
  rcases h with h|h
  ·simp at h
  ·show h
 |(y,k)::r,n,b,h=>by
  unfold PK;split
  ·ext hk;let hk:k=.cell:=by simpa using hk
   subst hk;show mV ?_;by_cases d:x=y
   ·subst d;show .inr ⟨n,by rw[MA];simp⟩
   ·let e:(x==y)=Po:=by simpa using d
    rcases h with h|h
    ·rcases Mn.mp h with z|z
     ·show absurd (by cases z;rfl) d
     ·show .inl z
    ·show .inr (by rw[MA,e];show h)
  ·ext hk;show mV ?_;rcases h with h|h
   ·rcases Mn.mp h with z|z
    ·show absurd (by cases z;rfl) hk
    ·show .inl z
   ·show .inr h
theorem qJ{x:Str}{m:Nat}:∀{a:List (Str×PQ)} {n:Nat} {b:List (Str×Ps)},((x,NameKind.cell)∈a\/∀c,b.lookup x=Pj c->m<=c)->m<=n->∀c,(PK n a b).lookup x=Pj c->m<=c
 |[],_,_,h,_,c,e=>by
  rcases h with h|h
  ·simp at h
  ·show h c e
 |(y,k)::r,n,b,h,hm,c,e=>by
  unfold PK at e;split at e
  ·ext hk;let hk:k=.cell:=by simpa using hk
   subst hk;show qJ ?_ (Ov hm) c e;by_cases d:x=y
   ·subst d;show .inr λc e=>?_;rw[MA] at e;simp at e;show e▸hm
   ·let e2:(x==y)=Po:=by simpa using d
    rcases h with h|h
    ·rcases Mn.mp h with z|z
     ·show absurd (by cases z;rfl) d
     ·show .inl z
    ·show .inr (by intro c e;rw[MA,e2] at e;show h c e)
  ·ext hk;show qJ ?_ hm c e;rcases h with h|h
   ·rcases Mn.mp h with z|z
    ·show absurd (by cases z;rfl) hk
    ·show .inl z
   ·show .inr h
theorem qK:∀{b:List (Str×PQ)} {n:Nat} {a:List (Str×Ps)},(∀x c,a.lookup x=Pj c->c<n)->(∀x y c,a.lookup x=Pj c->a.lookup y=Pj c->x=y)->∀x y c,(PK n b a).lookup x=Pj c->(PK n b a).lookup y=Pj c->x=y
 |[],_,_,_,h=>h
 |(z,k)::r,n,a,hb,h=>by
  unfold PK;split
  ·show qK (λx c e=>?_) λx y c e1 e2=>?_
   ·rw[MA] at e
    cases d:x==z with
    |true=>rw[d] at e;cases e;show Nw _
    |false=>rw[d] at e;show NP (hb x c e)
   ·rw[MA] at e1 e2
    cases d:x==z with
    |true=>
     rw[d] at e1;cases e1
     cases f:y==z with
     |true=>rw[(by simpa using d:x=z),(by simpa using f:y=z)]
     |false=>rw[f] at e2;show absurd (hb y _ e2) (Nl _)
    |false=>
     rw[d] at e1
     cases f:y==z with
     |true=>rw[f] at e2;cases e2;show absurd (hb x _ e1) (Nl _)
     |false=>rw[f] at e2;show h x y c e1 e2
  ·show qK hb h
def Ds(B:List (Str×Ps))(q:List (Str×PQ))(C:Ps):List (Str×Ps):=PK (C+1) q (fZ B q [])
theorem wS{a:List (Str×Ps)}{C:Ps}{x:Str}(h:(Ds a names C).lookup x=Pj c):C+1<=c\/a.lookup x=Pj c:=by
 rcases wR h with h|h
 ·show .inl h.2
 ·show .inr (d6 (λ_ _ z=>by cases z) x c h)
theorem gh{s:Pt}{scope:PH}{Q:Env->Pt->Prop}(e:Q (newEnv scope s.heap.objs.size globals (PK (s.heap.objs.size+1) scope.names cl) qual Pl .none (Pj outer) builtinsNs) { s with heap:=pushCells (s.heap.push { cls:=.type "dict",data:=.dict #[] }) scope.names }) :
  Pv M A (newFunctionEnv scope globals cl [] qual Pl .none (Pj outer)) Q E s:=by
 simp only[newFunctionEnv,OZ,if_true];show Pq (wpAny_alloc ?_)
 show Pq (wpAny_layCells _ (λd a c=>by cases b:a==NameKind.cell<;>simp[b]) _ _ _ _ ?_)
 rw[show({ s with heap:=s.heap.push { cls:=.type "dict",data:=.dict #[] } }:Pt).heap.objs.size=s.heap.objs.size+1 from Nu ..];rw[List.forIn_nil];show Pq (Pu (Pu e))
def aj(X:Cx)(N':List Str)(scope:PH)(C:Ps)(s:Pt)(H:Hp)(ex:List Ps):Cx where
 prog:=X.prog
 w:=X.w
 K:=X.K
 mg:=X.mg
 base:=X.base
 A:=X.A
 N:=N'
 s₀:=s
 H₀:=H
 env:=compEnvC scope (Ds X.env.cells scope.names C) C X.env
 outer:=X.stack
 stack:=X.stack
 ex:=ex
 fn:=λx=>scope.names.lookup x==Pj .cell
 calm:=X.calm
 pn:=[]
 xe:=λ_ _=>False
theorem bW{α β:Type}[BEq α][LawfulBEq α]:∀{l:List (α×β)} {x:α} {y:β},l.lookup x=Pj y->(x,y)∈l
 |(a,b)::r,x,y,h=>by
  rw[MA] at h
  cases e:x==a with
  |true=>
   rw[e] at h;have:x=a:=by simpa using e
   subst this;cases h;show MD
  |false=>
   rw[e] at h;show Mt _ (bW h)
theorem kr{scope:PH}{x:Str}(h:(relabel scope env).names.lookup x=Pj .cell\/(relabel scope env).names.lookup x=Pj .free):(x,NameKind.cell)∈scope.names\/(x,NameKind.free)∈scope.names:=by
 let a:∀k,(k=NameKind.cell\/k=NameKind.free)->(x,k)∈(relabel scope env).names->(x,NameKind.cell)∈scope.names\/(x,NameKind.free)∈scope.names:=λk hk d=>by
  obtain⟨⟨n,c⟩,b,e⟩:=Na.mp d;dsimp only at e;split at e
  ·ext q
   have:c=NameKind.free:=by
    simp only[Me,beq_iff_eq] at q;show q.1.1
   subst this;cases e;show .inr b
  ·cases e;rcases hk with rfl|rfl
   ·show .inl b
   ·show .inr b
 rcases h with h|h
 ·show a _ (.inl rfl) (bW h)
 ·show a _ (.inr rfl) (bW h)
section
variable {X:Cx} {pins:List (Ps×Obj)} {Z:St} {H:Hp} {s:Pt}
theorem wU(I:Inv X pins Z H s){n:List Ps}{scope:PH}(l:∀b∈n,iP X pins H b)(i:∀b∈n,b<s.heap.objs.size)(a:scope.kind=.function)(j:s.heap.objs.size<=C)(d:∀y∈scope.names,y.2=.free->X.env.kindOf y.1=Pj .cell\/X.env.kindOf y.1=Pj .free):(aj X N' scope C s H n).Ok where
 mod:=I.ok.mod
 kind:=a
 glob:=I.ok.glob
 blt:=I.ok.blt
 above:=j
 inj:=qK (λx c h=>by
   obtain⟨v,o,g,_⟩:=I.cell x c (d6 (λ_ _ z=>by cases z) x c h);show NP (Mo (Ml g) j)) λx y c p k=>I.ok.inj x y c (d6 (λ_ _ z=>by cases z) x c p) (d6 (λ_ _ z=>by cases z) y c k)
 has:=λx r=>by
  rcases kr r with m|m
  ·show mV (.inl m)
  ·show mV (.inr (kq m (I.ok.has x (d _ m rfl))))
 cab:=λx c h e=>by
  let h:scope.names.lookup x=Pj .cell:=by simpa[aj] using h
  show MP j (Ou (qJ (.inl (bW h)) (Mi _) c e))
 hd:=I.ok.hd
 frames:=I.ok.frames
 stk:=.inl rfl
 exf:=λb f=>⟨Mr (Mo (i b f) j),λx c h=>by
  rcases wS h with h|h
  ·show Nn (Mo (NP (Mo (i b f) j)) h)
  ·show(l b f).2.2.2.2.1 x c h⟩
 bs:=I.bs
 bsz:=MP I.ok.bsz I.sz
 noex:=λb o e f=>by
  obtain⟨_,_,_,h,_⟩:=l b f;rcases h with h|h
  ·show I.ok.noex b o e h
  ·show absurd (Mo (Ml e) (MP I.ok.bsz h)) (Nl _)
 exfs:=λb f q=>by
  obtain⟨_,p,k,_⟩:=l b f;rcases Mn.mp (I.stkSub b q) with e|e
  ·show p e
  ·show k e
 funs:=I.stack
 frf:=I.stkFree
noncomputable def cz(Z:St)(cap:List (Option Nat)):St:=cap.map λo=>o.bind λi=>(Z[i]?).join
structure eW(X:Cx)(N':List Str)(scope:Scope)(cap:List (Option Nat)):Prop where
 kind:scope.kind=.function
 cell:∀y∈scope.names,y.2=.cell->scope.names.lookup y.1=Pj .cell
 names:∀y∈scope.names,y.2=.local->scope.names.lookup y.1=Pj .local
 free:∀y∈scope.names,y.2=.free->X.env.kindOf y.1=Pj .cell\/X.env.kindOf y.1=Pj .free
 len:cap.length=N'.length
 cap:∀(j i:Nat) (x:Str),N'[j]?=Pj x->cap[j]?=Pj (Pj i)->X.N[i]?=Pj x/\scope.names.lookup x=Pj .free/\(X.env.kindOf x=Pj .cell\/X.env.kindOf x=Pj .free)
theorem g9{scope:PH}{env:Env}{x:Str}:∀{a:List (Str×PQ)},a.lookup x=Pj .free->
  (a.map λ(n,k)=>if(k==NameKind.free&&env.scope.kind==.function&&env.kindOf n==Pj .cell) then(n,NameKind.cell) else(n,k)).lookup x=Pj .cell\/
  (a.map λ(n,k)=>if(k==NameKind.free&&env.scope.kind==.function&&env.kindOf n==Pj .cell) then(n,NameKind.cell) else(n,k)).lookup x=Pj .free
 |(n,k)::r,h=>by
  let d:=@g9 scope env x r
  change Nm x ((if(k==NameKind.free&&env.scope.kind==.function&&env.kindOf n==Pj .cell)=Pm then(n,NameKind.cell) else(n,k))::_)=_\/Nm x ((if(k==NameKind.free&&env.scope.kind==.function&&env.kindOf n==Pj .cell)=Pm then(n,NameKind.cell) else(n,k))::_)=_
  cases b:x==n with
  |true=>
   simp only[MA,b] at h;cases h;by_cases c:(NameKind.free==NameKind.free&&env.scope.kind==.function&&env.kindOf n==Pj .cell)=Pm
   ·rw[if_pos c];left;simp only[MA,b]
   ·rw[if_neg c];right;simp only[MA,b]
  |false=>
   simp only[MA,b] at h;by_cases c:(k==NameKind.free&&env.scope.kind==.function&&env.kindOf n==Pj .cell)=Pm
   ·rw[if_pos c];simp only[MA,b];show d h
   ·rw[if_neg c];simp only[MA,b];show d h
theorem oG(I:Inv X pins Z H s){K:List Ps}{scope:PH}{C D:Ps}{r:PD}{tk:Nat}(O:eW X N' scope cap)(hf:∀b∈K,iP X pins H b)(S:∀b∈K,b<s.heap.objs.size)(U:s.heap.objs.size<=C)(F:s.heap.objs.size<=D)(n:D<C)(Q:∀x c,(PK (C+1) scope.names []).lookup x=Pj c->r.IsCell c Pl)(hn:r.Ns C m)(g:∀b o,s.heap.get? b=Pj o->r.get? b=Pj o){o:HO}(M:ObjOk X.prog X.w (upd H D o) r D o) :
  Inv (aj X N' scope C s H K) [] (cz Z cap) (upd H D o) { s with heap:=r,toks:=tk }:=by
 let A:∀x c,(fZ X.env.cells scope.names []).lookup x=Pj c->X.env.cells.lookup x=Pj c:=d6 (λ_ _ z=>by cases z)
 let t:∀x,scope.names.lookup x=Pj .free->(Ds X.env.cells scope.names C).lookup x=(fZ X.env.cells scope.names []).lookup x:=λx h=>qI λz=>by
  have:=O.cell _ z rfl;rw[h] at this;cases this
 show⟨wU I hf S O.kind U O.free,rfl,I.bare,Un.laid g F (I.hok.fresh F),⟨m,hn,λj x v h1 h2 h3=>?_⟩,λx c e=>?_,?_,λx c e=>?_,λp hp=>absurd hp (by simp[aj]),I.hok.laid g F M,?_⟩
 ·let a:(cz Z cap)[j]?=Pj (Pj v):=h2;unfold cz at a;rw[Mj] at a
  cases R:cap[j]? with
  |none=>rw[R] at a;cases a
  |some o=>
   rw[R] at a
   cases o with
   |none=>cases a
   |some i=>
    let L:(Z[i]?).join=Pj v:=by simpa using a
    let P:Z[i]?=Pj (Pj v):=by
     cases q:Z[i]? with
     |none=>rw[q] at L;cases L
     |some z=>rw[q] at L;have:z=Pj v:=L;rw[this]
    obtain⟨c1,T,W⟩:=O.cap j i x h1 R;obtain⟨mo,ha,hl⟩:=I.loc;let N:F5 X.env.scope x:=W.elim (λz=>.inr (.inl z)) λz=>.inr (.inr z);obtain⟨u,ru,l⟩:=hl i x v c1 P N;show⟨u,ru,?_⟩;rcases l with⟨k,_⟩|⟨_,c,V,ic⟩
    ·rcases W with z|z
     ·rw[z] at k;cases k
     ·rw[z] at k;cases k
    ·obtain⟨Y,B⟩:=kq (bW T) ⟨c,V⟩;let e2:=A x Y B;rw[V] at e2;cases e2;obtain⟨E,d,f⟩:=ic;show .inr ⟨g9 (scope:=scope) T,c,(t x T).trans B,E,g _ _ d,f⟩
 ·let e:(Ds X.env.cells scope.names C).lookup x=Pj c:=e;unfold Ds at e;rw[cu,List.lookup_append] at e
  cases q:(PK (C+1) scope.names []).lookup x with
  |some Y=>
   rw[q] at e;cases e;show⟨Pl,Q x _ q⟩
  |none=>
   rw[q] at e;obtain⟨v,E,d,f⟩:=I.cell x c (A x c e);show⟨v,E,g _ _ d,f⟩
 ·rw[show(aj X N' scope C s H K).env.locals=C from rfl,ah (Ne.symm (Mr n))];show I.hok.fresh U
 ·rcases wS e with y|y
  ·rw[ah (Nn (NY n y))];show I.hok.fresh (MP U (Ou y))
  ·obtain⟨v,E,d,f⟩:=I.cell x c y;rw[ah (Mr (Mo (Ml d) F))];show I.freeC x c y
 ·change(cz Z cap).length=N'.length;unfold cz;rw[Mh,O.len]
theorem hG(I:Inv X pins Z H s){j:List Ps}{s':Pt}(m:∀b∈j,iP X pins H b)(J:Inv (aj X N' scope C s H j) [] Z' H' s')(a:Heap.SameBut C s'.heap h') :
  Inv X pins Z H' { s' with heap:=h' }:=by
 let x:s.heap.objs.size<=C:=J.ok.above;let f:∀b o,s.heap.get? b=Pj o->b≠C:=λb o e=>Mr (Mo (Ml e) x);let d:Un (vW X.stack) j H H' s.heap s'.heap:=J.base;show I.call' (J.os) ⟨λb o e n h g=>?_,λb o e n h g=>?_,d.free,λb o e g=>?_,d.tups,d.frzs,d.tbls⟩ (λb o e=>?_) J.bare λb p=>?_
 ·show(a.2 b (f b o e)).trans (d.keep b o e n h g)
 ·obtain⟨r,q⟩:=d.slot b o e n h g;show⟨r,(a.2 b (f b o e)).trans q⟩
 ·obtain⟨w,q⟩:=d.there b o e g;show⟨w,(a.2 b (f b o e)).trans q⟩
 ·let k:H' C=Pl:=J.free;show(J.hok b o e).stay (λc v i q=>(a.2 c ?_).trans q) (λ_ q=>q) λ_ _ q=>q
  rintro rfl
  rcases i with rfl|i
  ·rw[k] at e;cases e
  ·rw[k] at i;cases i
 ·obtain⟨y,h,g,u,t,l⟩:=m b p;show⟨u,h,t,l⟩
theorem mW{R:Result->Pt->Prop}{s:Pt}(I:Nat->Pt->Prop)(b:∀n s,I n s->Pv (Pw prog w) A (pyNext it) (λr f=>match r with
   |none=>R (.ok .next) f
   |some v=>Pv (Pw prog w) A (letOwnedTupleGo target it v) (λ_ d=>Pv (Pw prog w) A (assign target env v) (λ_ j=>
     Pv (Pw prog w) A (forIn ifs Pm λc r=>if r=Pm then do let e <- isTrue c env (eval c env);pure (ForInStep.yield e) else pure (ForInStep.yield r)) (λe i=>
      if e=Pm then Pv (Pw prog w) A (eval elt env) (λx p=>
       Pv (Pw prog w) A (call (.builtin "list.append") [acc,x]) (λ_ o=>∃m,m<n/\I m o) (λ_ _=>False) p) (λ_ _=>False) i
      else ∃m,m<n/\I m i) (λ_ _=>False) j) (λ_ _=>False) d) (λ_ _=>False) f) (λ_ _=>False) s)(n:Nat)(h:I n s) :
  codeAny (Pw prog w) A (.compLoop (.ListComp elt [⟨target,iter,ifs,0⟩] scope pos) 0 it acc env) R s:=by
 show codeAny_loop rfl I (λn s t=>?_) n h;show wpAny_noted ?_;rw[compTurn_list];show Pq (wpAny_standAt (Pq (wpAny_mono (b n s t) (λr f l=>?_) λ_ _ a=>a.elim)))
 cases r with
 |none=>show Pu l
 |some v=>
  show Pq (wpAny_mono l (λ_ d g=>?_) λ_ _ a=>a.elim);show Pq (wpAny_mono g (λ_ j q=>Pq (wpAny_mono q (λe i k=>?_) λ_ _ a=>a.elim)) λ_ _ a=>a.elim)
  cases e with
  |false=>show Pu ⟨rfl,k⟩
  |true=>
   show Pq (Pq (wpAny_mono k (λx p u=>Pq (wpAny_mono u (λ_ o y=>Pu (Pu ⟨rfl,y⟩)) λ_ _ a=>a.elim)) λ_ _ a=>a.elim))
end
section
variable {X:Cx} {pins:List (Ps×Obj)} {Z:List (Option V)} {H:Hp} {s:Pt} {h':PD}
theorem Inv.junk(I:Inv X pins Z H s)(f:Heap.SameBut C s.heap h')(E:X.s₀.heap.objs.size<=C)(O:X.env.locals≠C)(u:∀x c,X.env.cells.lookup x=Pj c->c≠C)(M:∀p∈X.pn++pins,p.1≠C)(w:H C=Pl):Inv X pins Z H { s with heap:=h' }:=by
 let t:∀b o,X.s₀.heap.get? b=Pj o->b≠C:=λb o e=>Mr (Mo (Ml e) E);obtain⟨m,B,D⟩:=id I.loc;show⟨I.ok,I.os,I.bare,⟨λb o e n l h=>?_,λb o e n l h=>?_,I.base.free,λb o e h=>?_,I.base.tups,I.base.frzs,I.base.tbls⟩,⟨m,B.sameBut f O,λj y N e1 e2 e3=>?_⟩,λy c e=>?_,I.free,I.freeC,λp i=>?_,λb F e=>?_,I.len⟩
 ·show(f.2 b (t b o e)).trans (I.base.keep b o e n l h)
 ·obtain⟨K,e1⟩:=I.base.slot b o e n l h;show⟨K,(f.2 b (t b o e)).trans e1⟩
 ·obtain⟨P,e1⟩:=I.base.there b o e h;show⟨P,(f.2 b (t b o e)).trans e1⟩
 ·obtain⟨A,L,q⟩:=D j y N e1 e2 e3;show⟨A,L,?_⟩;rcases q with⟨k,e⟩|⟨k,c,e,z⟩
  ·show .inl ⟨k,e⟩
  ·show .inr ⟨k,c,e,?_⟩;obtain⟨o,g,d⟩:=z;show⟨o,(f.2 c (u y c e)).trans g,d⟩
 ·obtain⟨v,o,g,d⟩:=I.cell y c e;show⟨v,o,(f.2 c (u y c e)).trans g,d⟩
 ·obtain⟨g,r⟩:=I.pin p i;show⟨(f.2 _ (M p i)).trans g,r⟩
 ·show(I.hok b F e).stay (λc Q a q=>(f.2 c ?_).trans q) (λ_ q=>q) λ_ _ q=>q
  rintro rfl
  rcases a with rfl|a
  ·rw[w] at e;cases e
  ·rw[w] at a;cases a
def JT(K:Md)(n:Nat)(t:wc):TG:=λv Z H Q=>∃a xs,v=.ref a/\SqL K H a xs/\xs.length=n/\t xs Z H Q
theorem Dt(z:X.calm=Pm)(h:CS X es t)(l:(PM es X.env).length=n)(f:(PM es X.env).findIdx? (·.1)=Pl):PG X (.Tuple es k pos) (JT X.K n t):=by
 intro c s Z H v u Q I r d;obtain⟨a,x,e1,w,p,d⟩:=d;subst e1;cases r;obtain⟨g,i,q,A⟩:=I.list w;rw[assign_Tuple];show Pq (wpAny_standAt ?_);unfold unpack;rw[f,show(PM es X.env).length=g.toArray.size by rw[l,<- p,i.length,Mm]];show Pq (PP (PySem.W.kun_itemsOf (I.ok.hd z) q.isList λj m=>?_));let y:Inv X c Z H { s with heap:=j }:=I.kept λb o e=>m b o (Mr (Ml e)) e;show h c _ Z H x _ Q y (by simpa using i) d
end
end L2
open L2
namespace G
open PyProof.Rows
inductive D where
 |non|bl (b:Bool)|int (i:Int)|str (x:Str)|lst (xs:List D)|tup (xs:List D)|scr (ns:List Int)|dic (ks:List aJ) (vs:List D)
def GH(K:Md)(a:Ps)(xs:List V):Prop:=
 ∃(o:Obj) (q:Array Pn) (n:Nat),K.lookup a=Pj o/\o.cls=.type "list"/\o.dict=Pl/\o.data=.seq q n/\q.size<=sizeLine/\Vals xs q.toList
mutual
def Rp(K:Md)(H:Hp)(S:List Ps):D->V->Prop
 |.non,v=>v=.non
 |.bl b,v=>v=.bl b
 |.int i,v=>v=.int i
 |.str x,v=>v=.str x
 |.lst ds,v=>∃a xs,v=.ref a/\a∉S/\H a=Pj (.lst xs)/\RpL K H S ds xs
 |.tup ds,v=>∃a xs,v=.ref a/\a∉S/\H a=Pj (.tup xs)/\RpL K H S ds xs
 |.scr ns,v=>∃a,v=.ref a/\((a∉S/\Rd H a (.lst (ns.map V.int)))\/GH K a (ns.map V.int))
 |.dic ks vs,v=>∃a kvs,v=.ref a/\a∉S/\H a=Pj (.dK kvs)/\kvs.map (·.1)=ks/\RpL K H S vs (kvs.map (·.2))
def RpL(K:Md)(H:Hp)(S:List Ps):List D->List V->Prop
 |[],xs=>xs=[]
 |d::ds,xs=>∃y ys,xs=y::ys/\Rp K H S d y/\RpL K H S ds ys
end
inductive Kd where
 |sh|fr|bo
 deriving DecidableEq
def VR(K:Md)(H0 H:Hp)(S:List Ps):Kd->D->V->Prop
 |.sh,d,v=>Rp K H S d v
 |.fr,.lst ds,v=>∃a xs,v=.ref a/\H0 a=Pl/\H a=Pj (.lst xs)/\RpL K H (a::S) ds xs
 |.bo,.lst ds,v=>∃a xs,v=.ref a/\H a=Pj (.lst xs)/\RpL K H S ds xs
 |_,_,_=>False
def Jc(K:Md)(a:Ps):It:=
 ⟨λi H=>∃xs x,SqL K H a xs/\xs[i]?=Pj x,λi H x H'=>∃p v,H p=Pl/\H'=upd H p (.tup [.int i,v])/\x=.ref p/\∀xs,SqL K H a xs->xs[i]?=Pj v,λi H=>∃xs,SqL K H a xs/\xs.length<=i⟩
theorem uW{P:Px}{w:PB}{K:Md}{es:List Pp}{kk:Nat}{tp:Pos}(a e it:Ps)(Q:e≠it):ql P w K (.Tuple es kk tp) (Jc K a) [e,it] e (λi h=>(∃j,IsEnum h e it ((i:Nat):Int) j)/\h.IsListIter it a i) where
 mem:=by simp
 obj:=λi h t b g=>by
  obtain⟨⟨j,O⟩,o,A,h3,h4⟩:=t;rcases Mn.mp g with rfl|g
  ·show⟨_,O,λv z=>by
    let z':Data.fields _=Data.cell v:=z;cases z'⟩
  ·have:b=it:=by simpa using g
   subst this;show⟨o,A,λv z=>by rw[h4] at z;cases z⟩
 keep:=λi h h' t k=>by
  obtain⟨⟨j,O⟩,A⟩:=t;show⟨⟨j,k e (by simp) _ O⟩,A.at λo q=>k it (by simp) o q⟩
 item:=by
  intro X hP hw hK hc i C s Z H E I M t hg;subst hP hw hK;obtain⟨⟨j,T⟩,B⟩:=t;obtain⟨xs,x,U,hx⟩:=hg;obtain⟨hh,rv,p,hz⟩:=I.list U;obtain⟨u,hu,ru⟩:=rv.get hx;obtain⟨f0,V,f2,f3,f4,f5⟩:=M e (by simp);obtain⟨g0,g1,g2,g3,g4,g5⟩:=M it (by simp);let S:=Ml T;show wpAny_pyNext_enum_item T B p.isList (by simpa using hu) Q λO ho N ht hr hj=>?_;show⟨_,rfl,wpAny_letOwnedTupleGo_enum ho λA ha Y=>?_⟩;let r:Heap.SameBut e O A:=Y;let d:∀b o,b≠e->b≠it->s.heap.get? b=Pj o->A.get? b=Pj o:=λb o n1 n2 q=>(r.2 b n1).trans (hj b o n1 n2 q);let F:=I.hok.fresh (Mi s.heap.objs.size);let L:A.get? s.heap.objs.size=Pj { cls:=.type "tuple",data:=.seq #[.int i s.toks,u] }:=(r.2 _ (Nn S)).trans ht
  let I1:Inv X C Z (upd H s.heap.objs.size (.tup [.int i,x])) { s with heap:=A,toks:=s.toks+1 }:=by
   let y:∀b o,H b=Pj o->b≠e/\b≠it:=λb o q=>⟨(λz=>by rw[z,f0] at q;cases q),(λz=>by rw[z,g0] at q;cases q)⟩
   let R:HOk X.prog X.w (upd H s.heap.objs.size (.tup [.int i,x])) A:=λb o q=>by
    by_cases g:b=s.heap.objs.size
    ·subst g;rw[ak] at q;cases q;show⟨(by change 2<=sizeLine;decide),[.int i s.toks,u],.cons ⟨_,rfl⟩ (.cons ru .nil),_,L,rfl,_,rfl⟩
    ·rw[ah g] at q;show(I.hok b o q).stay (λc v l D=>d c v ?_ ?_ D) (λc D=>by rw[ah (aB D F)];show D) λc ys D=>by rw[ah (aB D F)];show D
     ·rcases l with rfl|l
      ·show(y _ _ q).1
      ·show(y _ _ l).1
     ·rcases l with rfl|l
      ·show(y _ _ q).2
      ·show(y _ _ l).2
   show I.step (ch:=[e,it]) (λb g=>?_) (λb o _ _ f q _=>d b o (λz=>f (by simp[z])) (λz=>f (by simp[z])) q)
    (λb o _ _ f q _=>⟨o.slots,d b o (λz=>f (by simp[z])) (λz=>f (by simp[z])) q⟩) (λb o f q n=>by rw[ah (Mr (Ml q))];show n)
    (λb o f q=>⟨o,d b o (λz=>f (by simp[z])) (λz=>f (by simp[z])) q⟩) (λb ys q=>by rw[ah (aB q F)];show q) (λb o z q=>by rw[ah (aB q F)];show q)
    (λb ps q=>⟨#[],by rw[ah (aB q F),q];simp⟩) (λm hm=>?_) R I.bare
   ·rcases Mn.mp g with rfl|g
    ·show⟨f3,V,f4,f5⟩
    ·have:b=it:=by simpa using g
     subst this;show⟨g3,g1,g4,g5⟩
   ·obtain⟨o,hp,ep,hn,r'⟩:=hm;show⟨o,hp,ep,d _ o (Ne.symm V) (Ne.symm g1) hn,r'⟩
  show⟨.ref s.heap.objs.size,_,I1,rfl,⟨s.heap.objs.size,x,F,rfl,rfl,λys hy=>by rw[I.list_inj hy U];show hx⟩,⟨⟨u,by
    have:(((i+1:Nat):Int))=(i:Int)+1:=by lia
    rw[this];show ha⟩,N.extBut r.extBut (Ne.symm Q)⟩,λb g=>?_⟩
  let W:=(M b g).1
  let hi:b<s.heap.objs.size:=by
   rcases Mn.mp g with rfl|g
   ·show S
   ·have:b=it:=by simpa using g
    subst this;obtain⟨o,q,_⟩:=B;show Ml q
  rw[ah (Mr hi)];show W
 done:=by
  intro X hP hw hK hc i C s Z H E I M t hg;subst hP hw hK;obtain⟨⟨j,T⟩,B⟩:=t;obtain⟨xs,U,hx⟩:=hg;obtain⟨hh,rv,p,hz⟩:=I.list U;obtain⟨f0,V,f2,f3,f4,f5⟩:=M it (by simp);let hl:=rv.length;show wpAny_pyNext_enum_end (I.ok.hd hc) T B p.isList (by simp;lia) λh' eb=>⟨rfl,I.turned (λb o g q=>eb b o g q) f0 V f3 f4 f5⟩
 self:=λ_ _ _ _ _ t h=>let ⟨_,q⟩:=t.1;wpAny_pyIter_enum q h
section
variable {X:Cx}
def GI(K:Md)(ta:TA):TI:=λZ H R=>ta Z H λvs H1=>∃a,vs=[.ref a]/\(∃xs,SqL K H1 a xs)/\R (Jc K a) H1
theorem zS{a:Pp}(w:Gl X "enumerate")(v:X.mg "enumerate" = Pl)(z:PA X [a] ta)(r:Py [a] X.env=[(Po,eval a X.env)]) :
  PI X (.Tuple es kk tp) (.Call (.Name "enumerate" p) [a] [] pos) (GI X.K ta):=by
 intro c s Z H R I h;show Call_ (cI I w v boot_enumerate (PyProof.Rows.callWith_type1 (a5 (z pos c s Z H _ I h) λD s1 ⟨E,j,f,A,y⟩=>?_) r rfl));obtain⟨l,e,⟨L,x⟩,q⟩:=y;subst e;obtain⟨u,rfl,n⟩:=lL A;cases n;obtain⟨C,M,t,F⟩:=f.list x;show call_enumerate_list t.isList λm k g o hk=>?_;show wpAny_pyIter_enum k ?_;let B:Inv X c Z j { s1 with heap:=m }:=f.kept hk;show⟨s1.heap.objs.size+1,[s1.heap.objs.size+1,s1.heap.objs.size],_,_,j,rfl,B,uW l _ _ (Nn (Nw _)),⟨⟨_,k⟩,g⟩,λb i=>?_,q⟩
 let d:s1.heap.objs.size<=b:=by
  rcases Mn.mp i with rfl|i
  ·show Np _
  ·have:b=s1.heap.objs.size:=by simpa using i
   rw[this];show Mi _
 show f.fpOk d (f.hok.fresh d)
end
def JU(K:Md)(a b:Ps):It:=
 ⟨λi H=>∃xs ys x y,SqL K H a xs/\SqL K H b ys/\xs[i]?=Pj x/\ys[i]?=Pj y,λi H x H'=>∃p v u,H p=Pl/\H'=upd H p (.tup [v,u])/\x=.ref p/\(∀xs,SqL K H a xs->xs[i]?=Pj v)/\∀ys,SqL K H b ys->ys[i]?=Pj u,
  λi H=>∃xs ys,SqL K H a xs/\SqL K H b ys/\(xs.length<=i\/ys.length<=i)⟩
theorem lX{h:PD}{z TI TO k m l a b:Ps}{us:Array Pn}{x y:Pn}{i j:Nat}(u:h.IsList l us)(s:IsZip h z TI TO .none)(f:IsPair h TI (.ref k) (.ref m))(g:IsPair h TO x y)(h1:h.IsListIter k a i)(h2:h.IsListIter m b j):∀c∈[z,TI,TO,k,m],l≠c:=λc p e=>by
 subst e;obtain⟨o,q,d,_⟩:=u;simp only[Mn,Mv,or_false] at p;rcases p with rfl|rfl|rfl|rfl|rfl
 ·rw[s] at q;cases q;show absurd (show Value.type "zip" = .type "list" from d) (by decide)
 ·rw[f] at q;cases q;show absurd (show Value.type "tuple" = .type "list" from d) (by decide)
 ·rw[g] at q;cases q;show absurd (show Value.type "tuple" = .type "list" from d) (by decide)
 ·obtain⟨t,r,n,_⟩:=h1;rw[r] at q;cases q;rw[n] at d;show absurd d (by decide)
 ·obtain⟨t,r,n,_⟩:=h2;rw[r] at q;cases q;rw[n] at d;show absurd d (by decide)
theorem BE{h:PD}{z TI TO f g a b:Ps}{us vs:Array Pn}{x y:Pn}{i j:Nat}(n:[z,TI,TO,f,g].Nodup)(q:h.IsList a us)(l:h.IsList b vs)(m:IsZip h z TI TO .none)(c:IsPair h TI (.ref f) (.ref g))(d:IsPair h TO x y)(h1:h.IsListIter f a i)(h2:h.IsListIter g b j):ZipApart z TI TO f g a b:=by
 let k:=lX q m c d h1 h2;let e:=lX l m c d h1 h2;simp only[Mw,Mn,Mv,or_false,not_or,Oh,and_true,not_false_iff] at n;obtain⟨⟨r,p,o,v⟩,⟨b1,b2,w⟩,⟨t,s⟩,u⟩:=n;show⟨Ne.symm r,Ne.symm p,Ne.symm o,Ne.symm v,b1,b2,w,t,s,u,k _ (by simp),k _ (by simp),k _ (by simp),k _ (by simp),e _ (by simp),e _ (by simp),e _ (by simp),e _ (by simp)⟩
theorem wV{P:Px}{w:PB}{K:Md}{es:List Pp}{kk:Nat}{tp:Pos}(a b z TI TO L M:Ps)(nd:[z,TI,TO,L,M].Nodup):ql P w K (.Tuple es kk tp) (JU K a b) [z,TI,TO,L,M] z (λi h=>IsZip h z TI TO .none/\IsPair h TI (.ref L) (.ref M)/\(∃x y,IsPair h TO x y)/\h.IsListIter L a i/\h.IsListIter M b i) where
 mem:=by simp
 obj:=λi h O c g=>by
  obtain⟨h1,R,⟨x,y,h3⟩,⟨o4,h4,h5,h6⟩,o7,h7,h8,h9⟩:=O;simp only[Mn,Mv,or_false] at g;rcases g with rfl|rfl|rfl|rfl|rfl
  ·show⟨_,h1,λv z=>by
    let z':Data.fields _=Data.cell v:=z;cases z'⟩
  ·show⟨_,R,λv z=>by
    let z':Data.seq _ _=Data.cell v:=z;cases z'⟩
  ·show⟨_,h3,λv z=>by
    let z':Data.seq _ _=Data.cell v:=z;cases z'⟩
  ·show⟨o4,h4,λv z=>by rw[h6] at z;cases z⟩
  ·show⟨o7,h7,λv z=>by rw[h9] at z;cases z⟩
 keep:=λi h h' O k=>by
  obtain⟨h1,R,⟨x,y,h3⟩,h4,h5⟩:=O;show⟨k z (by simp) _ h1,k TI (by simp) _ R,⟨x,y,k TO (by simp) _ h3⟩,h4.at λo q=>k L (by simp) o q,h5.at λo q=>k M (by simp) o q⟩
 item:=by
  intro X hP hw hK g i S s Z H E I U O hg;subst hP hw hK;obtain⟨T,r,⟨x0,y0,A⟩,C,B⟩:=O;obtain⟨xs,ys,x,y,hq,Q,hx,hy⟩:=hg;obtain⟨hv,rv,p,h0⟩:=I.list hq;obtain⟨hl,V,p2,hj⟩:=I.list Q;obtain⟨u,hu,ru⟩:=rv.get hx;obtain⟨u2,gb,ga⟩:=V.get hy;let un:∀c∈[z,TI,TO,L,M],H c=Pl:=λc g=>(U c g).1;let D:=BE nd p.isList p2.isList T r A C B
  let hi:∀c∈[z,TI,TO,L,M],c<s.heap.objs.size:=λc g=>by
   simp only[Mn,Mv,or_false] at g;rcases g with rfl|rfl|rfl|rfl|rfl
   ·show Ml T
   ·show Ml r
   ·show Ml A
   ·obtain⟨o,q,_⟩:=C;show Ml q
   ·obtain⟨o,q,_⟩:=B;show Ml q
  show wpAny_pyNext_zip_item D T r A C B p.isList p2.isList (by simpa using hu) (by simpa using gb) λh1 gc ho ha hh ht gd hp=>?_;show⟨_,rfl,wpAny_letOwnedTupleGo_zip gc λR hs hr=>?_⟩;let l:Heap.SameBut z h1 R:=hr
  let f:∀c o,c∉[z,TI,TO,L,M]->s.heap.get? c=Pj o->R.get? c=Pj o:=λc o n q=>
   (l.2 c (λe=>n (by simp[e]))).trans (hp c o (λe=>n (by simp[e])) (λe=>n (by simp[e])) (λe=>n (by simp[e])) (λe=>n (by simp[e])) q)
  let fr:=I.hok.fresh (Mi s.heap.objs.size);let he:R.get? s.heap.objs.size=Pj { cls:=.type "tuple",data:=.seq #[u,u2] }:=(l.2 _ (Nn (hi z (by simp)))).trans ht
  let I1:Inv X S Z (upd H s.heap.objs.size (.tup [x,y])) { s with heap:=R }:=by
   let N:∀c o,H c=Pj o->c∉[z,TI,TO,L,M]:=λc o q g=>by rw[un c g] at q;cases q
   let hn:HOk X.prog X.w (upd H s.heap.objs.size (.tup [x,y])) R:=λc o q=>by
    by_cases hb:c=s.heap.objs.size
    ·subst hb;rw[ak] at q;cases q;show⟨(by change 2<=sizeLine;decide),[u,u2],.cons ru (.cons ga .nil),_,he,rfl,_,rfl⟩
    ·rw[ah hb] at q;show(I.hok c o q).stay (λd v t F=>f d v ?_ F) (λd F=>by rw[ah (aB F fr)];show F) λd ys F=>by rw[ah (aB F fr)];show F
     rcases t with rfl|t
     ·show N _ _ q
     ·show N _ _ t
   show I.step (λc g=>?_) (λc o _ _ j q _=>f c o j q)
    (λc o _ _ j q _=>⟨o.slots,f c o j q⟩) (λc o j q n=>by rw[ah (Mr (Ml q))];show n)
    (λc o j q=>⟨o,f c o j q⟩) (λc ys q=>by rw[ah (aB q fr)];show q) (λc o z q=>by rw[ah (aB q fr)];show q)
    (λc ps q=>⟨#[],by rw[ah (aB q fr),q];simp⟩) (λm hm=>?_) hn I.bare
   ·obtain⟨f0,f1,f2,f3,f4,f5⟩:=U c g;show⟨f3,f1,f4,f5⟩
   ·obtain⟨o,Y,ep,W,r'⟩:=hm;show⟨o,Y,ep,f _ o (λg=>(U _ g).2.1 rfl) W,r'⟩
  show⟨.ref s.heap.objs.size,_,I1,rfl,⟨s.heap.objs.size,x,y,fr,rfl,rfl,λzs hy=>by rw[I.list_inj hy hq];show hx,λzs T=>by rw[I.list_inj T Q];show hy⟩,⟨hs,?_,⟨u,u2,(l.2 TO D.TOz).trans ho⟩,ha.extBut l.extBut D.i1z,hh.extBut l.extBut D.i2z⟩,λc g=>?_⟩
  ·show(l.2 TI D.TIz).trans (hp TI _ D.TIz D.TITO D.TIi1 D.TIi2 r)
  ·rw[ah (Mr (hi c g))];show un c g
 done:=by
  intro X hP hw hK g i S s Z H E I U O hg;subst hP hw hK;obtain⟨T,r,⟨x0,y0,A⟩,C,B⟩:=O;obtain⟨xs,ys,hq,Q,hx⟩:=hg;obtain⟨hv,rv,p,h0⟩:=I.list hq;obtain⟨hl,V,p2,hj⟩:=I.list Q;let D:=BE nd p.isList p2.isList T r A C B;let l1:=rv.length;let l2:=V.length;show wpAny_pyNext_zip_end (I.ok.hd g) D T r A C B p.isList p2.isList (hx.imp (λh=>by simp;lia) λh=>by simp;lia) λh' kk=>⟨rfl,?_⟩;let un:∀c∈[z,TI,TO,L,M],H c=Pl:=λc g=>(U c g).1
  let f:∀c o,c∉[z,TI,TO,L,M]->s.heap.get? c=Pj o->h'.get? c=Pj o:=λc o n q=>
   kk c o (λe=>n (by simp[e])) (λe=>n (by simp[e])) (λe=>n (by simp[e])) (λe=>n (by simp[e])) q
  let N:∀c o,H c=Pj o->c∉[z,TI,TO,L,M]:=λc o q g=>by rw[un c g] at q;cases q
  show I.step (λc g=>?_) (λc o _ _ j q _=>f c o j q)
   (λc o _ _ j q _=>⟨o.slots,f c o j q⟩) (λ_ _ _ _ n=>n)
   (λc o j q=>⟨o,f c o j q⟩) (λ_ _ q=>q) (λ_ _ _ q=>q)
   (λc ps q=>⟨#[],by rw[q];simp⟩) (λm hm=>?_) (λc o q=>?_) I.bare
  ·obtain⟨f0,f1,f2,f3,f4,f5⟩:=U c g;show⟨f3,f1,f4,f5⟩
  ·obtain⟨o,Y,ep,W,r'⟩:=hm;show⟨o,Y,ep,f _ o (λg=>(U _ g).2.1 rfl) W,r'⟩
  ·show(I.hok c o q).stay (λd v t F=>f d v ?_ F) (λd F=>F) λd ys F=>F;rcases t with rfl|t
   ·show N _ _ q
   ·show N _ _ t
 self:=λ_ _ _ _ _ O h=>wpAny_pyIter_zip O.1 h
section
variable {X:Cx}
def JV(K:Md)(ta:TA):TI:=λZ H R=>ta Z H λvs H1=>∃a b,vs=[.ref a,.ref b]/\(∃xs,SqL K H1 a xs)/\(∃ys,SqL K H1 b ys)/\R (JU K a b) H1
theorem Du{a b:Pp}(L:Gl X "zip")(F:X.mg "zip" = Pl)(P:PA X [a,b] ta)(D:Py [a,b] X.env=[(Po,eval a X.env),(Po,eval b X.env)])(hs2:Py [b] X.env=[(Po,eval b X.env)]) :
  PI X (.Tuple es kk tp) (.Call (.Name "zip" p) [a,b] [] pos) (JV X.K ta):=by
 intro d s Z H R I h;show Call_ (cI I L F boot_zip (PyProof.Rows.callWith_type1 (a5 (P pos d s Z H _ I h) λT s1 ⟨V,t,g,i,O⟩=>?_) (by rw[D,hs2]) (by rw[hs2];rfl)));obtain⟨l,C,e,⟨Y,N⟩,⟨U,o⟩,q⟩:=O;subst e
 cases i with
 |cons y i=>cases i with
  |cons M i=>
   cases i;cases y;cases M;obtain⟨S,rv,E,W⟩:=g.list N;obtain⟨w,z,k,B⟩:=g.list o;show call_zip_2 E.isList k.isList λx u r j n m A hk=>?_;show wpAny_pyIter_zip u ?_;let Q:Inv X d Z t { s1 with heap:=x }:=g.kept hk
   show⟨s1.heap.objs.size+4,[s1.heap.objs.size+4,s1.heap.objs.size+2,s1.heap.objs.size+3,s1.heap.objs.size,s1.heap.objs.size+1],_,_,t,rfl,Q,wV l C _ _ _ _ _ (by simp<;>lia),⟨u,r,⟨_,_,j⟩,n,m⟩,λc v=>?_,q⟩
   let f:s1.heap.objs.size<=c:=by
    simp only[Mn,Mv,or_false] at v;rcases v with rfl|rfl|rfl|rfl|rfl
    ·show NT _ _
    ·show NT _ _
    ·show NT _ _
    ·show Mi _
    ·show NT _ _
   show g.fpOk f (g.hok.fresh f)
end
end G
namespace L2
open PyProof.Rows
section
variable {X:Cx} {pins:List (Ps×Obj)} {Z:St} {H:Hp} {s:Pt}
def iT(wi:TI)(g:TG)(tt:TT)(te:TE)(cap:List (Option Nat)):TE:=λZ H Q=>wi Z H λJ H1=>∀D,H1 D=Pl->∃W:Nat->Nat->St->Hp->Prop,(∃m,W 0 m (cz Z cap) (upd H1 D (.lst [])))/\∀i m Z' H',W i m Z' H'->
 (J.stop i H'/\Q (.ref D) H')\/(J.go i H'/\∀x H2,J.yld i H' x H2->g x Z' H2 λO B=>tt O B λok B=>if ok=Pm then te O B λy H4=>∃ys,H4 D=Pj (.lst ys)/\ys.length<sizeLine/\∃q,q<m/\W (i+1) q O (upd H4 D (.lst (ys++[y]))) else ∃q,q<m/\W (i+1) q O B)
def zT(X:Cx)(ifs:List Pp)(q:TT):Prop:=∀(pins:List (Ps×Obj)) (s:Pt) (Z:St) (H:Hp) (Q:Bool->Hp->Prop),Inv X pins Z H s->q Z H Q->
 Pv (Pw X.prog X.w) X.A (forIn ifs Pm λc r=>if r=Pm then do let B <- isTrue c X.env (eval c X.env);pure (ForInStep.yield B) else pure (ForInStep.yield r)) (TP X pins Z Q) X.xe s
theorem sC:zT X [] (λ_ H Q=>Q Pm H):=λa s Z H Q I h=>wpAny_tests_nil ⟨H,I,h⟩
theorem sD{c:Pp}(h:PT X c t):zT X [c] t:=λa s Z H Q I q=>wpAny_tests_one (h a s Z H Q I q)
theorem lY(hc:X.calm=Pm)(O:eW X N' scope cap)(hi:PI X tg iter wi)(hg:∀C s H ex,PG (aj X N' scope C s H ex) tg g)(ht:∀C s H ex,zT (aj X N' scope C s H ex) ifs tt)(he:∀C s H ex,PE (aj X N' scope C s H ex) elt te){Q:VK}(I:Inv X pins Z H s)(h:iT wi g tt te cap Z H Q)(hs:∀x,foldedSetIterable iter X.env x=pure x)(hX:X.xe=E)(hQ:∀(C D:Ps) (s1:Pt) (H1:Hp) (f:List Ps) (Z':St) (H':Hp) (s':Pt),Inv X pins Z H1 s1->(∀b∈f,iP X pins H1 b)->Inv (aj X N' scope C s1 H1 f) [] Z' H' s'->Q (.ref D) H'->
   compPost (Pw X.prog X.w) X.A E use Q' (.ref D) C (.ok .next) s') :
  Pv (Pw X.prog X.w) X.A (comprehension (.ListComp elt [⟨tg,iter,ifs,0⟩] scope pos) scope X.env cpos (newList []) Po (eval iter X.env) use) Q' E s:=by
 let hh:closureFor scope X.env=pure (fZ X.env.cells scope.names []):=gg λy hy e=>I.ok.has _ (O.free y hy e);show wpAny_comprehension_free rfl hs hh O.kind O.names ?_;subst hX;show a5 (hi pins s Z H _ I h) λv s1 h1=>a5 h1 λh0 s2 h2=>?_;obtain⟨it,f,tn,J,K,e,I2,T,U,f2,hW⟩:=h2;subst e;show PN (gh ?_);dsimp only;generalize B:s2.heap.push { cls:=.type "list",dict:=Pl,data:=.seq ([]:List Pn).toArray }=HH;let hd:HH.objs.size=s2.heap.objs.size+1:=by rw[<- B,Nu]
 let ho:s2.heap.objs.size<HH.objs.size:=by rw[hd];show Nw _
 generalize F:pushCells (HH.push { cls:=.type "dict",data:=.dict #[] }) scope.names=h₁;let kp:∀b o,HH.get? b=Pj o->h₁.get? b=Pj o:=λb o e=>F▸pushCells_keeps _ _ b o (Mf _ e);let V:h₁.Ns HH.objs.size λ_=>Pl:=F▸(Heap.Ns.new HH (.type "dict")).keeps (pushCells_keeps _ _)
 let hx:∀x c,(PK (HH.objs.size+1) scope.names []).lookup x=Pj c->h₁.IsCell c Pl:=λx c e=>by
  let ok:=cellsFrom_ok scope.names (HH.push { cls:=.type "dict",data:=.dict #[] }) 0 [] ⟨λ_ _ N=>(nomatch N),List.Pairwise.nil⟩ (ML _)
  rw[Nu] at ok;show F▸(ok.empty x c (bW e)).1
 let R:∀b o,s2.heap.get? b=Pj o->h₁.get? b=Pj o:=λb o e=>kp b o (B▸Mf _ e);let hq:h₁.get? s2.heap.objs.size=Pj { cls:=.type "list",data:=.seq ([]:List Pn).toArray }:=kp _ _ (B▸Mp _ rfl);let M:∀b∈f,b<s2.heap.objs.size:=λb a=>let ⟨o,e,_⟩:=T.obj 0 _ U b a;Ml e;let z:=I2.hok.fresh (Mi s2.heap.objs.size);obtain⟨W,⟨m0,w0⟩,L⟩:=hW s2.heap.objs.size z;let J0:=oG (tk:=s2.toks) (o:=.lst []) I2 O f2 M (by rw[hd];show Np _) (Mi _) ho hx V R ⟨ML _,[],_,.nil,hq⟩;let hf:tn 0 h₁:=T.keep 0 _ _ U λb _ o e=>R b o e
 let hu:∀b∈f,(upd K s2.heap.objs.size (.lst [])) b=Pl:=λb a=>by
  rw[ah (Mr (M b a))];show(f2 b a).1
 let j:∀{H':Hp},(∀b∈f,H' b=Pl)->∀b∈f,iP (aj X N' scope HH.objs.size s2 K f) [] H' b:=λhn b a=>
  ⟨hn b a,(J0.ok.exf b a).1,J0.ok.exfs b a,.inl a,(J0.ok.exf b a).2,λp hp=>absurd hp (by simp[aj])⟩
 let t:codeAny (Pw X.prog X.w) X.A (.compLoop (.ListComp elt [⟨tg,iter,ifs,0⟩] scope pos) 0 (.ref it) (.ref s2.heap.objs.size) (compEnvC scope (Ds X.env.cells scope.names HH.objs.size) HH.objs.size X.env))
   (compPost (Pw X.prog X.w) X.A X.xe use Q' (.ref s2.heap.objs.size) HH.objs.size) { s2 with heap:=h₁,toks:=s2.toks }:=by
  show mW (λn s'=>∃i Z' H',Inv (aj X N' scope HH.objs.size s2 K f) [] Z' H' s'/\tn i s'.heap/\(∀b∈f,H' b=Pl)/\W i n Z' H') ?_ m0 ⟨0,_,_,J0,hf,hu,w0⟩
  rintro n s3 ⟨i,Z3,H3,I3,ha,P,w3⟩
  rcases L i n Z3 H3 w3 with⟨S,qn⟩|⟨go,Y⟩
  ·show a5 (T.done (aj X N' scope HH.objs.size s2 K f) rfl rfl rfl hc i [] s3 Z3 H3 _ I3 (j P) ha S) λr s4 ⟨hr,I4⟩=>?_;subst hr;show hQ _ _ s2 K f Z3 H3 s4 I2 f2 I4 qn
  ·show a5 (T.item (aj X N' scope HH.objs.size s2 K f) rfl rfl rfl hc i [] s3 Z3 H3 _ I3 (j P) ha go) λr s4 ⟨u,hr,h4⟩=>?_;subst hr;show a5 h4 λ_ s5 l=>?_;obtain⟨x,H5,I5,r5,y5,k,hv⟩:=l;let hj:=I5.pinned (j hv) (T.obj _ _ k);show a5 (hg _ _ _ _ _ s5 Z3 H5 x u _ hj r5 (Y x H5 y5)) λ_ s6 l=>?_;obtain⟨Z6,H6,I6,q6⟩:=l;show a5 (ht _ _ _ _ _ s6 Z6 H6 _ I6 q6) λok hl l=>?_;obtain⟨hw,m,q⟩:=l
   cases ok with
   |false=>
    rw[if_neg Mz] at q⊢;obtain⟨m',N,w7⟩:=q;show⟨m',N,i+1,Z6,_,m.unpinned,T.keep _ _ _ k λb a o e=>(m.pin (b,o) (Mq _ (Mq _ (bj a e)))).1,λb a=>?_,w7⟩;obtain⟨o,e,d⟩:=T.obj _ _ k b a;show(m.pin (b,o) (Mq _ (Mq _ (bj a e)))).2.1
   |true=>
   rw[if_pos rfl] at q⊢;show a5 (he _ _ _ _ _ hl Z6 hw _ m q) λyv s7 l=>?_;obtain⟨y,H7,I7,r7,ys,hD,l,m',N,w7⟩:=l;show a5 (lS _ s7 Z6 H7 (.ref s2.heap.objs.size) [y] (.ref s2.heap.objs.size) [yv] (λv H'=>v=.non/\H'=upd H7 s2.heap.objs.size (.lst (ys++[y]))) I7 rfl (.cons r7 .nil) ⟨_,ys,y,rfl,rfl,hD,l,rfl,rfl⟩) λ_ s8 l=>?_;obtain⟨_,H8,I8,_,_,e8⟩:=l;subst e8;show⟨m',N,i+1,Z6,_,I8.unpinned,T.keep _ _ _ k λb a o e=>(I8.pin (b,o) (Mq _ (Mq _ (bj a e)))).1,λb a=>?_,w7⟩;obtain⟨o,e,d⟩:=T.obj _ _ k b a;show(I8.pin (b,o) (Mq _ (Mq _ (bj a e)))).2.1
 show codeAny_compStart_list t (T.self _ 0 _ _ _ hf t)
theorem oH(n:X.calm=Pm)(O:eW X N' scope cap)(hi:PI X tg iter wi)(f:∀C s H ex,PG (aj X N' scope C s H ex) tg g)(e:∀C s H ex,zT (aj X N' scope C s H ex) ifs tt)(i:∀C s H ex,PE (aj X N' scope C s H ex) elt te)(c:∀x,foldedSetIterable iter X.env x=pure x:=by intro _;rfl):PE X (.ListComp elt [⟨tg,iter,ifs,0⟩] scope pos) (iT wi g tt te cap):=by
 intro b s Z H Q I h;rw[eval_ListComp];show lY n O hi f e i I h c rfl λC D s1 p t r j u k l J q=>?_;obtain⟨m,d,_⟩:=J.loc;show⟨m,d,λo a=>⟨.ref D,j,hG k l J a,rfl,q⟩⟩
theorem wX{cpos pos' pos:Pos}{i:Nat}(T:X.calm=Pm)(O:eW X N' scope cap)(hi:PI X tg iter wi)(Y:∀C s H ex,PG (aj X N' scope C s H ex) tg g)(M:∀C s H ex,zT (aj X N' scope C s H ex) ifs tt)(Q:∀C s H ex,PE (aj X N' scope C s H ex) elt te)(U:∀x,foldedSetIterable iter X.env x=pure x)(hN:X.N.Nodup)(r:X.N[i]?=Pj x)(V:Bw X.env.scope x)(W:X.fn x=Pm\/X.env.scope.names.lookup x=Pj .local)(t:swapsWith (.ListComp elt [⟨tg,iter,ifs,0⟩] scope cpos) (Pj (.Name x pos')) pos.line X.env=pure Pm) :
  PS X (.Assign [.Name x pos'] (.ListComp elt [⟨tg,iter,ifs,0⟩] scope cpos) pos) (zt (iT wi g tt te cap) (gY i)):=by
 intro d s Z H D I h;rw[exec_Assign_Name_used _ _ _ _ t];show Pq (wpAny_standAt (Pq ?_));show Pq (wpAny_mono (lY T O hi Y M Q I h U rfl λC K s1 H1 fp Z' E z l f1 J q=>?_) (λ_ z hq=>Pu (Pu hq)) λ_ _ e=>e);let I2:Inv X d Z E z:=hG l f1 J (Heap.SameBut.refl C z.heap);let F:s1.heap.objs.size<=C:=J.ok.above;let j:∀b o,s1.heap.get? b=Pj o->b≠C:=λb o e=>Mr (Mo (Ml e) F);obtain⟨m1,⟨oL,_,_,A,_⟩,_⟩:=id l.loc;let B:X.env.locals≠C:=j _ _ A
 let k:∀x c,X.env.cells.lookup x=Pj c->c≠C:=λx c e=>by
  obtain⟨v,o,g,_⟩:=l.cell x c e;show j _ _ g
 let n:∀p∈X.pn++d,p.1≠C:=λp R=>j _ _ (l.pin p R).1
 let P:X.s₀.heap.objs.size<=C:=by
  show MP ?_ F;show NX (Nj l.ok.above (Ml A))
 obtain⟨m,L,_⟩:=J.loc;show wpAny_assign_Name (iN I2 hN r V (v:=.ref K) rfl (λs3 S f=>?_) W);obtain⟨a,f,u⟩:=f
 let y:C≠a:=by
  rcases u with rfl|u
  ·show Ne.symm B
  ·show Ne.symm (k _ _ u)
 show⟨m,L.sameBut f y,λh' w=>⟨_,E,S.junk w P B k n J.free,q⟩⟩
end
end L2
namespace J
open PyProof.Rows
abbrev DK:=aJ ⊕ List (aJ ⊕ List aJ)
inductive Hd where
 |lst|tup|dic (t:Nat) (ks:List DK)|obj (c:Str) (ns:List Str)
 deriving DecidableEq
inductive D where
 |non|bl (b:Bool)|int (i:Int)|str (x:Str)|scr (ns:List Int)|nd (h:Hd) (ds:List D)
noncomputable abbrev D.lst(ds:List D):D:=.nd .lst ds
noncomputable abbrev D.tup(ds:List D):D:=.nd .tup ds
noncomputable abbrev D.dic(t:Nat)(ks:List DK)(ds:List D):D:=.nd (.dic t ks) ds
noncomputable abbrev D.obj(c:Str)(ns:List Str)(ds:List D):D:=.nd (.obj c ns) ds
noncomputable def Hd.mu:Hd->Bool
 |.tup=>Po
 |_=>Pm
def GH(K:Md)(a:Ps)(xs:List V):Prop:=
 ∃(o:Obj) (q:Array Pn) (n:Nat),K.lookup a=Pj o/\o.cls=.type "list"/\o.dict=Pl/\o.data=.seq q n/\q.size<=sizeLine/\Vals xs q.toList
def cR(K:Md)(o:HO):Hd->List V->Prop
 |.lst,xs=>o=.lst xs
 |.tup,xs=>o=.tup xs
 |.dic t ks,xs=>(t=0/\∃kvs:List (aJ×V),o=.dK kvs/\ks=kvs.map (λp=>Sum.inl p.1)/\xs=kvs.map (·.2))\/(∃m,t=m+1/\∃(kvs:List (List (aJ ⊕ List aJ)×V)) (ep:Nat),o=.dT m ep kvs/\ks=kvs.map (λp=>Sum.inr p.1)/\xs=kvs.map (·.2))
 |.obj c ns,xs=>∃C dx,M6 K PF c=Pj (Pj (.ref C))/\(Cls K C/\∀f∈ns,NoAttr K C f)/\o=.ins C dx (ns.zip xs)/\ns.length=xs.length
abbrev Pr:=Ps->Prop
mutual
def Rp(K:Md)(H:Hp)(S:Pr):D->V->Prop
 |.non,v=>v=.non
 |.bl b,v=>v=.bl b
 |.int i,v=>v=.int i
 |.str x,v=>v=.str x
 |.scr ns,v=>∃a,v=.ref a/\((¬S a/\Rd H a (.lst (ns.map V.int)))\/GH K a (ns.map V.int))
 |.nd h ds,v=>∃a o xs,v=.ref a/\¬S a/\H a=Pj o/\cR K o h xs/\RpL K H S ds xs
def RpL(K:Md)(H:Hp)(S:Pr):List D->List V->Prop
 |[],xs=>xs=[]
 |d::ds,xs=>∃y ys,xs=y::ys/\Rp K H S d y/\RpL K H S ds ys
end
section
variable {K:Md} {H H':Hp} {S S':Pr}
mutual
theorem Rp.go(k:∀b o,¬S b->H b=Pj o->H' b=Pj o/\¬S' b):∀{d:D} {v:V},Rp K H S d v->Rp K H' S' d v
 |.non,_,h=>h
 |.bl _,_,h=>h
 |.int _,_,h=>h
 |.str _,_,h=>h
 |.scr ns,v,h=>by
  unfold Rp at h⊢;obtain⟨a,e,h⟩:=h;show⟨a,e,?_⟩;rcases h with⟨n,g|⟨o,g⟩⟩|h
  ·show .inl ⟨(k _ _ n g).2,.inl (k _ _ n g).1⟩
  ·show .inl ⟨(k _ _ n g).2,.inr ⟨o,(k _ _ n g).1⟩⟩
  ·show .inr h
 |.nd hd ds,v,h=>by
  unfold Rp at h⊢;obtain⟨a,o,c,e,n,g,q,r⟩:=h;show⟨a,o,c,e,(k _ _ n g).2,(k _ _ n g).1,q,RpL.go k r⟩
theorem RpL.go(k:∀b o,¬S b->H b=Pj o->H' b=Pj o/\¬S' b):∀{ds:List D} {vs:List V},RpL K H S ds vs->RpL K H' S' ds vs
 |[],_,h=>by unfold RpL at h⊢;show h
 |d::ds,_,h=>by
  unfold RpL at h⊢;obtain⟨y,a,e,r,t⟩:=h;show⟨y,a,e,Rp.go k r,RpL.go k t⟩
end
theorem Rp.same(s:Same H H')(h:Rp K H S d v):Rp K H' S d v:=h.go λb o n e=>⟨s b o e,n⟩
theorem RpL.same(s:Same H H')(h:RpL K H S d v):RpL K H' S d v:=h.go λb o n e=>⟨s b o e,n⟩
theorem Rp.weak(k:∀b,S' b->S b){d:D}{v:V}(h:Rp K H S d v):Rp K H S' d v:=h.go λb o n e=>⟨e,λz=>n (k b z)⟩
theorem RpL.weak(k:∀b,S' b->S b)(h:RpL K H S d v):RpL K H S' d v:=h.go λb o n e=>⟨e,λz=>n (k b z)⟩
theorem RpL.len:∀{ds:List D} {vs:List V},RpL K H S ds vs->vs.length=ds.length
 |[],_,h=>by unfold RpL at h;rw[h];rfl
 |d::ds,_,h=>by
  unfold RpL at h;obtain⟨y,a,rfl,_,t⟩:=h;rw[MW,MW,RpL.len t]
theorem RpL.nil:RpL K H S [] []:=by unfold RpL;rfl
theorem RpL.cons{d:D}{v:V}{ds:List D}{vs:List V}(h1:Rp K H S d v)(h2:RpL K H S ds vs):RpL K H S (d::ds) (v::vs):=by unfold RpL;show⟨v,vs,rfl,h1,h2⟩
theorem RpL.nil_inv(h:RpL K H S [] vs):vs=[]:=by unfold RpL at h;show h
theorem RpL.cons_inv(h:RpL K H S (d::ds) vs):∃y ys,vs=y::ys/\Rp K H S d y/\RpL K H S ds ys:=by unfold RpL at h;show h
theorem RpL.getD:∀{ds:List D} {vs:List V} {i:Nat} {d:D},RpL K H S ds vs->ds[i]?=Pj d->∃v,vs[i]?=Pj v/\Rp K H S d v
 |[],_,_,_,_,e=>by simp at e
 |d::ds,_,0,d',h,e=>by obtain⟨y,a,rfl,r,t⟩:=h.cons_inv;simp at e;subst e;show⟨y,rfl,r⟩
 |d::ds,_,i+1,d',h,e=>by obtain⟨y,a,rfl,r,t⟩:=h.cons_inv;simpa using RpL.getD t (by simpa using e)
theorem RpL.append:∀{ds es:List D} {vs us:List V},RpL K H S ds vs->RpL K H S es us->RpL K H S (ds++es) (vs++us)
 |[],_,_,_,h,g=>by rw[h.nil_inv];show g
 |d::ds,_,_,_,h,g=>by obtain⟨y,a,rfl,r,t⟩:=h.cons_inv;show .cons r (RpL.append t g)
theorem RpL.take:∀{ds:List D} {vs:List V} (n:Nat),RpL K H S ds vs->RpL K H S (ds.take n) (vs.take n)
 |_,_,0,_=>by simpa using RpL.nil
 |[],_,_+1,h=>by rw[h.nil_inv];simpa using RpL.nil
 |d::ds,_,n+1,h=>by obtain⟨y,a,rfl,r,t⟩:=h.cons_inv;show .cons r (RpL.take n t)
theorem RpL.drop:∀{ds:List D} {vs:List V} (n:Nat),RpL K H S ds vs->RpL K H S (ds.drop n) (vs.drop n)
 |_,_,0,h=>h
 |[],_,_+1,h=>by rw[h.nil_inv];simpa using RpL.nil
 |d::ds,_,n+1,h=>by obtain⟨y,a,rfl,r,t⟩:=h.cons_inv;show RpL.drop n t
theorem RpL.set:∀{ds:List D} {vs:List V} (n:Nat) {d:D} {v:V},RpL K H S ds vs->Rp K H S d v->RpL K H S (ds.set n d) (vs.set n v)
 |[],_,_,_,_,h,_=>by rw[h.nil_inv];simpa using RpL.nil
 |d::ds,_,0,_,_,h,g=>by obtain⟨y,a,rfl,r,t⟩:=h.cons_inv;show .cons g t
 |d::ds,_,n+1,_,_,h,g=>by obtain⟨y,a,rfl,r,t⟩:=h.cons_inv;show .cons r (RpL.set n t g)
theorem RpL.reverse{ds:List D}{vs:List V}(h:RpL K H S ds vs):RpL K H S ds.reverse vs.reverse:=by
 induction ds generalizing vs with
 |nil=>rw[h.nil_inv];show .nil
 |cons d ds a=>obtain⟨y,b,rfl,r,t⟩:=h.cons_inv;rw[Nr,Nr];show(a t).append (.cons r .nil)
theorem RpL.rep(h:RpL K H S ds vs):∀n:Nat,RpL K H S (MC n ds).flatten (MC n vs).flatten
 |0=>by simpa using RpL.nil
 |n+1=>by simpa[Nf] using h.append (h.rep n)
theorem RpL.ints:∀ns:List Int,RpL K H S (ns.map D.int) (ns.map V.int)
 |[]=>.nil
 |n::ns=>.cons (by unfold Rp;rfl) (RpL.ints ns)
theorem RpL.erase:∀{ds:List D} {vs:List V} (n:Nat),RpL K H S ds vs->RpL K H S (ds.eraseIdx n) (vs.eraseIdx n)
 |[],_,_,h=>by rw[h.nil_inv];simpa using RpL.nil
 |d::ds,_,0,h=>by obtain⟨y,a,rfl,r,t⟩:=h.cons_inv;show t
 |d::ds,_,n+1,h=>by obtain⟨y,a,rfl,r,t⟩:=h.cons_inv;show .cons r (RpL.erase n t)
end
mutual
def qL:D->Bool
 |.nd h ds=>!h.mu&&zU ds
 |.scr _=>Po
 |_=>Pm
def zU:List D->Bool
 |[]=>Pm
 |d::ds=>qL d&&zU ds
end
def MuOk(H:Hp)(S:Pr):Prop:=∀a,S a->∃o,H a=Pj o/\∀xs,o≠.tup xs
section
variable {K:Md} {H:Hp} {S S':Pr}
mutual
theorem Rp.im(m:MuOk H S'):∀{d:D} {v:V},qL d=Pm->Rp K H S d v->Rp K H S' d v
 |.non,_,_,h=>h
 |.bl _,_,_,h=>h
 |.int _,_,_,h=>h
 |.str _,_,_,h=>h
 |.scr ns,v,i,h=>by simp[qL] at i
 |.nd hd ds,v,i,h=>by
  unfold Rp at h⊢;obtain⟨a,o,f,e,n,g,q,r⟩:=h;rw[qL,Me] at i;show⟨a,o,f,e,λz=>?_,g,q,RpL.im m i.2 r⟩;obtain⟨j,b,c⟩:=m a z;rw[g] at b;cases b
  cases hd with
  |tup=>show c _ q
  |_=>show absurd i.1 (by simp[Hd.mu])
theorem RpL.im(m:MuOk H S'):∀{ds:List D} {vs:List V},zU ds=Pm->RpL K H S ds vs->RpL K H S' ds vs
 |[],_,_,h=>by unfold RpL at h⊢;show h
 |d::ds,_,i,h=>by
  rw[zU,Me] at i;obtain⟨y,a,rfl,r,t⟩:=h.cons_inv;show .cons (Rp.im m i.1 r) (RpL.im m i.2 t)
end
end
inductive Ow where
 |fz|own (es:List Ow) (r:Ow)
mutual
def Tr(K:Md)(H:Hp)(S:Pr):D->Ow->V->Pr->Prop
 |.nd h ds,.own es r,v,F=>∃a o xs F',v=.ref a/\H a=Pj o/\cR K o h xs/\(h.mu=Pm->¬F' a)/\(h.mu=Po->¬S a)/\(∀b,F b↔(h.mu=Pm/\b=a)\/F' b)/\TrL K H S ds es r xs F'
 |d,_,v,F=>(∀b,¬F b)/\Rp K H S d v
def TrL(K:Md)(H:Hp)(S:Pr):List D->List Ow->Ow->List V->Pr->Prop
 |[],_,_,xs,F=>xs=[]/\∀b,¬F b
 |d::ds,es,r,xs,F=>∃y ys F1 F2,xs=y::ys/\(∀b,F b↔F1 b\/F2 b)/\(∀b,F1 b->¬F2 b)/\Tr K H S d (es.headD r) y F1/\TrL K H S ds es.tail r ys F2
end
section
variable {K:Md} {H H':Hp} {S S':Pr}
mutual
theorem Tr.go:∀{d:D} {k:Ow} {v:V} {F:Pr},(∀b o,(¬S b\/F b)->H b=Pj o->H' b=Pj o)->(∀b o,H b=Pj o->¬S b->¬S' b)->Tr K H S d k v F->Tr K H' S' d k v F
 |.non,_,_,_,k1,k2,h=>by unfold Tr at h⊢;show⟨h.1,h.2⟩
 |.bl _,_,_,_,k1,k2,h=>by unfold Tr at h⊢;show⟨h.1,h.2⟩
 |.int _,_,_,_,k1,k2,h=>by unfold Tr at h⊢;show⟨h.1,h.2⟩
 |.str _,_,_,_,k1,k2,h=>by unfold Tr at h⊢;show⟨h.1,h.2⟩
 |.scr ns,_,_,_,k1,k2,h=>by unfold Tr at h⊢;show⟨h.1,h.2.go λb o n e=>⟨k1 b o (.inl n) e,k2 b o e n⟩⟩
 |.nd hd ds,.fz,_,_,k1,k2,h=>by unfold Tr at h⊢;show⟨h.1,h.2.go λb o n e=>⟨k1 b o (.inl n) e,k2 b o e n⟩⟩
 |.nd hd ds,.own es r,v,F,k1,k2,h=>by
  unfold Tr at h⊢;obtain⟨a,o,m,p,e,g,q,l,i,f,t⟩:=h
  let j:H' a=Pj o:=by
   cases c:hd.mu with
   |true=>show k1 a o (.inr ((f a).mpr (.inl ⟨c,rfl⟩))) g
   |false=>show k1 a o (.inl (i c)) g
  show⟨a,o,m,p,e,j,q,l,λc=>k2 a o g (i c),f,TrL.go (λb o h=>k1 b o (h.imp id λz=>(f b).mpr (.inr z))) k2 t⟩
theorem TrL.go:∀{ds:List D} {es:List Ow} {r:Ow} {vs:List V} {F:Pr},(∀b o,(¬S b\/F b)->H b=Pj o->H' b=Pj o)->(∀b o,H b=Pj o->¬S b->¬S' b)->TrL K H S ds es r vs F->TrL K H' S' ds es r vs F
 |[],_,_,_,_,_,_,h=>by unfold TrL at h⊢;show h
 |d::ds,es,r,vs,F,k1,k2,h=>by
  unfold TrL at h⊢;obtain⟨y,k,j,f,e,a,g,c,i⟩:=h;show⟨y,k,j,f,e,a,g,Tr.go (λb o h=>k1 b o (h.imp id λz=>(a b).mpr (.inl z))) k2 c,TrL.go (λb o h=>k1 b o (h.imp id λz=>(a b).mpr (.inr z))) k2 i⟩
end
mutual
theorem Tr.rp:∀{d:D} {k:Ow} {v:V} {F:Pr},(∀b,S' b->S b/\¬F b)->Tr K H S d k v F->Rp K H S' d v
 |.non,_,_,_,k2,h=>by unfold Tr at h;show h.2
 |.bl _,_,_,_,k2,h=>by unfold Tr at h;show h.2
 |.int _,_,_,_,k2,h=>by unfold Tr at h;show h.2
 |.str _,_,_,_,k2,h=>by unfold Tr at h;show h.2
 |.scr ns,_,_,_,k2,h=>by unfold Tr at h;show h.2.weak λb z=>(k2 b z).1
 |.nd hd ds,.fz,_,_,k2,h=>by unfold Tr at h;show h.2.weak λb z=>(k2 b z).1
 |.nd hd ds,.own es r,v,F,k2,h=>by
  unfold Tr at h;unfold Rp;obtain⟨a,o,l,n,e,g,q,m,i,c,t⟩:=h;show⟨a,o,l,e,λz=>?_,g,q,TrL.rp (λb z=>⟨(k2 b z).1,λj=>(k2 b z).2 ((c b).mpr (.inr j))⟩) t⟩
  cases f:hd.mu with
  |true=>show(k2 a z).2 ((c a).mpr (.inl ⟨f,rfl⟩))
  |false=>show i f (k2 a z).1
theorem TrL.rp:∀{ds:List D} {es:List Ow} {r:Ow} {vs:List V} {F:Pr},(∀b,S' b->S b/\¬F b)->TrL K H S ds es r vs F->RpL K H S' ds vs
 |[],_,_,_,_,_,h=>by unfold TrL at h;unfold RpL;show h.1
 |d::ds,es,r,vs,F,k2,h=>by
  unfold TrL at h;obtain⟨y,k,j,g,rfl,c,i,e,f⟩:=h;show .cons (Tr.rp (λb z=>⟨(k2 b z).1,λa=>(k2 b z).2 ((c b).mpr (.inl a))⟩) e) (TrL.rp (λb z=>⟨(k2 b z).1,λa=>(k2 b z).2 ((c b).mpr (.inr a))⟩) f)
end
theorem Tr.rd(h:Tr K H S d k v F):Rp K H (λ_=>False) d v:=h.rp λb z=>z.elim
theorem Tr.fz(h:Rp K H S d v):Tr K H S d .fz v (λ_=>False):=by
 cases d<;>(unfold Tr;show⟨λb z=>z,h⟩)
theorem Tr.fz_inv{F:Pr}(h:Tr K H S d .fz v F):(∀b,¬F b)/\Rp K H S d v:=by
 cases d<;>(unfold Tr at h;show h)
mutual
theorem Tr.dom:∀{d:D} {k:Ow} {v:V} {F:Pr},Tr K H S d k v F->∀b,F b->∃o,H b=Pj o/\∀xs,o≠.tup xs
 |.non,_,_,_,h=>by unfold Tr at h;show λb z=>absurd z (h.1 b)
 |.bl _,_,_,_,h=>by unfold Tr at h;show λb z=>absurd z (h.1 b)
 |.int _,_,_,_,h=>by unfold Tr at h;show λb z=>absurd z (h.1 b)
 |.str _,_,_,_,h=>by unfold Tr at h;show λb z=>absurd z (h.1 b)
 |.scr ns,_,_,_,h=>by unfold Tr at h;show λb z=>absurd z (h.1 b)
 |.nd hd ds,.fz,_,_,h=>by unfold Tr at h;show λb z=>absurd z (h.1 b)
 |.nd hd ds,.own es r,v,F,h=>by
  unfold Tr at h;obtain⟨a,o,xs,p,e,g,q,l,j,f,t⟩:=h;intro b z;rcases(f b).mp z with⟨hm,rfl⟩|z
  ·show⟨o,g,λn i=>?_⟩;subst i
   cases hd with
   |tup=>show absurd hm (by simp[Hd.mu])
   |lst=>cases q
   |dic t m=>rcases q with⟨_,_,e,_⟩|⟨_,_,_,_,e,_⟩<;>cases e
   |obj c ns=>obtain⟨_,_,_,_,e,_⟩:=q;cases e
  ·show TrL.dom t b z
theorem TrL.dom:∀{ds:List D} {es:List Ow} {r:Ow} {vs:List V} {F:Pr},TrL K H S ds es r vs F->∀b,F b->∃o,H b=Pj o/\∀xs,o≠.tup xs
 |[],_,_,_,_,h=>by unfold TrL at h;show λb z=>absurd z (h.2 b)
 |d::ds,es,r,vs,F,h=>by
  unfold TrL at h;obtain⟨y,k,j,g,e,f,i,a,c⟩:=h;intro b z;rcases(f b).mp z with z|z
  ·show Tr.dom a b z
  ·show TrL.dom c b z
end
end
end J
namespace J
abbrev Gh:=Ps->Option (Option Nat)
def Sx(g:Gh)(F:Pr):Pr:=λb=>g b≠Pl\/F b
abbrev Sg(g:Gh):Pr:=λb=>g b≠Pl
inductive Kd where
 |sh|fr (k:Ow)|bo (i:Nat) (k:Ow)
def VR1(K:Md)(H:Hp)(g:Gh)(Ft:Pr):Kd->D->V->Pr->Prop
 |.sh,d,v,F=>(∀b,¬F b)/\Rp K H (Sx g Ft) d v
 |.fr k,d,v,F=>Tr K H (Sx g Ft) d k v F
 |.bo i k,d,v,F=>(∀b,¬F b)/\∃q,(∀b,q b->g b=Pj (Pj i))/\Tr K H (Sx g Ft) d k v q
def VRL(K:Md)(H:Hp)(g:Gh)(Ft:Pr):List (Kd×D)->List V->Pr->Prop
 |[],vs,F=>vs=[]/\∀b,¬F b
 |(kd,d)::r,vs,F=>∃y ys F1 F2,vs=y::ys/\(∀b,F b↔F1 b\/F2 b)/\(∀b,F1 b->¬F2 b)/\VR1 K H g Ft kd d y F1/\VRL K H g Ft r ys F2
def VR(K:Md)(g:Gh)(H0 H:Hp)(q:Kd)(d:D)(v:V):Prop:=∃F:Pr,(∀b,F b->H0 b=Pl)/\VR1 K H g F q d v F
def VRs(K:Md)(g:Gh)(H0 H:Hp)(kds:List (Kd×D))(vs:List V):Prop:=∃F:Pr,(∀b,F b->H0 b=Pl)/\VRL K H g F kds vs F
section
variable {K:Md} {H H' H0 H1:Hp} {g:Gh} {Ft Ft' F:Pr}
theorem VR1.go(s:Same H H')(j:∀b o,H b=Pj o->Ft' b->Ft b)(h:VR1 K H g Ft kd d v F):VR1 K H' g Ft' kd d v F:=by
 let a:∀b o,H b=Pj o->¬Sx g Ft b->¬Sx g Ft' b:=λb o e n z=>n (z.imp id (j b o e))
 cases kd with
 |sh=>show⟨h.1,h.2.go λb o n e=>⟨s b o e,a b o e n⟩⟩
 |fr k=>show Tr.go (λb o _ e=>s b o e) a h
 |bo i k=>obtain⟨f,l,m,c⟩:=h;show⟨f,l,m,Tr.go (λb o _ e=>s b o e) a c⟩
theorem VR1.dom(h:VR1 K H g Ft kd d v F):∀b,F b->∃o,H b=Pj o/\∀xs,o≠.tup xs:=by
 cases kd with
 |sh=>show λb z=>absurd z (h.1 b)
 |fr k=>show Tr.dom h
 |bo i k=>show λb z=>absurd z (h.1 b)
theorem VRL.dom:∀{kds:List (Kd×D)} {vs:List V} {F:Pr},VRL K H g Ft kds vs F->∀b,F b->∃o,H b=Pj o/\∀xs,o≠.tup xs
 |[],_,_,h=>λb z=>absurd z (h.2 b)
 |(kd,d)::r,_,_,h=>by
  obtain⟨y,l,k,i,e,c,j,f,a⟩:=h;intro b z;rcases(c b).mp z with z|z
  ·show f.dom b z
  ·show VRL.dom a b z
theorem VR.same(s:Same H H')(h:VR K g H0 H kd d v):VR K g H0 H' kd d v:=
 let ⟨F,h1,h2⟩:=h;⟨F,h1,h2.go s λ_ _ _ z=>z⟩
theorem VR.older(s:Same H0 H1)(h:VR K g H1 H kd d v):VR K g H0 H kd d v:=
 let ⟨F,h1,h2⟩:=h;⟨F,λb z=>s.free (h1 b z),h2⟩
theorem VR1.rd(h:VR1 K H g Ft kd d v F):Rp K H (λ_=>False) d v:=by
 cases kd with
 |sh=>show h.2.weak λb z=>z.elim
 |fr k=>show Tr.rd h
 |bo i k=>obtain⟨_,c,_,a⟩:=h;show a.rd
theorem VR.rd(h:VR K g H0 H kd d v):Rp K H (λ_=>False) d v:=let ⟨F,h1,h2⟩:=h;h2.rd
theorem VRL.rd:∀{kds:List (Kd×D)} {vs:List V} {F:Pr},VRL K H g Ft kds vs F->RpL K H (λ_=>False) (kds.map (·.2)) vs
 |[],_,_,h=>by rw[h.1];show .nil
 |(kd,d)::r,_,_,h=>by
  obtain⟨y,i,f,c,rfl,j,e,b,a⟩:=h;show .cons b.rd (VRL.rd a)
def qM:Kd->D->Bool
 |.bo _ _,d=>qL d
 |_,_=>Pm
theorem MuOk.same(m:MuOk H S)(s:Same H H'):MuOk H' S:=λa z=>let ⟨o,e,n⟩:=m a z;⟨o,s a o e,n⟩
theorem VR1.sh{S:Pr}(e:qM kd d=Pm)(m:MuOk H S)(a:∀b,S b->(g b≠Pl\/Ft b)/\¬F b)(h:VR1 K H g Ft kd d v F):Rp K H S d v:=by
 cases kd with
 |sh=>show h.2.weak λb z=>(a b z).1
 |fr k=>show Tr.rp (λb z=>⟨(a b z).1,(a b z).2⟩) h
 |bo i k=>obtain⟨_,f,j,c⟩:=h;show c.rd.im m e
theorem VR.sh(f:qM kd d=Pm)(m:MuOk H0 (Sg g))(s:Same H0 H)(h:VR K g H0 H kd d v):Rp K H (Sg g) d v:=by
 obtain⟨F,i,c⟩:=h;show c.sh f (m.same s) λb z=>⟨.inl z,λa=>?_⟩;obtain⟨o,e,_⟩:=m b z;rw[i b a] at e;cases e
theorem VRL.sh{S:Pr}(m:MuOk H S):∀{kds:List (Kd×D)} {vs:List V} {F:Pr},(kds.all λp=>qM p.1 p.2)=Pm->(∀b,S b->(g b≠Pl\/Ft b)/\¬F b)->VRL K H g Ft kds vs F->RpL K H S (kds.map (·.2)) vs
 |[],_,_,_,_,h=>by rw[h.1];show .nil
 |(kd,d)::r,_,F,ok,hS,h=>by
  obtain⟨y,l,k,i,rfl,c,j,f,e⟩:=h;rw[No,Me] at ok;show .cons (f.sh ok.1 m λb z=>⟨(hS b z).1,λa=>(hS b z).2 ((c b).mpr (.inl a))⟩) (VRL.sh m ok.2 (λb z=>⟨(hS b z).1,λa=>(hS b z).2 ((c b).mpr (.inr a))⟩) e)
theorem VRs.sh{kds:List (Kd×D)}(d:(kds.all λp=>qM p.1 p.2)=Pm)(m:MuOk H0 (Sg g))(s:Same H0 H)(h:VRs K g H0 H kds vs):RpL K H (Sg g) (kds.map (·.2)) vs:=by
 obtain⟨F,f,c⟩:=h;show c.sh (m.same s) d λb z=>⟨.inl z,λa=>?_⟩;obtain⟨o,e,_⟩:=m b z;rw[f b a] at e;cases e
theorem VRs.rd{kds:List (Kd×D)}(h:VRs K g H0 H kds vs):RpL K H (λ_=>False) (kds.map (·.2)) vs:=let ⟨F,h1,h2⟩:=h;h2.rd
theorem VRs.nil:VRs K g H0 H [] []:=⟨λ_=>False,λb z=>z.elim,rfl,λb z=>z⟩
open Classical in
noncomputable def Gh.plus(g:Gh)(F:Pr):Gh:=λb=>if F b then Pj Pl else g b
theorem al(b:Ps):Sg (g.plus F) b↔Sg g b\/F b:=by
 unfold Gh.plus Sg;by_cases h:F b
 ·simp[h]
 ·simp[h]
theorem bL(h:g.plus F b=Pj (Pj i)):g b=Pj (Pj i):=by
 unfold Gh.plus at h;split at h
 ·cases h
 ·show h
theorem bT(h:g b=Pj (Pj i))(n:¬F b):g.plus F b=Pj (Pj i):=by
 unfold Gh.plus;rw[if_neg n];show h
theorem VR1.unplus{F1:Pr}(h:VR1 K H (g.plus F1) Ft kd d v F):VR1 K H g (λb=>F1 b\/Ft b) kd d v F:=by
 let a:∀b o,H b=Pj o->¬Sx (g.plus F1) Ft b->¬Sx g (λb=>F1 b\/Ft b) b:=λb o e n z=>n (z.elim (λz=>.inl ((al b).mpr (.inl z))) λz=>z.elim (λz=>.inl ((al b).mpr (.inr z))) .inr)
 cases kd with
 |sh=>show⟨h.1,h.2.go λb o n e=>⟨e,a b o e n⟩⟩
 |fr k=>show Tr.go (λb o _ e=>e) a h
 |bo i k=>obtain⟨f,j,l,c⟩:=h;show⟨f,j,λb z=>bL (l b z),Tr.go (λb o _ e=>e) a c⟩
theorem VRL.unplus{F1:Pr}:∀{kds:List (Kd×D)} {vs:List V} {F:Pr},VRL K H (g.plus F1) Ft kds vs F->VRL K H g (λb=>F1 b\/Ft b) kds vs F
 |[],_,_,h=>h
 |(kd,d)::r,_,_,h=>by
  obtain⟨y,i,F1,a,e,j,c,k,f⟩:=h;show⟨y,i,F1,a,e,j,c,k.unplus,VRL.unplus f⟩
theorem VRs.cons{f:Kd}{d:D}{v:V}{kds:List (Kd×D)}{vs:List V}{F1:Pr}(s:Same H0 H)(s1:Same H H')(i:∀b,F1 b->H0 b=Pl)(a:VR1 K H g F1 f d v F1)(h2:VRs K (g.plus F1) H H' kds vs):VRs K g H0 H' ((f,d)::kds) (v::vs):=by
 obtain⟨c,b1,b2⟩:=h2;let j:=a.dom;show⟨λb=>F1 b\/c b,λb z=>z.elim (i b) λz=>s.free (b1 b z),v,vs,F1,c,rfl,λb=>Iff.rfl,λb k h=>?_,a.go s1 λb o e z=>z.elim id λz=>?_,b2.unplus⟩
 ·obtain⟨o,e,_⟩:=j b k;rw[b1 b h] at e;cases e
 ·rw[b1 b z] at e;cases e
theorem VRs.one(h:VRs K g H0 H [(kd,d)] vs):∃v,vs=[v]/\VR K g H0 H kd d v:=by
 obtain⟨F,k,y,n,c,l,rfl,a,m,j,i,f⟩:=h;subst i;let e:∀b,F b->c b:=λb z=>((a b).mp z).elim id λz=>absurd z (f b);show⟨y,rfl,c,λb z=>k b ((a b).mpr (.inl z)),j.go (λ_ _ h=>h) λb _ _ z=>(a b).mpr (.inl z)⟩
end
structure Sl where
 lk:Bool
 k:Ow
 d:D
abbrev Ro:=List (Option Sl)
noncomputable def qN:Ow->Bool
 |.fz=>Pm
 |_=>Po
def oI(i:Nat)(s:Sl):Kd×D:=(if qN s.k then .sh else .bo i s.k,s.d)
structure SE(K:Md)(g:Gh)(Y:Ro)(Z:St)(H:Hp):Prop where
 slot:∀(i:Nat) (s:Sl),Y[i]?=Pj (Pj s)->∃v F,Z[i]?=Pj (Pj v)/\(∀b,F b->g b=Pj (Pj i))/\Tr K H (Sg g) s.d s.k v F
 mu:MuOk H (Sg g)
 len:Y.length=Z.length
section
variable {K:Md} {H H' H0 H1:Hp} {g g':Gh} {Y:Ro} {Z:St}
theorem SE.same(h:SE K g Y Z H)(s:Same H H'):SE K g Y Z H':=
 ⟨λi a e=>let ⟨v,F,e1,e2,e3⟩:=h.slot i a e;⟨v,F,e1,e2,e3.go (λb o _ e=>s b o e) λb o _ n=>n⟩,h.mu.same s,h.len⟩
theorem jS(h:qN k=Pm):k=.fz:=by cases k with|fz=>rfl|own es r=>cases h
theorem SE.get(h:SE K g Y Z H){i:Nat}(e:Y[i]?=Pj (Pj s)):∃v,Z[i]?=Pj (Pj v)/\VR K g H H (oI i s).1 (oI i s).2 v:=by
 obtain⟨v,F,e1,e2,e3⟩:=h.slot i s e;show⟨v,e1,λ_=>False,λb z=>z.elim,?_⟩;let t:Tr K H (Sx g λ_=>False) s.d s.k v F:=e3.go (λ_ _ _ h=>h) λb o _ n z=>n (z.elim id λz=>z.elim);unfold oI
 cases hk:qN s.k with
 |true=>
  rw[jS hk] at t;show⟨λb z=>z,t.fz_inv.2⟩
 |false=>show⟨λb z=>z,F,e2,t⟩
theorem SE.plus{F:Pr}(h:SE K g Y Z H)(s:Same H H')(a:∀b,F b->H b=Pl)(j:∀b,F b->∃o,H' b=Pj o/\∀xs,o≠.tup xs):SE K (g.plus F) Y Z H':=by
 show⟨λi d e=>?_,λb z=>?_,h.len⟩
 ·obtain⟨v,f,e1,e2,e3⟩:=h.slot i d e;show⟨v,f,e1,λb z=>bT (e2 b z) λc=>?_,e3.go (λb o _ e=>s b o e) λb o e n z=>?_⟩
  ·obtain⟨o,q,_⟩:=e3.dom b z;rw[a b c] at q;cases q
  ·rcases(al b).mp z with z|z
   ·show n z
   ·rw[a b z] at e;cases e
 ·rcases(al b).mp z with z|z
  ·show h.mu.same s b z
  ·show j b z
end
section
variable (X:Cx)
def wE(e:Pp):TE:=λZ H Q=>∀pins s,Inv X pins Z H s->Pv (Pw X.prog X.w) X.A (eval e X.env) (EP X pins Z Q) X.xe s
def wT(e:Pp):TT:=λZ H Q=>∀pins s,Inv X pins Z H s->Pv (Pw X.prog X.w) X.A (isTrue e X.env (eval e X.env)) (TP X pins Z Q) X.xe s
def wW(e:Pp):TT:=λZ H Q=>∀q pins s,Inv X pins Z H s->Pv (Pw X.prog X.w) X.A (isTrue e X.env q) (TP X pins Z Q) X.xe s
def wA(es:List Pp):TA:=λZ H Q=>∀pos pins s,Inv X pins Z H s->Pv (Pw X.prog X.w) X.A (spliced (backTo pos (Py es X.env))) (AP X pins Z Q) X.xe s
def wG(tg:Pp):TG:=λv Z H Q=>∀pins s u,Inv X pins Z H s->RelV v u->Pv (Pw X.prog X.w) X.A (assign tg X.env u) (λ_ s'=>∃Z' H',Inv X pins Z' H' s'/\Q Z' H') X.xe s
def wI(tg iter:Pp):TI:=λZ H R=>∀pins s,Inv X pins Z H s->Pv (Pw X.prog X.w) X.A (eval iter X.env) (λv s1=>Pv (Pw X.prog X.w) X.A (pyIter v) (JD X pins Z tg R) X.xe s1) X.xe s
end
section
variable {X:Cx}
theorem au:PE X e (wE X e):=λa s Z H Q I h=>h a s I
theorem hJ:PT X e (wT X e):=λa s Z H Q I h=>h a s I
theorem zV:PW X e (wW X e):=λb a s Z H Q I h=>h b a s I
theorem cU:PA X es (wA X es):=λb a s Z H Q I h=>h b a s I
theorem uX:PI X tg iter (wI X tg iter):=λa s Z H R I h=>h a s I
theorem uY:PG X tg (wG X tg):=λa s Z H v u Q I r h=>h a s u I r
theorem ao{t:TE}(p:PE X e t)(h:t Z H Q):wE X e Z H Q:=λa s I=>p a s Z H Q I h
theorem wY{t:TT}(p:PT X e t)(h:t Z H Q):wT X e Z H Q:=λa s I=>p a s Z H Q I h
theorem lZ{t:TT}(p:PW X e t)(h:t Z H Q):wW X e Z H Q:=λb a s I=>p b a s Z H Q I h
theorem kt{t:TA}(p:PA X es t)(h:t Z H Q):wA X es Z H Q:=λb a s I=>p b a s Z H Q I h
theorem ku{t:TI}(p:PI X tg iter t)(h:t Z H R):wI X tg iter Z H R:=λa s I=>p a s Z H R I h
theorem sG{t:TG}(p:PG X tg t)(h:t v Z H Q):wG X tg v Z H Q:=λa s u I r=>p a s Z H v u Q I r h
end
def SndE(X:Cx)(f:Ro->Option (Kd×D))(e:Pp):Prop:=∀Y q d,f Y=Pj (q,d)->∀g Z H Q,SE X.K g Y Z H->(∀v H',Same H H'->VR X.K g H H' q d v->Q v H')->wE X e Z H Q
def SndT(X:Cx)(f:Ro->Option Bool)(e:Pp):Prop:=∀Y b,f Y=Pj b->∀g Z H Q,SE X.K g Y Z H->(∀H',Same H H'->Q b H')->wT X e Z H Q
def jL(X:Cx)(f:Ro->Option (List (Kd×D)))(es:List Pp):Prop:=∀Y kds,f Y=Pj kds->∀g Z H Q,SE X.K g Y Z H->(∀vs H',Same H H'->VRs X.K g H H' kds vs->Q vs H')->wA X es Z H Q
end J
namespace G
open PyProof.Rows
noncomputable def jy(n:Nat)(lo st:Option Int):List Nat:=sliceRange (sliceBounds lo Pl st n).1 (sliceBounds lo Pl st n).2.1 (sliceBounds lo Pl st n).2.2
def cj{α:Type}(xs:List α)(lo st:Option Int):List α:=(jy xs.length lo st).filterMap λi=>xs[i]?
theorem l4{xs:List V}{us:List Pn}(r:Vals xs us):∀a:List Nat,Vals (a.filterMap λi=>xs[i]?) (a.filterMap λi=>us[i]?)
 |[]=>.nil
 |i::a=>by
  let b:=l4 r a;by_cases h:i<xs.length
  ·let c:i<us.length:=by rw[<- r.length];show h
   obtain⟨u,e1,e2⟩:=r.get (Ms h);rw[MU,MU,Ms h,e1];show .cons e2 b
  ·rw[MU,MU,MY (by lia),MY (by rw[<- r.length];lia)];show b
section
variable {X:Cx}
def JW(te:TE)(tl:TO)(q:TE):TE:=λZ H Q=>te Z H λx H1=>tl Z H1 λl H2=>q Z H2 λy B=>∃a xs k,x=.ref a/\y=.int k/\k≠0/\SqL X.K B a xs/\∀p,B p=Pl->Q (.ref p) (upd B p (.lst (cj xs l (Pj k))))
theorem Dv{e st:Pp}{lo:Option Pp}{te j:TE}{tl:TO}{p2 pos:Pos}(K:PE X e te)(C:PO X lo tl)(n:PE X st j):PE X (.Subscript e (.Slice lo Pl (Pj st) p2) pos) (JW (X:=X) te tl j):=by
 intro c s Z H Q I h;show Subscript_ (a5 (K c s Z H _ I h) λv s1 g=>?_);obtain⟨x,D,M,V,T⟩:=g;show wpAny_Slice (a5 (C c s1 Z D _ M T) λu s2 g=>?_);obtain⟨l,W,Y,P,U⟩:=g;rw[evalPart_none];show Pu ?_;show a5 (n c s2 Z W _ Y U) λE f g=>?_;obtain⟨y,R,O,L,N⟩:=g;obtain⟨a,z,k,rfl,rfl,hk,S,q⟩:=N;obtain⟨t,rfl⟩:=L;cases V;let m:Inv X c Z R { f with heap:=f.heap.push { cls:=.type "slice",data:=.fields #[u,.none,.int k t] } }:=O.kept (t':=f.toks) λb F q=>Mf _ q;obtain⟨d,r,p,g⟩:=m.list S;change Pv (Pw X.prog X.w) X.A (subscriptTail e (.Slice lo Pl (Pj st) p2) (.ref a) (.ref f.heap.objs.size)) (EP X c Z Q) X.xe { f with heap:=f.heap.push { cls:=.type "slice",data:=.fields #[u,.none,.int k t] } };show tail_any (ops:=[.ref a,.ref f.heap.objs.size]) p.isList.typeIs slot_list_getitem.lookup ?_ (by with_unfolding_all rfl);show wpAny_getItem_list_slice p.isList (Heap.IsSliceOf.new ..) P .none (.int _ _) (by simpa using hk) ?_ (by rw[Mm,<- r.length];show g)
 let e1:slicePick d.toArray l Pl (Pj k)=(cj d l (Pj k)).toArray:=by
  unfold slicePick cj jy;simp
 rw[e1];let i:=slicePick_size_le d.toArray l Pl (Pj k);rw[e1,Mm,Mm] at i
 let B:Vals (cj z l (Pj k)) (cj d l (Pj k)):=by
  unfold cj;rw[r.length];show l4 r _
 show⟨.ref _,_,m.laid (t':=f.toks) (o:=.lst (cj z l (Pj k))) (λb F q=>Mf _ q) (Mi _) ?_,rfl,q _ (m.hok.fresh (Mi _))⟩;show⟨by rw[B.length];show MP i (by rw[<- r.length];show g),_,0,B,Mp _ rfl⟩
end
abbrev Kk:=L2.aJ
instance:LawfulBEq Kk where
 eq_of_beq:=λ{a b} h=>by
  cases a<;>cases b
  ·let h:_==_:=h;show congrArg Sum.inl (eq_of_beq h)
  ·cases h
  ·cases h
  ·show congrArg Sum.inr (eq_of_beq (h))
 rfl:=λ{a}=>by
  cases a
  ·show beq_self_eq_true (α:=Int) _
  ·show beq_self_eq_true (α:=Str) _
end G
set_option exponentiation.threshold 5000
namespace J
mutual
noncomputable def py:D->PyData
 |.non=>.none
 |.bl b=>.bool b
 |.int i=>.int i
 |.str x=>.str x
 |.scr ns=>.list (ns.map .int)
 |.nd .lst ds=>.list (wZ ds)
 |.nd .tup ds=>.tuple (wZ ds)
 |.nd (.dic _ _) _=>.dict []
 |.nd (.obj _ _) _=>.none
noncomputable def wZ:List D->List PyData
 |[]=>[]
 |d::ds=>py d::wZ ds
end
mutual
noncomputable def dY:Nat->D->Bool
 |_,.non=>Pm
 |_,.bl _=>Pm
 |_,.int _=>Pm
 |_,.str x=>PyData.strOk x
 |n,.scr _=>decide (1<=n)
 |n,.nd .lst ds=>decide (1<=n)&&jM (n-1) ds
 |n,.nd .tup ds=>decide (1<=n)&&jM (n-1) ds
 |_,.nd (.dic _ _) _=>Po
 |_,.nd (.obj _ _) _=>Po
noncomputable def jM:Nat->List D->Bool
 |_,[]=>Pm
 |n,d::ds=>dY n d&&jM n ds
end
section
variable {X:Cx} {pins:List (Ps×Obj)} {Z:L2.St} {H:Hp} {s:Pt} {S:Pr}
theorem gm:∀{ns:List Int} {us:List Pn},Vals (ns.map V.int) us->∃a,ReadsAll h us (ns.map .int) a
 |[],_,.nil=>⟨_,.nil⟩
 |n::ns,_,.cons r t=>by
  obtain⟨b,e⟩:=(show ∃t,_=Value.int n t from r);subst e;obtain⟨a,q⟩:=gm t;show⟨_,.cons (.int n b) q⟩
theorem jT:∀ns:List Int,PyData.canLayAll0 (ns.map .int)=Pm/\PyData.depthAll (ns.map .int)=0
 |[]=>by simp[PyData.canLayAll0,PyData.depthAll]
 |n::ns=>by
  have:=jT ns;simp[PyData.canLayAll0,PyData.depthAll,PyData.canLay0,PyData.depth,this]
mutual
theorem eX(I:Inv X pins Z H s):∀{d:D} {n:Nat} {v:V} {u:Pn},dY n d=Pm->Rp X.K H S d v->RelV v u->(∃w,Reads s.heap u (py d) w)/\(py d).canLay0=Pm/\(py d).depth<=n
 |.non,n,v,u,_,r,e=>by unfold Rp at r;subst r;cases e;simp only[py];show⟨⟨_,.none⟩,by simp[PyData.canLay0],by simp[PyData.depth]⟩
 |.bl b,n,v,u,_,r,e=>by unfold Rp at r;subst r;cases e;simp only[py];show⟨⟨_,.bool b⟩,by simp[PyData.canLay0],by simp[PyData.depth]⟩
 |.int i,n,v,u,_,r,e=>by unfold Rp at r;subst r;obtain⟨t,rfl⟩:=e;simp only[py];show⟨⟨_,.int i t⟩,by simp[PyData.canLay0],by simp[PyData.depth]⟩
 |.str x,n,v,u,h,r,e=>by unfold Rp at r;subst r;obtain⟨t,rfl⟩:=e;simp only[py];show⟨⟨_,.str x t⟩,by simpa[PyData.canLay0,dY] using h,by simp[PyData.depth]⟩
 |.scr ns,n,v,u,h,r,e=>by
  unfold Rp at r;obtain⟨a,rfl,r⟩:=r;cases e;let q:SqL X.K H a (ns.map V.int):=r.elim (λr=>.inl r.2) .inr;obtain⟨j,p,⟨o,m,f,l,L,k⟩,z⟩:=I.list q;obtain⟨w,c⟩:=gm (h:=s.heap) p;simp only[py];let F:1<=n:=by simpa[dY] using h
  show⟨⟨_,.list f l k (by simpa using c)⟩,by simpa[PyData.canLay0] using(jT ns).1,by simp[PyData.depth,(jT ns).2,F]⟩
 |.nd .lst ds,n,v,u,h,r,e=>by
  unfold Rp at r;obtain⟨a,o,A,rfl,C,g,q,y⟩:=r;cases e;let q:o=.lst A:=q;subst q;obtain⟨j,p,⟨o,m,f,l,L,k⟩,z⟩:=I.list (SqL.of g);simp only[dY,Me,decide_eq_true_eq] at h;obtain⟨⟨w,c⟩,B,E⟩:=iU I h.2 y p;simp only[py];show⟨⟨_,.list f l k (by simpa using c)⟩,by simpa[PyData.canLay0] using B,by simp only[PyData.depth];lia⟩
 |.nd .tup ds,n,v,u,h,r,e=>by
  unfold Rp at r;obtain⟨a,o,A,rfl,C,g,q,y⟩:=r;cases e;let q:o=.tup A:=q;subst q;obtain⟨j,p,⟨o,f,l,m,k⟩,z⟩:=I.tuple (SqT.of g);simp only[dY,Me,decide_eq_true_eq] at h;obtain⟨⟨w,c⟩,B,E⟩:=iU I h.2 y p;simp only[py];show⟨⟨_,.tuple f l k (by simpa using c)⟩,by simpa[PyData.canLay0] using B,by simp only[PyData.depth];lia⟩
 |.nd (.dic _ _) _,n,v,u,h,r,e=>by simp[dY] at h
 |.nd (.obj _ _) _,n,v,u,h,r,e=>by simp[dY] at h
theorem iU(I:Inv X pins Z H s):∀{ds:List D} {n:Nat} {xs:List V} {us:List Pn},jM n ds=Pm->RpL X.K H S ds xs->Vals xs us->(∃a,ReadsAll s.heap us (wZ ds) a)/\PyData.canLayAll0 (wZ ds)=Pm/\PyData.depthAll (wZ ds)<=n
 |[],n,xs,us,_,r,e=>by rw[r.nil_inv] at e;cases e;simp only[wZ];show⟨⟨_,.nil⟩,by simp[PyData.canLayAll0],by simp[PyData.depthAll]⟩
 |d::ds,n,xs,us,h,r,e=>by
  obtain⟨y,o,rfl,g,c⟩:=r.cons_inv;simp only[jM,Me] at h
  cases e with
  |cons e1 e2=>
   obtain⟨⟨a,b⟩,i,k⟩:=eX I h.1 g e1;obtain⟨⟨l,j⟩,f,m⟩:=iU I h.2 c e2;simp only[wZ];show⟨⟨_,.cons b j⟩,by simp[PyData.canLayAll0,i,f],by simp only[PyData.depthAll];lia⟩
end
end
def ze(x y:D):Bool:=PyData.eqv (py x) (py y)
noncomputable def lim:Nat:=2^4000
noncomputable abbrev aO:Ow:=.own [] .fz
def eY:Ow->Bool
 |.fz=>Pm
 |.own es r=>es.all qN&&qN r
def eA:Kd->List D->Bool
 |.bo _ k,ds=>eY k||zU ds
 |_,_=>Pm
abbrev KD:=Kd×D
def oJ:PJ->Int->Int->Option Int
 |.Add,i,j=>Pj (i+j)
 |.Sub,i,j=>Pj (i-j)
 |.Mult,i,j=>if i.natAbs<lim/\j.natAbs<lim then Pj (i*j) else Pl
 |.FloorDiv,i,j=>if 0<j/\j.natAbs<lim then Pj (i / j) else Pl
 |.Mod,i,j=>if 0<j then Pj (i%j) else Pl
 |.LShift,i,j=>if 0<=j/\j<=1000000/\i.natAbs<lim then Pj (i*2^j.toNat) else Pl
 |.Pow,i,j=>if 0<=j/\j<=1000000/\i.natAbs<2^64 then Pj (i^j.toNat) else Pl
 |.RShift,i,j=>if 0<=j then Pj (i / 2^j.toNat) else Pl
 |.BitAnd,i,j=>Pj (Builtin.bitAnd i j)
 |.BitOr,i,j=>Pj (Builtin.bitOr i j)
 |.BitXor,i,j=>Pj (Builtin.bitXor i j)
 |_,_,_=>Pl
def GJ(op:PJ)(k:Kd)(xs:List D)(y:KD):Option KD:=match op with
 |.Add=>(match y.2 with
  |.nd hd ys=>(match hd with
   |.lst=>if eA k xs=Pm/\eA y.1 ys=Pm/\xs.length+ys.length<=100000 then Pj (.fr aO,.lst (xs++ys)) else Pl
   |_=>Pl)
  |_=>Pl)
 |.Mult=>(match y.2 with
  |.int n=>if eA k xs=Pm/\0<=n/\n<=100000/\xs.length*n.toNat<=100000 then Pj (.fr aO,.lst (MC n.toNat xs).flatten) else Pl
  |_=>Pl)
 |_=>Pl
noncomputable def GK(op:PJ)(k:Kd)(xs:List D)(y:KD):Option KD:=Pl
noncomputable def GL(op:PJ)(i:Str)(y:D):Option KD:=Pl
def f6(op:PJ)(x y:KD):Option KD:=match x.2 with
 |.int i=>(match y.2 with|.int j=>(match oJ op i j with|some z=>Pj (.sh,.int z)|none=>Pl)|_=>Pl)
 |.nd hd xs=>(match hd with|.lst=>GJ op x.1 xs y|.tup=>GK op x.1 xs y|_=>Pl)
 |.str i=>GL op i y.2
 |_=>Pl
theorem fL(h:oJ op i j=Pj z):f6 op (k,.int i) (k',.int j)=Pj (.sh,.int z):=by
 change(match oJ op i j with|some z=>Pj (Kd.sh,D.int z)|none=>Pl)=_
 rw[h]
theorem uZ{p:Prop}[Decidable p]{α:Type}{a b:α}(h:(if p then Pj a else Pl)=Pj b):p/\b=a:=by
 by_cases c:p
 ·rw[if_pos c] at h;cases h;show⟨c,rfl⟩
 ·rw[if_neg c] at h;cases h
theorem aK{n:Nat}(h:n<=100000):n<=sizeLine:=MP h (by decide)
section
variable {K:Md} {H H' H0:Hp} {S:Pr} {g:Gh}
theorem Rp.int(h:Rp K H S (.int i) v):v=.int i:=by unfold Rp at h;show h
theorem Rp.bl(h:Rp K H S (.bl i) v):v=.bl i:=by unfold Rp at h;show h
theorem Rp.str(h:Rp K H S (.str i) v):v=.str i:=by unfold Rp at h;show h
theorem Rp.non(h:Rp K H S .non v):v=.non:=by unfold Rp at h;show h
theorem Rp.nd(h:Rp K H S (.nd hd ds) v):∃a o xs,v=.ref a/\¬S a/\H a=Pj o/\cR K o hd xs/\RpL K H S ds xs:=by unfold Rp at h;show h
theorem Rp.scr{ns:List Int}(h:Rp K H S (.scr ns) v):∃a,v=.ref a/\SqL K H a (ns.map V.int):=by
 unfold Rp at h;obtain⟨a,e,h⟩:=h;show⟨a,e,h.elim (λh=>.inl h.2) .inr⟩
theorem qO:VR K g H0 H .sh (.int i) (.int i):=⟨λ_=>False,λ_ z=>z.elim,λ_ z=>z,by unfold Rp;rfl⟩
theorem BF:VR K g H0 H .sh (.bl i) (.bl i):=⟨λ_=>False,λ_ z=>z.elim,λ_ z=>z,by unfold Rp;rfl⟩
theorem GM:VR K g H0 H .sh (.str i) (.str i):=⟨λ_=>False,λ_ z=>z.elim,λ_ z=>z,by unfold Rp;rfl⟩
theorem Dw:VR K g H0 H .sh .non .non:=⟨λ_=>False,λ_ z=>z.elim,λ_ z=>z,by unfold Rp;rfl⟩
theorem FC(h:Rp K H (Sg g) d v):VR K g H0 H .sh d v:=⟨λ_=>False,λ_ z=>z.elim,λ_ z=>z,h.weak λb z=>z.elim id λz=>z.elim⟩
theorem ag(a:H p=Pl):Same H (upd H p o):=λb u q=>by rw[ah (aB q a)];show q
theorem TrL.ofFz:∀{ds:List D} {xs:List V},RpL K H S ds xs->TrL K H S ds [] .fz xs λ_=>False
 |[],_,h=>by unfold TrL;show⟨h.nil_inv,λ_ z=>z⟩
 |d::ds,_,h=>by
  obtain⟨y,a,rfl,r,t⟩:=h.cons_inv;unfold TrL;show⟨y,a,_,_,rfl,λb=>⟨.inl,λz=>z.elim id id⟩,λ_ z=>z.elim,Tr.fz r,TrL.ofFz t⟩
theorem kA(a:H p=Pl)(r:RpL K H (Sg g) ds xs):VR K g H (upd H p (.lst xs)) (.fr aO) (.lst ds) (.ref p):=by
 show⟨λb=>b=p,λb z=>z▸a,?_⟩;change Tr K _ _ _ _ _ _;unfold Tr
 show⟨p,_,xs,λ_=>False,rfl,ak,rfl,λ_ z=>z,(λh=>nomatch h),λb=>⟨λz=>.inl ⟨rfl,z⟩,λz=>z.elim (λz=>z.2) λz=>z.elim⟩,.ofFz (r.go λb o n e=>⟨ag a b o e,λz=>z.elim n λz=>?_⟩)⟩
 subst z;rw[a] at e;cases e
theorem zW(m:MuOk H (Sg g))(a:H p=Pl)(r:RpL K H (Sg g) ds xs):VR K g H (upd H p (.tup xs)) .sh (.tup ds) (.ref p):=by
 show FC ?_;unfold Rp;show⟨p,_,xs,rfl,λz=>?_,ak,rfl,r.same (ag a)⟩;obtain⟨o,e,_⟩:=m p z;rw[a] at e;cases e
theorem sH{es:List Ow}(h:eY (.own es r)=Pm):(∀e∈es,e=.fz)/\r=.fz:=by
 simp only[eY,Me,Nx] at h;show⟨λe a=>jS (h.1 e a),jS h.2⟩
theorem TrL.flat:∀{ds:List D} {es:List Ow} {xs:List V} {F:Pr},(∀e∈es,e=.fz)->TrL K H S ds es .fz xs F->(∀b,¬F b)/\RpL K H S ds xs
 |[],_,_,_,_,h=>by unfold TrL at h;show⟨h.2,by rw[h.1];show .nil⟩
 |d::ds,es,_,_,he,h=>by
  unfold TrL at h;obtain⟨y,p,n,m,rfl,i,o,c,g⟩:=h
  let e:es.headD .fz=.fz:=by
   cases es with
   |nil=>rfl
   |cons a r=>show he a (.head _)
  rw[e] at c;obtain⟨k,l⟩:=c.fz_inv
  obtain⟨f,j⟩:=TrL.flat (λe q=>he e (by cases es with|nil=>cases q|cons a r=>show .tail _ q)) g
  show⟨λb z=>((i b).mp z).elim (k b) (f b),.cons l j⟩
theorem VR.items(c:eA kd ds=Pm)(m:MuOk H0 (Sg g))(s:Same H0 H)(h:VR K g H0 H kd (.nd hd ds) v):∃a o xs,v=.ref a/\H a=Pj o/\cR K o hd xs/\RpL K H (Sg g) ds xs:=by
 let ns:∀{j:Kd},qM j (.nd hd ds)=Pm->VR K g H0 H j (.nd hd ds) v->∃a o xs,v=.ref a/\H a=Pj o/\cR K o hd xs/\RpL K H (Sg g) ds xs:=λc h=>by
  obtain⟨a,o,xs,e,_,d,f,l⟩:=(h.sh c m s).nd;show⟨a,o,xs,e,d,f,l⟩
 cases kd with
 |sh=>show ns rfl h
 |fr k=>show ns rfl h
 |bo i k=>
  simp only[eA,NC] at c;rcases c with c|c
  ·obtain⟨F,D,u,B,A,n⟩:=h
   cases k with
   |fz=>
    obtain⟨_,r⟩:=n.fz_inv;obtain⟨a,o,xs,e,_,d,f,l⟩:=r.nd;show⟨a,o,xs,e,d,f,l.weak λb z=>.inl z⟩
   |own y r=>
    obtain⟨p,rfl⟩:=sH c;unfold Tr at n;obtain⟨a,o,xs,C,e,d,f,x,q,w,t⟩:=n;show⟨a,o,xs,e,d,f,(t.flat p).2.weak λb z=>.inl z⟩
  ·obtain⟨a,o,xs,e,_,d,f,l⟩:=h.rd.nd;show⟨a,o,xs,e,d,f,l.im (m.same s) c⟩
end
def JX(K:Md)(op:PJ):R2:=λx y H Q=>∃g H0 kx q B d,MuOk H0 (Sg g)/\Same H0 H/\VR K g H0 H kx.1 kx.2 x/\VR K g H0 H q.1 q.2 y/\f6 op kx q=Pj (B,d)/\∀v H',Same H H'->VR K g H H' B d v->Q v H'
theorem GN{i j:Int}(h:i.natAbs<lim/\j.natAbs<lim):IntMulOk i j:=
 IntMulOk.of_bits (MP (PyProof.Rows.intBits_le (k:=4000) h.1) (by decide)) (MP (PyProof.Rows.intBits_le (k:=4000) h.2) (by decide))
theorem zX{j:Int}(h:j.natAbs<lim):j.natAbs.log2<9000:=by
 by_cases z:j.natAbs=0
 ·rw[z];decide
 ·show Mo ((Nat.log2_lt z).mpr h) (by decide)
theorem zY:gE X (binaryOp .Mult) (rI (λi j=>i.natAbs<lim/\j.natAbs<lim) λi j=>.int (i*j)):=FA λ_ _ _ _ _ _ _ a q=>PyProof.Rows.mul_int q (GN a)
theorem w4:gE X (binaryOp .FloorDiv) (rI (λi j=>0<j/\j.natAbs<lim) λi j=>.int (i / j)):=FA λi j _ _ _ _ _ a q=>by
 let b:(0:Int)<j:=a.1;show PyProof.Rows.floordiv_int (by lia) (by rw[Oq i (by lia)];show q) (.inl (PyProof.noPylong_of_log2 (zX a.2)))
theorem zZ:gE X (binaryOp .LShift) (rI (λi j=>0<=j/\j<=1000000/\i.natAbs<lim) λi j=>.int (i*2^j.toNat)):=FA λi j _ _ _ _ _ a q=>by
 let b:=PyProof.Rows.intBits_le (k:=4000) a.2.2;show PyProof.Rows.lshift_int a.1 (by have:=a.2.1;lia) q
theorem Dx{X:Cx}(op:PJ):gE X (binaryOp op) (JX X.K op):=by
 intro c s Z H x y v u Q I l r h;obtain⟨g,H0,⟨kx,dx⟩,⟨ky,M⟩,N,d,m,P,B,C,k,q⟩:=h;dsimp only at B C
 cases dx with
 |int i=>cases M with
  |int j=>
   obtain⟨rfl,rfl⟩:x=.int i/\y=.int j:=⟨B.rd.int,C.rd.int⟩
   let k:(match oJ op i j with|some z=>Pj (Kd.sh,D.int z)|none=>Pl)=Pj (N,d):=k
   cases f:oJ op i j with
   |none=>rw[f] at k;cases k
   |some z=>
    rw[f] at k;cases k;let q:Q (.int z) H:=q _ H (Same.refl H) qO
    cases op with
    |Add=>cases f;show C5 c s Z H _ _ v u Q I l r ⟨_,_,rfl,rfl,q⟩
    |Sub=>cases f;show C6 c s Z H _ _ v u Q I l r ⟨_,_,rfl,rfl,q⟩
    |Mult=>obtain⟨t,rfl⟩:=uZ (show(if _ then Pj (i*j) else Pl)=Pj z from f);show zY c s Z H _ _ v u Q I l r ⟨_,_,rfl,rfl,t,q⟩
    |FloorDiv=>obtain⟨t,rfl⟩:=uZ (show(if _ then Pj (i / j) else Pl)=Pj z from f);show w4 c s Z H _ _ v u Q I l r ⟨_,_,rfl,rfl,t,q⟩
    |Mod=>obtain⟨t,rfl⟩:=uZ (show(if _ then Pj (i%j) else Pl)=Pj z from f);show C7 c s Z H _ _ v u Q I l r ⟨_,_,rfl,rfl,t,q⟩
    |LShift=>obtain⟨t,rfl⟩:=uZ (show(if _ then Pj (i*2^j.toNat) else Pl)=Pj z from f);show zZ c s Z H _ _ v u Q I l r ⟨_,_,rfl,rfl,t,q⟩
    |Pow=>obtain⟨t,rfl⟩:=uZ (show(if _ then Pj (i^j.toNat) else Pl)=Pj z from f);show C8 c s Z H _ _ v u Q I l r ⟨_,_,rfl,rfl,t,q⟩
    |RShift=>obtain⟨t,rfl⟩:=uZ (show(if _ then Pj (i / 2^j.toNat) else Pl)=Pj z from f);show C9 c s Z H _ _ v u Q I l r ⟨_,_,rfl,rfl,t,q⟩
    |BitAnd=>cases f;show Da c s Z H _ _ v u Q I l r ⟨_,_,rfl,rfl,q⟩
    |BitOr=>cases f;show Gi c s Z H _ _ v u Q I l r ⟨_,_,rfl,rfl,q⟩
    |BitXor=>cases f;show Db c s Z H _ _ v u Q I l r ⟨_,_,rfl,rfl,q⟩
    |_=>cases f
  |_=>cases k
 |nd T S=>cases T with
  |lst=>cases op with
   |Add=>cases M with
    |nd O V=>cases O with
     |lst=>
      obtain⟨f,e⟩:=uZ (show(if _ then Pj (Kd.fr aO,D.lst (S++V)) else Pl)=Pj (N,d) from k)
      cases e;obtain⟨a,o,F,rfl,L,E,A⟩:=B.items f.1 m P;obtain⟨b,o',W,rfl,U,Y,R⟩:=C.items f.2.1 m P;cases(show o=_ from E);cases(show o'=_ from Y);show Dl c s Z H _ _ v u Q I l r ⟨a,b,F,W,rfl,rfl,L,U,by rw[A.len,R.len];show aK f.2.2,λp w=>q _ _ (ag w) (kA w (A.append R))⟩
     |_=>cases k
    |_=>cases k
   |Mult=>cases M with
    |int n=>
     obtain⟨f,e⟩:=uZ (show(if _ then Pj (Kd.fr aO,D.lst (MC n.toNat S).flatten) else Pl)=Pj (N,d) from k)
     cases e;obtain⟨a,o,F,rfl,L,E,A⟩:=B.items f.1 m P;cases(show o=_ from E);obtain rfl:=C.rd.int;show Dm c s Z H _ _ v u Q I l r ⟨a,_,F,rfl,rfl,L,by lia,by lia,by rw[A.len];show aK f.2.2.2,λp w=>q _ _ (ag w) (kA w (A.rep _))⟩
    |_=>cases k
   |_=>cases k
  |tup=>cases k
  |_=>cases k
 |str i=>cases k
 |_=>cases k
end J
namespace G
open PySem PySem.Spec PySem.Calls PyProof.Rows L2
noncomputable def z3:List Int->List Int->Bool
 |[],[]=>Po
 |[],_::_=>Pm
 |_::_,[]=>Po
 |a::r,b::t=>if a=b then z3 r t else decide (a<b)
theorem sI{xs:List Int}{a:List Pn}(h:Vals (xs.map V.int) a){i:Nat}(hi:i<xs.length):∃t,a[i]?=Pj (.int xs[i] t):=by
 obtain⟨u,e,r⟩:=h.get (by rw[Mj,Ms hi];rfl);obtain⟨t,rfl⟩:=r;show⟨t,e⟩
theorem u0(l b:Ps)(c a:List Pn)(n L:Nat)(I q:Option Ps)(H v:Array (Option Pn))(xs ys:List Int)(y:Vals (xs.map V.int) c)(C:Vals (ys.map V.int) a)(k:Nat) :
  ∀i:Nat,c.length-i=k->i<=c.length->i<=a.length->Meets (Builtin.«list.__eq__.loop» ⟨[.ref l,.ref b,PZ i,PZ 0],[]⟩)
   (λA R s=>s.heap.get? l=Pj { cls:=.type "list",dict:=I,data:=.seq c.toArray n,slots:=H }/\s.heap.get? b=Pj { cls:=.type "list",dict:=q,data:=.seq a.toArray L,slots:=v }/\R (.ok (.ret (.bool (z3 (xs.drop i) (ys.drop i))))) s):=by
 let e1:c.length=xs.length:=by rw[<- y.length];simp
 let e2:a.length=ys.length:=by rw[<- C.length];simp
 induction k with
 |zero=>
  intro i hk O x f w A R s h;obtain⟨N,g,d,M,E⟩:=s;obtain⟨m,o,h⟩:=h
  wp_walk using wpAny_loadPart' m,wpAny_loadPart' o
  let e:c.toArray[((i:Nat):Int).toNat]?=Pl:=by simp;lia
  rw[e]
  wp_walk using wpAny_loadPart' m,wpAny_loadPart' o
  change R (.ok (.ret (.bool (decide (c.toArray.size<a.toArray.size))))) _;let D:xs.drop i=[]:=N5 (by lia);rw[D] at h;by_cases r:i<a.length
  ·rw[M0 (by lia:i<ys.length)] at h;rw[decide_eq_true (by simp;lia)];show h
  ·rw[N5 (by lia:ys.length<=i)] at h;rw[decide_eq_false (by simp;lia)];show h
 |succ k P=>
  intro i hk O x f w A R s h;obtain⟨N,g,d,M,E⟩:=s;obtain⟨m,o,h⟩:=h;let B:i<xs.length:=by lia
  obtain⟨t,F⟩:=sI y B;let e:c.toArray[((i:Nat):Int).toNat]?=Pj (.int xs[i] t):=by simpa using F
  rw[M0 B] at h;by_cases r:i<a.length
  ·let z:i<ys.length:=by lia
   obtain⟨u,K⟩:=sI C z;let j:a.toArray[((i:Nat):Int).toNat]?=Pj (.int ys[i] u):=by simpa using K
   let Q:((i:Int)+1)=((i+1:Nat):Int):=by push_cast;rfl
   rw[M0 z] at h
   wp_walk using wpAny_loadPart' m,wpAny_loadPart' o
   rw[e,j];show Pq (PySem.SeqAt.EqAt.int_int _ _ _ _ f w _ _ ?_);by_cases p:xs[i]=ys[i]
   ·rw[z3,if_pos p] at h;rw[beq_iff_eq.mpr p]
    wp_walk
    rw[Q]
    show⟨plainId_quiet PySem.MeetsSeq3.plain_eq_loop _,codeAny_builtin PySem.MeetsSeq3.entry_eq_loop (by
     rw[Around.under_plainId PySem.MeetsSeq3.plain_eq_loop _];show P (i+1) (by lia) (by lia) (by lia) f w A R _ ⟨m,o,h⟩)⟩
   ·rw[z3,if_neg p] at h;rw[beq_eq_false_iff_ne.mpr p]
    wp_walk using wpAny_loadPart' m,wpAny_loadPart' o
    rw[e,j];show Pq (PyProof.Rows.lt_int ?_)
    wp_walk
    show h
  ·let j:a.toArray[((i:Nat):Int).toNat]?=Pl:=by simp;lia
   wp_walk using wpAny_loadPart' m,wpAny_loadPart' o
   rw[e,j]
   wp_walk using wpAny_loadPart' m,wpAny_loadPart' o
   change R (.ok (.ret (.bool (decide (c.toArray.size<a.toArray.size))))) _;rw[N5 (by lia:ys.length<=i)] at h;rw[decide_eq_false (by simp;lia)];show h
theorem u3(l b:Ps)(c a:List Pn)(n j:Nat)(p e:Option Ps)(m f:Array (Option Pn))(xs ys:List Int)(q:Vals (xs.map V.int) c)(r:Vals (ys.map V.int) a):Meets (Builtin.«list.__lt__» ⟨[.ref l,.ref b],[]⟩)
   (λA R s=>s.heap.get? l=Pj { cls:=.type "list",dict:=p,data:=.seq c.toArray n,slots:=m }/\s.heap.get? b=Pj { cls:=.type "list",dict:=e,data:=.seq a.toArray j,slots:=f }/\R (.ok (.ret (.bool (z3 xs ys)))) s):=by
 intro i w A R s h;obtain⟨x,g,d,u,t⟩:=s;obtain⟨k,o,h⟩:=h;let v:=PySem.AutoSeq1.sub_list_list
 wp_walk using wpAny_loadPart' k,wpAny_loadPart' o
 show⟨plainId_quiet PySem.MeetsSeq3.plain_eq_loop _,codeAny_builtin PySem.MeetsSeq3.entry_eq_loop (by
  rw[Around.under_plainId PySem.MeetsSeq3.plain_eq_loop _];show u0 l b c a n j p e m f xs ys q r _ 0 rfl (ML _) (ML _) i w A R _ ⟨k,o,h⟩)⟩
theorem Dy{X:Cx}:gE X (compareOp .Lt) (λx y H Q=>∃a b xs ys,x=.ref a/\y=.ref b/\SqL X.K H a (xs.map V.int)/\SqL X.K H b (ys.map V.int)/\X.A.units<cLine/\Q (.bl (z3 xs ys)) H):=by
 intro p s Z H x y v u Q I D R h;obtain⟨a,b,xs,ys,rfl,rfl,S,E,O,q⟩:=h;cases(D);cases(R);obtain⟨m,T,P,U⟩:=I.list S;obtain⟨d,j,i,N⟩:=I.list E;obtain⟨⟨C,M,r,L⟩,z,w,n,o⟩:=P.isList;obtain⟨⟨t,g,k,l⟩,c,e,B,f⟩:=i.isList;simp only at w o e f;subst w o e f;show PySem.richCompare_meets_room (op:=.Lt) ⟨_,z,rfl⟩ ⟨_,c,rfl⟩ PySem.F.slot_list_lt PySem.F.entry_list_lt (PySem.F.args_list_lt_2 _ _) (u3 a b m d n B M g L l xs ys T j)
  ⟨z,c,show Value.bool (z3 xs ys)≠Value.notImplemented/\_ from⟨(λx=>nomatch x),⟨.bl (z3 xs ys),H,I,rfl,q⟩⟩⟩ O
end G
namespace J
noncomputable def eZ:D->Option aJ
 |.int i=>Pj (.inl i)
 |.str x=>Pj (.inr x)
 |_=>Pl
def iV:List D->Option (List aJ)
 |[]=>Pj []
 |d::ds=>match eZ d,iV ds with
  |some k,Pj ks=>Pj (k::ks)
  |_,_=>Pl
def Dz:D->Option (aJ ⊕ List aJ)
 |.nd .tup ds=>(iV ds).map .inr
 |d=>(eZ d).map .inl
def oK:List D->Option (List (aJ ⊕ List aJ))
 |[]=>Pj []
 |d::ds=>match Dz d,oK ds with
  |some k,Pj ks=>Pj (k::ks)
  |_,_=>Pl
noncomputable def DA:Nat->List (aJ ⊕ List aJ)->Bool
 |_,[]=>Pm
 |m,.inl _::r=>m%2==0&&DA (m / 2) r
 |m,.inr _::r=>m%2==1&&DA (m / 2) r
def iW:D->Option DK
 |.nd .tup ds=>(oK ds).map .inr
 |d=>(eZ d).map .inl
noncomputable def aS(ks:List DK)(k:DK):Option Nat:=ks.findIdx? λx=>decide (x=k)
section
variable {K:Md} {H:Hp} {S:Pr}
theorem mX(h:eZ d=Pj k)(r:Rp K H S d v):v=kV k:=by
 cases d<;>simp only[eZ] at h<;>first|(cases h;done)|(cases h;first|show r.int|show r.str)
theorem oM:∀{ds:List D} {ks:List aJ} {vs:List V},iV ds=Pj ks->RpL K H S ds vs->vs=ks.map kV
 |[],ks,vs,h,r=>by cases h;show r.nil_inv
 |d::ds,ks,vs,h,r=>by
  obtain⟨y,e,rfl,a,c⟩:=r.cons_inv;unfold iV at h;split at h
  ·ext k b e1 e2;cases h;rw[mX e1 a,oM e2 c];rfl
  ·cases h
theorem mY:∀{ds:List D} {ks:List (aJ ⊕ List aJ)} {vs:List V} {m:Nat},oK ds=Pj ks->RpL K H S ds vs->DA m ks=Pm->TkIts H m ks vs
 |[],ks,vs,m,h,r,hm=>by cases h;show r.nil_inv
 |d::ds,ks,vs,m,h,r,hm=>by
  obtain⟨y,f,rfl,c,b⟩:=r.cons_inv;unfold oK at h;split at h
  ·ext k l e1 e2;cases h
   cases k with
   |inl k=>
    simp only[DA,Me,beq_iff_eq] at hm;show⟨f,?_,hm.1,mY e2 b hm.2⟩
    have:eZ d=Pj k:=by
     unfold Dz at e1;split at e1
     ·cases e:iV _<;>rw[e] at e1<;>cases e1
     ·cases e:eZ d with
      |none=>rw[e] at e1;cases e1
      |some z=>rw[e] at e1;cases e1;rfl
    rw[mX this c]
   |inr k=>
    simp only[DA,Me,beq_iff_eq] at hm;unfold Dz at e1;split at e1
    ·ext j
     cases e:iV j with
     |none=>rw[e] at e1;cases e1
     |some z=>
      rw[e] at e1;cases e1;obtain⟨a,o,n,rfl,_,g,q,i⟩:=c.nd;cases(show o=_ from q);rw[oM e i] at g;show⟨a,f,rfl,hm.1,g,mY e2 b hm.2⟩
    ·cases e:eZ d<;>rw[e] at e1<;>cases e1
  ·cases h
theorem mZ(h:iW d=Pj k)(r:Rp K H S d v):(∃x,k=.inl x/\v=kV x)\/∃xs b,k=.inr xs/\v=.ref b/\∀m,DA m xs=Pm->TkAt H m xs b:=by
 let l:∀{d:D},(eZ d).map Sum.inl=Pj k->Rp K H S d v->(∃x,k=.inl x/\v=kV x):=λ{d} h r=>by
  cases e:eZ d with
  |none=>rw[e] at h;cases h
  |some x=>rw[e] at h;cases h;show⟨x,rfl,mX e r⟩
 unfold iW at h;split at h
 ·ext i
  cases e:oK i with
  |none=>rw[e] at h;cases h
  |some j=>
   rw[e] at h;cases h;obtain⟨a,o,xs,rfl,_,g,q,c⟩:=r.nd;cases(show o=_ from q);show .inr ⟨j,a,rfl,rfl,λm f=>⟨xs,g,mY e c f⟩⟩
 ·show .inl (l h r)
end
theorem iX{κ:Type}[DecidableEq κ]:∀(kvs:List (κ×V)) (k:κ),g8 kvs k=(kvs.findIdx? λkv=>decide (kv.1=k)).bind λi=>(kvs.map (·.2))[i]?
 |[],k=>rfl
 |(a,b)::r,k=>by
  let c:=iX r k;unfold g8 at c⊢;rw[NB,MV];by_cases h:a=k
  ·simp[h]
  ·simp only[h,decide_false];rw[c]
   cases e:r.findIdx? λkv=>decide (kv.1=k) with
   |none=>simp
   |some i=>simp
def hUq(t:Nat):DK->Bool
 |.inl _=>t==0
 |.inr xs=>(match t with|0=>Po|m+1=>DA m xs)
theorem jU{K:Md}{H:Hp}{S:Pr}{a:Ps}{o:HO}{t:Nat}{ks:List DK}{xs:List V}{d:D}{k:DK}{v:V}(g:H a=Pj o)(q:cR K o (.dic t ks) xs)(h:iW d=Pj k)(r:Rp K H S d v)(hk:hUq t k=Pm) :
  DGet H a v ((aS ks k).bind λi=>xs[i]?):=by
 rcases q with⟨rfl,c,rfl,e1,e2⟩|⟨m,rfl,c,l,rfl,e1,e2⟩
 ·rcases mZ h r with⟨x,rfl,rfl⟩|⟨e,b,rfl,rfl,j⟩
  ·have:=DGet.k (k:=x) g;rw[iX] at this
   let e3:aS ks (.inl x)=c.findIdx? λf=>decide (f.1=x):=by
    unfold aS;rw[e1,NQ];congr 1;funext p;simp[Sum.inl.injEq]
   rw[e3,e2];show this
  ·cases hk
 ·rcases mZ h r with⟨x,rfl,rfl⟩|⟨e,b,rfl,rfl,j⟩
  ·cases hk
  ·have:=DGet.t (k:=e) g (j m hk);rw[iX] at this
   let e3:aS ks (.inr e)=c.findIdx? λf=>decide (f.1=e):=by
    unfold aS;rw[e1,NQ];congr 1;funext p;simp[Sum.inr.injEq]
   rw[e3,e2];show this
theorem z4{ks:List DK}{i:Nat}(h:aS ks k=Pj i):i<ks.length:=by
 unfold aS at h;show(List.findIdx?_eq_some_iff_findIdx_eq.mp h).1
theorem sJ{ks:List DK}{xs:List V}(q:cR K o (.dic t ks) xs):ks.length=xs.length:=by
 rcases q with⟨rfl,a,rfl,e1,e2⟩|⟨m,rfl,a,b,rfl,e1,e2⟩<;>rw[e1,e2,Mh,Mh]
theorem jz{ks:List DK}{xs:List V}(a:ks.length=xs.length):((aS ks k).bind λi=>xs[i]?).isSome=(aS ks k).isSome:=by
 cases e:aS ks k with
 |none=>rfl
 |some i=>
  have:=z4 e;rw[MZ,Ms (by lia)];rfl
noncomputable def w5:D->Bool
 |.non=>Pm
 |_=>Po
noncomputable def GO(b:Bool):D->Bool
 |.bl c=>c==b
 |_=>Po
def Mc:D->Bool
 |.nd (.dic 0 []) _=>Pm
 |_=>Po
noncomputable def toInts:List D->Option (List Int)
 |[]=>Pj []
 |.int b::r=>(toInts r).map (b::·)
 |_=>Pl
theorem fN:∀{ds:List D} {bs:List Int},toInts ds=Pj bs->ds=bs.map D.int
 |[],bs,h=>by cases h;rfl
 |d::r,bs,h=>by
  cases d<;>simp only[toInts] at h<;>try cases h
  ext b
  cases e:toInts r with
  |none=>rw[e] at h;cases h
  |some a=>rw[e] at h;cases h;rw[fN e];rfl
theorem RpL.toInts:∀{ns:List Int} {vs:List V},RpL K H S (ns.map D.int) vs->vs=ns.map V.int
 |[],_,h=>h.nil_inv
 |b::bs,_,h=>by
  obtain⟨y,a,rfl,r,t⟩:=h.cons_inv;rw[r.int,RpL.toInts t];rfl
def JY(x y:D):Option Bool:=match x with
 |.int i=>(match y with|.int j=>Pj (decide (i<j))|_=>Pl)
 |.nd .lst as=>(match y with
  |.nd .lst bs=>(match toInts as with
   |some xs=>(match toInts bs with
    |some ys=>Pj (G.z3 xs ys)
    |none=>Pl)
   |none=>Pl)
  |_=>Pl)
 |_=>Pl
def cA(op:PU)(x y:D):Option Bool:=
 match op with
 |.Lt=>JY x y
 |.LtE=>(match x,y with|.int i,.int j=>Pj (decide (i<=j))|_,_=>Pl)
 |.Gt=>(match x,y with|.int i,.int j=>Pj (decide (j<i))|_,_=>Pl)
 |.GtE=>(match x,y with|.int i,.int j=>Pj (decide (j<=i))|_,_=>Pl)
 |.Eq=>if dY 90 x=Pm/\dY 90 y=Pm then Pj (ze x y) else Pl
 |.NotEq=>if dY 90 x=Pm/\dY 90 y=Pm then Pj (!ze x y) else Pl
 |.In=>(match y with
  |.nd (.dic t ks) _=>(match iW x with|some k=>if hUq t k=Pm then Pj (aS ks k).isSome else Pl|none=>Pl)
  |_=>Pl)
 |.NotIn=>(match y with
  |.nd (.dic t ks) _=>(match iW x with|some k=>if hUq t k=Pm then Pj (!(aS ks k).isSome) else Pl|none=>Pl)
  |_=>Pl)
 |.Is=>(match y with
  |.non=>Pj (w5 x)
  |_=>Pl)
 |.IsNot=>(match y with
  |.bl b=>Pj (!GO b x)
  |_=>Pl)
abbrev Nv:Pr:=λ_=>False
def DB(K:Md)(op:PU):R2:=λx y H Q=>∃dx q b,Rp K H Nv dx x/\Rp K H Nv q y/\cA op dx q=Pj b/\Q (.bl b) H
theorem m3{X:Cx}(hu:X.A.units+100<cLine)(op:PU):gE X (compareOp op) (DB X.K op):=by
 intro m s Z H x y v u Q I l r h;obtain⟨B,C,b,f,n,d,q⟩:=h;let he:X.A.units+1<cLine:=by lia
 let w:∀{z:Bool},z=b->EP X m Z Q (.bool z) s:=λe=>⟨.bl b,H,I,by rw[e];rfl,q⟩
 let T:∀(z:Bool),C=.bl z->plainIs v u=Pm/\(v==u)=GO z B:=λz e=>by
  subst e;let M:=n.bl;subst M;cases r
  cases B with
  |non=>have e:=f.non;subst e;cases l;show⟨rfl,rfl⟩
  |bl c=>have e:=f.bl;subst e;cases l;show⟨rfl,by cases c<;>cases z<;>rfl⟩
  |int i=>have e:=f.int;subst e;obtain⟨t,rfl⟩:=l;show⟨rfl,rfl⟩
  |str i=>have e:=f.str;subst e;obtain⟨t,rfl⟩:=l;show⟨rfl,rfl⟩
  |scr ns=>obtain⟨a,rfl,_⟩:=f.scr;cases l;show⟨rfl,rfl⟩
  |nd L ds=>obtain⟨a,o,F,rfl,_⟩:=f.nd;cases l;show⟨rfl,rfl⟩
 let U:C=.non->plainIs v u=Pm/\(v==u)=w5 B:=λe=>by
  subst e;let M:=n.non;subst M;cases r
  cases B with
  |non=>have e:=f.non;subst e;cases l;show⟨rfl,rfl⟩
  |bl c=>have e:=f.bl;subst e;cases l;show⟨rfl,by cases c<;>rfl⟩
  |int i=>have e:=f.int;subst e;obtain⟨t,rfl⟩:=l;show⟨rfl,rfl⟩
  |str i=>have e:=f.str;subst e;obtain⟨t,rfl⟩:=l;show⟨rfl,rfl⟩
  |scr ns=>obtain⟨a,rfl,_⟩:=f.scr;cases l;show⟨rfl,rfl⟩
  |nd L ds=>obtain⟨a,o,F,rfl,_⟩:=f.nd;cases l;show⟨rfl,rfl⟩
 cases op with
 |Lt=>
  replace d:JY B C=Pj b:=d
  cases B with
  |int i=>cases C with
   |int j=>cases d;obtain rfl:=f.int;obtain rfl:=n.int;show Gj m s Z H _ _ v u Q I l r ⟨_,_,rfl,rfl,q⟩
   |_=>cases d
  |nd L ds=>cases L with
   |lst=>cases C with
    |nd ha hi=>cases ha with
     |lst=>
      dsimp only[JY] at d;split at d
      ·ext F hx;split at d
       ·ext ys hy;cases d;rw[fN hx] at f;rw[fN hy] at n;obtain⟨a,o,us,rfl,n1,g1,q1,r1⟩:=f.nd;obtain⟨a',o',hg,rfl,hh,hc,R,W⟩:=n.nd;cases(show o=_ from q1);cases(show o'=_ from R);obtain rfl:=r1.toInts;obtain rfl:=W.toInts;show G.Dy m s Z H _ _ v u Q I l r ⟨a,a',F,ys,rfl,rfl,.of g1,.of hc,by lia,q⟩
       ·cases d
      ·cases d
     |_=>cases d
    |_=>cases d
   |_=>cases d
  |_=>cases d
 |LtE=>
  simp only[cA] at d;split at d
  ·cases d;obtain rfl:=f.int;obtain rfl:=n.int;show Gk m s Z H _ _ v u Q I l r ⟨_,_,rfl,rfl,q⟩
  ·cases d
 |Gt=>
  simp only[cA] at d;split at d
  ·cases d;obtain rfl:=f.int;obtain rfl:=n.int;show Gm m s Z H _ _ v u Q I l r ⟨_,_,rfl,rfl,q⟩
  ·cases d
 |GtE=>
  simp only[cA] at d;split at d
  ·cases d;obtain rfl:=f.int;obtain rfl:=n.int;show Gn m s Z H _ _ v u Q I l r ⟨_,_,rfl,rfl,q⟩
  ·cases d
 |Eq=>
  simp only[cA] at d;split at d
  ·ext D;cases d;obtain⟨⟨as,Y⟩,N,a2⟩:=eX I D.1 f l;obtain⟨⟨bs,V⟩,b1,b2⟩:=eX I D.2 n r;show SeqAt.compareEq_reads Y V N b1 (by lia) (w rfl)
  ·cases d
 |NotEq=>
  simp only[cA] at d;split at d
  ·ext D;cases d;obtain⟨⟨as,Y⟩,N,a2⟩:=eX I D.1 f l;obtain⟨⟨bs,V⟩,b1,b2⟩:=eX I D.2 n r;show SeqAt.compareNe_reads Y V N b1 (by lia) (w rfl)
  ·cases d
 |In=>
  simp only[cA] at d;split at d
  ·ext t ks vs;split at d
   ·ext k O;split at d
    ·ext S;cases d;obtain⟨a,o,F,rfl,_,g,E,rl⟩:=n.nd;cases r;show JS (by lia) I (jU g E O f S) l λs3 P=>⟨.bl _,H,P,rfl,?_⟩;rw[jz (sJ E)];show q
    ·cases d
   ·cases d
  ·cases d
 |NotIn=>
  simp only[cA] at d;split at d
  ·ext t ks vs;split at d
   ·ext k O;split at d
    ·ext S;cases d;obtain⟨a,o,F,rfl,_,g,E,rl⟩:=n.nd;cases r;show zP (by lia) I (jU g E O f S) l λs3 P=>⟨.bl _,H,P,rfl,?_⟩;rw[jz (sJ E)];show q
    ·cases d
   ·cases d
  ·cases d
 |Is=>
  simp only[cA] at d;split at d
  ·cases d;obtain⟨p,e⟩:=U rfl;show wpAny_is_plain p (w e)
  ·cases d
 |IsNot=>
  simp only[cA] at d;split at d
  ·cases d;obtain⟨p,e⟩:=T _ rfl;show wpAny_isNot_plain p (w (by rw[e]))
  ·cases d
noncomputable def u4:D->Option Bool
 |.non=>Pj Po
 |.bl b=>Pj b
 |.int i=>Pj (i != 0)
 |.scr ns=>Pj (!ns.isEmpty)
 |.nd .lst xs=>Pj (!xs.isEmpty)
 |.nd .tup xs=>Pj (!xs.isEmpty)
 |_=>Pl
theorem RpL.empty{ds:List D}{vs:List V}(h:RpL K H S ds vs):vs.isEmpty=ds.isEmpty:=by
 have:=h.len
 cases vs<;>cases ds<;>simp_all
theorem w6(t:Rp K H S d v)(h:u4 d=Pj b):zC K v H b:=by
 cases d with
 |non=>obtain rfl:=t.non;cases h;rfl
 |bl k=>obtain rfl:=t.bl;cases h;rfl
 |int i=>obtain rfl:=t.int;cases h;rfl
 |str x=>cases h
 |scr ns=>
  obtain⟨a,rfl,g⟩:=t.scr;cases h
  show .inl ⟨_,g,by cases ns<;>rfl⟩
 |nd f j=>
  obtain⟨a,o,e,rfl,_,g,q,r⟩:=t.nd
  cases f with
  |lst=>cases h;cases(show o=_ from q);show .inl ⟨e,.of g,by rw[r.empty]⟩
  |tup=>cases h;cases(show o=_ from q);show .inr (.inl ⟨e,.of g,by rw[r.empty]⟩)
  |dic t l=>cases h
  |obj c ns=>cases h
noncomputable def Ow.ch:Ow->Nat->Ow
 |.fz,_=>.fz
 |.own es r,i=>es.getD i r
def oN:Kd->Nat->Kd
 |.sh,_=>.sh
 |.fr k,i=>(match k.ch i with|.fz=>.sh|c=>.fr c)
 |.bo j k,i=>(match k.ch i with|.fz=>.sh|c=>.bo j c)
section
variable {K:Md} {H H' H0:Hp} {S:Pr} {g:Gh}
theorem TrL.len:∀{ds:List D} {es:List Ow} {r:Ow} {xs:List V} {F:Pr},TrL K H S ds es r xs F->xs.length=ds.length
 |[],_,_,_,_,h=>by unfold TrL at h;rw[h.1];rfl
 |d::ds,es,r,xs,F,h=>by
  unfold TrL at h;obtain⟨y,e,c,b,rfl,_,_,_,a⟩:=h;rw[MW,MW,TrL.len a]
theorem TrL.get:∀{ds:List D} {es:List Ow} {r:Ow} {xs:List V} {F:Pr} {i:Nat} {d:D},TrL K H S ds es r xs F->ds[i]?=Pj d->∃x a,xs[i]?=Pj x/\(∀b,a b->F b)/\Tr K H S d (es.getD i r) x a
 |[],_,_,_,_,_,_,h,e=>by simp at e
 |d::ds,es,r,xs,F,0,d',h,e=>by
  unfold TrL at h;obtain⟨y,l,g,k,rfl,c,_,j,f⟩:=h;simp at e;subst e
  show⟨y,g,rfl,λb z=>(c b).mpr (.inl z),by cases es<;>simpa using j⟩
 |d::ds,es,r,xs,F,i+1,d',h,e=>by
  unfold TrL at h;obtain⟨y,l,g,k,rfl,c,_,j,f⟩:=h;obtain⟨x,a,e1,e2,e3⟩:=TrL.get f (by simpa using e)
  show⟨x,a,by simpa using e1,λb z=>(c b).mpr (.inr (e2 b z)),by cases es<;>simpa using e3⟩
theorem VR.ch{ds:List D}(h:VR K g H0 H kd (.nd hd ds) v):∃a o xs,v=.ref a/\H a=Pj o/\cR K o hd xs/\xs.length=ds.length/\∀(i:Nat) d,ds[i]?=Pj d->∃x,xs[i]?=Pj x/\VR K g H0 H (oN kd i) d x:=by
 obtain⟨F,L,m⟩:=h
 let p:∀{I:Pr},(∀b,g b≠Pl->I b)->Rp K H I (.nd hd ds) v->∃a o xs,v=.ref a/\H a=Pj o/\cR K o hd xs/\xs.length=ds.length/\∀(i:Nat) d,ds[i]?=Pj d->∃x,xs[i]?=Pj x/\VR K g H0 H .sh d x:=λC r=>by
  obtain⟨a,o,xs,e,n,f,l,q⟩:=r.nd;show⟨a,o,xs,e,f,l,q.len,λi d e=>?_⟩;obtain⟨x,e1,e2⟩:=q.getD e;show⟨x,e1,FC (e2.weak λb z=>C b z)⟩
 cases kd with
 |sh=>show p (λb z=>.inl z) m.2
 |fr k=>
  let m:Tr K H (Sx g F) _ k v F:=m
  cases k with
  |fz=>
   obtain⟨a,o,xs,e,f,l,q,A⟩:=p (λb z=>.inl z) m.fz_inv.2;show⟨a,o,xs,e,f,l,q,A⟩
  |own u r=>
   unfold Tr at m;obtain⟨a,o,xs,R,e,f,l,O,M,y,t⟩:=m;show⟨a,o,xs,e,f,l,t.len,λi d e=>?_⟩;obtain⟨x,w,e1,e2,e3⟩:=t.get e;show⟨x,e1,?_⟩;let C:∀b o,H b=Pj o->¬Sx g F b->¬Sx g w b:=λb o _ n z=>n (z.imp id λz=>(y b).mpr (.inr (e2 b z)))
   change VR K g H0 H (match u.getD i r with|.fz=>.sh|c=>.fr c) d x
   cases s:u.getD i r with
   |fz=>
    rw[s] at e3;show FC (e3.fz_inv.2.weak λb z=>.inl z)
   |own E Q=>
    rw[s] at e3;show⟨w,λb z=>L b ((y b).mpr (.inr (e2 b z))),e3.go (λ_ _ _ h=>h) C⟩
 |bo j k=>
  obtain⟨N,S,P,B⟩:=m
  cases k with
  |fz=>
   obtain⟨a,o,xs,e,f,l,q,A⟩:=p (λb z=>.inl z) B.fz_inv.2;show⟨a,o,xs,e,f,l,q,A⟩
  |own u r=>
   unfold Tr at B;obtain⟨a,o,xs,R,e,f,l,O,M,y,t⟩:=B;show⟨a,o,xs,e,f,l,t.len,λi d e=>?_⟩;obtain⟨x,w,e1,e2,e3⟩:=t.get e;show⟨x,e1,?_⟩
   change VR K g H0 H (match u.getD i r with|.fz=>.sh|c=>.bo j c) d x
   cases s:u.getD i r with
   |fz=>
    rw[s] at e3;show FC (e3.fz_inv.2.weak λb z=>.inl z)
   |own E Q=>
    rw[s] at e3;show⟨F,L,N,w,λb z=>P b ((y b).mpr (.inr (e2 b z))),e3⟩
end
structure Cz where
 sc:PH
 N:List Str
 fn:Str->Bool
abbrev Fn:=List D->Option KD
structure Tab where
 fn:Str->Option Fn
 fm:Str->Option (Md->Sp)
 cst:Str->Option D
 cf:Str->Option (List Str)
noncomputable def aZ(x:Str):List Str->Option Nat
 |[]=>Pl
 |y::r=>if x=y then Pj 0 else(aZ x r).map (·+1)
theorem aX:∀{N:List Str} {i:Nat},aZ x N=Pj i->N[i]?=Pj x
 |[],_,h=>by cases h
 |y::r,i,h=>by
  unfold aZ at h;split at h
  ·ext e;cases h;simp[e]
  ·cases q:aZ x r with
   |none=>rw[q] at h;cases h
   |some j=>
    rw[q] at h;cases h;simpa using aX q
noncomputable def DC(q:PH)(x:Str):Bool:=q.names.lookup x==Pj .local||q.names.lookup x==Pj .cell||q.names.lookup x==Pj .free
noncomputable def lB(c:Cz)(x:Str):Bool:=c.sc.names.lookup x==Pj .local||(c.fn x&&c.sc.names.lookup x==Pj .cell)
noncomputable def e6(scope:PH)(x:Str):Bool:=scope.names.lookup x==Pj .cell
noncomputable def oO(x:Str):Bool:=x.cps.toList.contains 46
noncomputable def mC(x:Str):Str:=⟨(x.cps.toList.takeWhile (· != 46)).toArray⟩
noncomputable def mM(x:Str):Str:=⟨((x.cps.toList.dropWhile (· != 46)).drop 1).toArray⟩
noncomputable def FD(c m:Str):List D->Bool
 |.nd (.obj c' ns) _::_=>decide (c'=c)&&!ns.contains m
 |_=>Po
noncomputable def f7(q:PH)(x:Str):Bool:=q.names.lookup x==Pj .globalImplicit&&!oO x
theorem GP{x:Str}(h:f7 sc x=Pm):oO x=Po:=by
 simp only[f7,Me,NE] at h;show h.2
theorem m4(h:DC sc x=Pm):F5 sc x:=by
 simp only[DC,NC,beq_iff_eq] at h;rcases h with(h|h)|h
 ·show .inl h
 ·show .inr (.inl h)
 ·show .inr (.inr h)
noncomputable def m5(x:Str):Bool:=!(x==("__debug__":Str))&&!(x==("__classdict__":Str))
def l5(K:Md)(B:Fn):Sp:=λvs H Q _=>∃ds g q d,RpL K H (Sg g) ds vs/\MuOk H (Sg g)/\B ds=Pj (q,d)/\∀v H',Same H H'->VR K g H H' q d v->Q v H'
noncomputable def aA:List Str:=["len","isinstance","int","bool","list","all","range","enumerate","str","sum","min","max","abs","tuple","zip","dict","sorted","reversed","any","set","repr"]
def qP(C:Ps)(sp q:Sp):Prop:=∀vs H Q,sp vs H Q E0->∀a dx,H a=Pl->H dx=Pl->dx≠a->q (.ref a::vs) (upd (upd H dx (.own a)) a (.ins C dx [])) (λv H2=>v=.non/\Q (.ref a) H2) E0
def eE(X:Cx)(x:Str)(B:Fn):Prop:=if oO x=Pm then
 ∃C k f fd ps,M6 X.K PF (mC x)=Pj (Pj (.ref C))/\Cls X.K C/\om X.K C (mM x) f/\FnOk X.prog X.w X.K X.mg X.base iS k f fd ps (l5 X.K B)/\Room k X.A/\Binds X.K fd ps []/\∀ds r,B ds=Pj r->FD (mC x) (mM x) ds=Pm else
 (∃k f fd ps,FnOk X.prog X.w X.K X.mg X.base iS k f fd ps (l5 X.K B)/\Room k X.A/\X.mg x=Pj (.ref f)/\M8 X.K (.ref f)=Pm/\Binds X.K fd ps []/\(x==("__debug__":Str))=Po)\/
 (∃C k f fd ps q,Mk X.K C f/\FnOk X.prog X.w X.K X.mg X.base iS k f fd ps q/\Room (k+1) X.A/\X.mg x=Pj (.ref C)/\Binds X.K fd ps []/\(x==("__debug__":Str))=Po/\qP C (l5 X.K B) q)
def Lu(sp:Sp)(t:TA):TE:=λZ H Q=>t Z H λvs H1=>sp vs H1 Q E0
theorem GQ{X:Cx}{t:TA}(o:∀(Z:L2.St) (H:Hp) (Q R:List V->Hp->Prop),t Z H Q->(∀vs H1,Q vs H1->R vs H1)->t Z H R)(h:eE X x B)(y:oO x=Po)(m:Gl X x)(n:PA X (e::es) t)(l:Py (e::es) X.env=(Po,eval e X.env)::Py es X.env)(d:(backTo pos (Py es X.env)).any (·.1)=Po) :
  PE X (.Call (.Name x p) (e::es) [] pos) (Lu (l5 X.K B) t):=by
 intro b s Z H Q I q;unfold eE at h;rw[if_neg (by rw[y];show Mz)] at h;rcases h with⟨k,f,D,w,F,g,j,hk,i,c⟩|⟨C,k,f,D,w,L,M,F,g,j,i,c,r⟩
 ·show sg (E:=E0) F g m j hk i .nil ki n c l d b s Z H Q I (o _ _ _ _ q λvs H1 z=>by rw[M5];show z)
 ·show zI (E:=E0) M F g m j i .nil ki n c l d b s Z H Q I (o _ _ _ _ q λvs H1 z a A N u v=>by rw[M5];show r vs H1 Q z a A N u v)
theorem DD{X:Cx}(h:eE X x B)(n:oO x=Po)(i:Gl X x):PE X (.Call (.Name x p) [] [] pos) (Lu (l5 X.K B) zH):=by
 intro b s Z H Q I q;unfold eE at h;rw[if_neg (by rw[n];show Mz)] at h;rcases h with⟨k,f,t,j,F,d,e,hk,g,c⟩|⟨C,k,f,t,j,u,M,F,d,e,g,c,l⟩
 ·show wu (E:=E0) F d i e hk g .nil ki c b s Z H Q I q
 ·show ww (E:=E0) M F d i e g .nil ki c b s Z H Q I λa o v m r=>l [] H Q q a o v m r
structure BG(X:Cx)(U:Tab):Prop where
 fn:∀x B,U.fn x=Pj B->eE X x B
 cf:∀c fs C,U.cf c=Pj fs->M6 X.K PF c=Pj (Pj (.ref C))->Cls X.K C/\∀a∈fs,NoAttr X.K C a
 fm:∀x sp,U.fm x=Pj sp->∃k f fd ps,FnOk X.prog X.w X.K X.mg X.base iS k f fd ps (sp X.K)/\Room k X.A/\X.mg x=Pj (.ref f)/\M8 X.K (.ref f)=Pm/\Binds X.K fd ps []/\(x==("__debug__":Str))=Po
 bl:∀x∈aA,X.mg x=Pl
 units:X.A.units+100<cLine
 gd:X.A.guards=Pj []
 cst:∀x d,U.cst x=Pj d->∃u v,X.mg x=Pj u/\RelV v u/\(∀H S,Rp X.K H S d v)/\(x==("__debug__":Str))=Po
structure am(X:Cx)(U:Tab)(c:Cz):Prop where
 sc:X.env.scope=c.sc
 N:X.N=c.N
 fn:∀x,c.fn x=Pm->X.fn x=Pm
 calm:X.calm=Pm
 nd:c.N.Nodup
 tab:BG X U
section
variable {X:Cx} {U:Tab} {c:Cz}
theorem cC(O:am X U c)(h:f7 c.sc x=Pm):Gl X x:=by
 change X.env.scope.names.lookup x=_;rw[O.sc];simp only[f7,Me,beq_iff_eq] at h;show h.1
theorem iY(O:am X U c){x:Str}(h:lB c x=Pm):Bw X.env.scope x/\(X.fn x=Pm\/X.env.scope.names.lookup x=Pj .local):=by
 simp only[lB,NC,Me,beq_iff_eq] at h;rw[O.sc];rcases h with h|h
 ·show⟨.inl h,.inr h⟩
 ·show⟨.inr h.2,.inl (O.fn x h.1)⟩
def eG(i:Nat)(o:Option (Option Sl)):Option KD:=match o with|some (Pj s)=>Pj (oI i s)|_=>Pl
def e7(c:Cz)(x:Str):Option Nat:=match aZ x c.N with|some i=>if DC c.sc x&&m5 x then Pj i else Pl|none=>Pl
theorem hV(O:am X U c){i:Nat}(a:e7 c x=Pj i)(pos:Pos):SndE X (λY=>eG i Y[i]?) (.Name x pos):=by
 intro Y l d h g Z H Q k q;unfold e7 at a;split at a
 ·ext j f;split at a
  ·ext b;cases a;simp only[Me,m5,NE] at b;dsimp only[eG] at h;split at h
   ·ext m e;cases h;obtain⟨v,e1,e2⟩:=k.get e;show ao (qi (i:=i) (by rw[O.N];show aX f) (by rw[O.sc];show m4 b.1) b.2.1 b.2.2) ⟨v,e1,q v H (Same.refl H) e2⟩
   ·cases h
  ·cases a
 ·cases a
theorem GR(i:Int)(j:Nat)(pos:Pos):SndE X (λ_=>Pj (.sh,.int i)) (.Constant (.int i) j pos):=by
 intro Y a d h g Z H Q b q;cases h;show ao CI (q _ H (Same.refl H) qO)
theorem JZ(i:Bool)(j:Nat)(pos:Pos):SndE X (λ_=>Pj (.sh,.bl i)) (.Constant (.bool i) j pos):=by
 intro Y a d h g Z H Q b q;cases h;show ao F6 (q _ H (Same.refl H) BF)
theorem GS(j:Nat)(pos:Pos):SndE X (λ_=>Pj (.sh,.non)) (.Constant .none j pos):=by
 intro Y a d h g Z H Q b q;cases h;show ao CJ (q _ H (Same.refl H) Dw)
theorem GU(x:Str)(j:Nat)(pos:Pos):SndE X (λ_=>Pj (.sh,.str x)) (.Constant (.str x) j pos):=by
 intro Y a d h g Z H Q b q;cases h;show ao CK (q _ H (Same.refl H) GM)
theorem GV(O:am X U c)(b:f7 c.sc x=Pm)(e:U.cst x=Pj d)(pos:Pos):SndE X (λ_=>Pj (.sh,d)) (.Name x pos):=by
 intro Y k l h g Z H Q m q;cases h;obtain⟨u,v,j,a,i,f⟩:=O.tab.cst x d e;show ao (zk (cC O b) j a f) (q v H (Same.refl H) (FC (i H _)))
theorem two{c fb:Ro->Option KD}(j:SndE X c a)(e:SndE X fb b)(h:c Y=Pj (ka,da))(f:fb Y=Pj (kb,db)){R:V->V->Hp->Prop}(d:SE X.K g Y Z H)(q:∀x y H',Same H H'->VR X.K g H H' ka da x->VR X.K g H H' kb db y->R x y H'):wE X a Z H λx H1=>wE X b Z H1 λy H2=>R x y H2:=
 j Y ka da h g Z H _ d λx H1 s1 i=>e Y kb db f g Z H1 _ (d.same s1) λy H2 s2 k=>q x y H2 (s1.trans s2) (i.same s2) (k.older s1)
def w8(op:PJ)(a b:Option KD):Option KD:=match a,b with
 |some x,Pj y=>f6 op x y
 |_,_=>Pl
theorem GW{c fb:Ro->Option KD}(l:SndE X c a)(j:SndE X fb b):SndE X (λY=>w8 op (c Y) (fb Y)) (.BinOp a op b pos):=by
 intro Y f d h g Z H Q e q;dsimp only[w8] at h;split at h
 ·ext x y k m;show ao (Gg (Dx op) au au) (two l j k m e λt p u s n i=>⟨g,H,x,y,f,d,e.mu,s,n,i,h,λv o s2 r=>q v o (s.trans s2) (r.older s)⟩)
 ·cases h
def kB(op:PU)(a b:Option KD):Option Bool:=match a,b with
 |some (_,x),Pj (_,y)=>cA op x y
 |_,_=>Pl
noncomputable def bV(o:Option Bool):Option KD:=o.map λb=>(.sh,.bl b)
theorem GX{f fb:Ro->Option KD}{a b:Pp}{op:PU}(O:am X U c)(k:PR op b=Po)(n:SndE X f a)(l:SndE X fb b):SndE X (λY=>bV (kB op (f Y) (fb Y))) (.Compare a [op] [b] pos):=by
 intro Y v d h g Z H Q t q
 cases e:kB op (f Y) (fb Y) with
 |none=>simp only[e,bV] at h;cases h
 |some r=>
  simp only[e,bV] at h;cases h;unfold kB at e;split at e
  ·ext w x A y o m;show ao (zA (m3 O.tab.units op) au au k) (two n l o m t λz u p s i j=>⟨x,y,r,i.rd,j.rd,e,q _ p s BF⟩)
  ·cases e
theorem dF{h fb:Ro->Option KD}{a b:Pp}{op:PU}(O:am X U c)(i:PR op b=Po)(m:SndE X h a)(j:SndE X fb b):SndT X (λY=>kB op (h Y) (fb Y)) (.Compare a [op] [b] pos):=by
 intro Y r d g Z H Q o q;dsimp only[kB] at d;split at d
 ·ext t x v y l k;show wY (zB (m3 O.tab.units op) au au i) (two m j l k o λu p n s e f=>⟨x,y,r,e.rd,f.rd,d,r,rfl,q n s⟩)
 ·cases d
def ff(op q:PU)(a b z:Option KD):Option Bool:=match a,b with
 |some (_,x),Pj (_,y)=>(match cA op x y with
  |some Pm=>(match z with|some (_,z)=>cA q y z|none=>Pl)
  |some Po=>Pj Po
  |none=>Pl)
 |_,_=>Pl
theorem qQ{l fb k:Ro->Option KD}(p:SndE X l a)(m:SndE X fb b)(w:SndE X k e)(h:ff op op' (l Y) (fb Y) (k Y)=Pj r){Q:VK}(i:SE X.K g Y Z H)(q:∀H',Same H H'->Q (.bl r) H') :
  wk (DB X.K op) (DB X.K op') (wE X a) (wE X b) (wE X e) Z H Q:=by
 unfold ff at h;split at h
 ·ext D x E y o n;split at h
  ·ext j;split at h
   ·ext u z t;show two p m o n i λA v H' s d c=>⟨x,y,Pm,d.rd,c.rd,j,Pm,rfl,?_⟩;show uT (w Y u z t g Z H' _ (i.same s) λC B s2 f=>⟨y,z,r,(c.same s2).rd,f.rd,h,q B (s.trans s2)⟩)
   ·cases h
  ·ext j;cases h;show two p m o n i λA v H' s d c=>⟨x,y,Po,d.rd,c.rd,j,Po,rfl,uS (q H' s)⟩
  ·cases h
 ·cases h
theorem z5{i fb f:Ro->Option KD}(O:am X U c)(k:PR op' e=Po)(n:SndE X i a)(m:SndE X fb b)(l:SndE X f e):SndE X (λY=>bV (ff op op' (i Y) (fb Y) (f Y))) (.Compare a [op,op'] [b,e] pos):=by
 intro Y t d h g Z H Q p q
 cases j:ff op op' (i Y) (fb Y) (f Y) with
 |none=>simp only[j,bV] at h;cases h
 |some r=>
  simp only[j,bV] at h;cases h;show ao (wl (m3 O.tab.units op) (m3 O.tab.units op') au au au k) (qQ n m l j p (Q:=Q) λo s=>q _ o s BF)
def d7(a:Option KD):Option Bool:=match a with|some (_,d)=>u4 d|none=>Pl
theorem GY{i:Ro->Option KD}(p:SndE X i a):SndE X (λY=>bV ((d7 (i Y)).map (!·))) (.UnaryOp .Not a pos):=by
 intro Y z d h g Z H Q w q
 cases e:d7 (i Y) with
 |none=>simp only[e,bV] at h;cases h
 |some b=>
  simp only[e,bV] at h;cases h;unfold d7 at e;split at e
  ·ext k d e1;intro c s I;show PyProof.Rows.UnaryOp_ (a5 (p Y _ _ e1 g Z H (λv f=>zC X.K v f b/\Q (.bl (!b)) f) w (λv f s o=>⟨w6 o.rd e,q _ f s BF⟩) c s I) λv s1 ⟨x,l,u,t,m,n⟩=>?_);show PyProof.Rows.not_of (a5 (gG c s1 Z l x v (λk j=>Q (.bl (!k)) j) u t ⟨b,m,n⟩) λk s2 ⟨j,y,r⟩=>⟨.bl (!k),j,y,rfl,r⟩)
  ·cases e
theorem fj{c:Ro->Option Bool}(d:SndT X c a):SndT X (λY=>(c Y).map (!·)) (.UnaryOp .Not a pos):=by
 intro Y r h g Z H Q i q
 cases e:c Y with
 |none=>simp only[e] at h;cases h
 |some b=>
  simp only[e] at h;cases h;show wY (CM hJ) (d Y b e g Z H _ i λf s=>q f s)
theorem w9{c:Ro->Option KD}{a:Pp}(i:SndE X c a)(j:∀b,isTrue a X.env b=(do let v <- b;standAt a.pos;holding [v] (truthy v))):SndT X (λY=>d7 (c Y)) a:=by
 intro Y r h g Z H Q m q;dsimp only[d7] at h;split at h
 ·ext k d e;show wY (wm au j) (i Y _ _ e g Z H _ m λv l s f=>⟨r,w6 f.rd h,q l s⟩)
 ·cases h
noncomputable def GZ(t:Option Bool)(a b:Option KD):Option KD:=match t with|some Pm=>a|some Po=>b|none=>Pl
theorem J1{ft:Ro->Option Bool}{j fb:Ro->Option KD}(l:SndT X ft t)(n:SndE X j a)(m:SndE X fb b):SndE X (λY=>GZ (ft Y) (j Y) (fb Y)) (.IfExp t a b pos):=by
 intro Y k d h g Z H Q c q;dsimp only[GZ] at h;split at h
 ·ext e;show ao (oe hJ au au) (l Y _ e g Z H _ c λf s1=>uT (n Y k d h g Z f Q (c.same s1) λv i s2 r=>q v i (s1.trans s2) (r.older s1)))
 ·ext e;show ao (oe hJ au au) (l Y _ e g Z H _ c λf s1=>uS (m Y k d h g Z f Q (c.same s1) λv i s2 r=>q v i (s1.trans s2) (r.older s1)))
 ·cases h
noncomputable def ae:Pp->Bool
 |.Starred ..=>Po
 |_=>Pm
theorem ai(h:ae e=Pm):Py (e::es) env=(Po,eval e env)::Py es env:=by
 cases e<;>first|rfl|cases h
theorem bF{es:List Pp}(h:es.all ae=Pm):(backTo pos (Py es env)).any (·.1)=Po:=by
  let f:∀es:List Pp,es.all ae=Pm->∀p∈Py es env,p.1=Po:=by
    intro es
    induction es with
    |nil=>intro _ p b;cases b
    |cons e es g=>
      intro h p b;simp only[No,Me] at h;rw[ai h.1] at b;rcases Mn.mp b with rfl|b
      · rfl
      · show g h.2 p b
  let c:=f es h
  cases e:Py es env with
  |nil=>rfl
  |cons p r=>
    rw[e] at c
    let i:∀q∈backTo pos (p::r),q.1=Po:=by
      intro q a;unfold backTo at a
      first
        |show c q a
        | (simp only[Na,Mn] at a
           first
             |(obtain⟨z,d,rfl⟩:=a;show c z (by simpa using d))
             | (rcases a with rfl|a
                · show c p (by simp)
                · first
                    |show c q (by simp[a])
                    |(obtain⟨z,d,rfl⟩:=a;show c z (by simp[d]))))
    rw[O5];intro q a;rw[i q a];decide
noncomputable def ck(a:Option KD)(r:Option (List KD)):Option (List KD):=match a,r with|some x,Pj xs=>Pj (x::xs)|_,_=>Pl
theorem jV:jL X (λ_=>Pj []) []:=by
 intro Y a h g Z H Q b q;cases h;show kt de (q [] H (Same.refl H) .nil)
theorem fP{b:Ro->Option KD}{fr:Ro->Option (List KD)}(j:ae e=Pm)(p:SndE X b e)(i:jL X fr es):jL X (λY=>ck (b Y) (fr Y)) (e::es):=by
 intro Y n h g Z H Q f q;dsimp only[ck] at h;split at h
 ·ext x s e1 e2;cases h;obtain⟨k,d⟩:=x;show kt (bf au cU (ai j)) (p Y k d e1 g Z H _ f λv m s1 r=>?_);obtain⟨l,c,a⟩:=r;show i Y s e2 (g.plus l) Z m _ (f.plus s1 c a.dom) λu t s2 o=>q (v::u) t (s1.trans s2) (.cons s1 s2 c a o)
 ·cases h
theorem VRs.two(h:VRs K g H0 H [(k,d),(k',d')] vs):∃v f,vs=[v,f]/\VR K g H0 H k d v/\VR K g H0 H k' d' f:=by
 obtain⟨F,j,y,u,c,s,rfl,o,t,p,z,r,i,q,rfl,a,m,n,rfl,l⟩:=h;let e:∀b,F b↔c b\/i b:=λb=>(o b).trans ⟨λz=>z.imp id λz=>((a b).mp z).elim id λz=>absurd z (l b),λz=>z.imp id λz=>(a b).mpr (.inl z)⟩;show⟨y,z,rfl,⟨c,λb z=>j b ((e b).mpr (.inl z)),p.go (λ_ _ h=>h) λb _ _ z=>(e b).mpr (.inl z)⟩,⟨i,λb z=>j b ((e b).mpr (.inr z)),n.go (λ_ _ h=>h) λb _ _ z=>(e b).mpr (.inr z)⟩⟩
end
mutual
noncomputable def Ow.le:Ow->Ow->Bool
 |.fz,_=>Pm
 |.own es r,.own es' r'=>Ow.les es es'&&Ow.le r r'
 |.own _ _,.fz=>Po
noncomputable def Ow.les:List Ow->List Ow->Bool
 |[],[]=>Pm
 |a::as,b::bs=>Ow.le a b&&Ow.les as bs
 |_,_=>Po
end
theorem Ow.les_hd:∀{es c:List Ow} {r r':Ow},Ow.les es c=Pm->Ow.le r r'=Pm->(es.headD r).le (c.headD r')=Pm/\Ow.les es.tail c.tail=Pm
 |[],[],_,_,_,h=>⟨h,rfl⟩
 |a::as,b::bs,_,_,h,_=>by rw[Ow.les,Me] at h;show h
 |[],_::_,_,_,h,_=>by simp[Ow.les] at h
 |_::_,[],_,_,h,_=>by simp[Ow.les] at h
section
variable {K:Md} {H:Hp} {S:Pr}
mutual
theorem Tr.ofIm:∀{d:D} {k:Ow} {v:V},qL d=Pm->Rp K H S d v->Tr K H S d k v (λ_=>False)
 |.non,_,_,_,h=>by unfold Tr;show⟨λ_ z=>z,h⟩
 |.bl _,_,_,_,h=>by unfold Tr;show⟨λ_ z=>z,h⟩
 |.int _,_,_,_,h=>by unfold Tr;show⟨λ_ z=>z,h⟩
 |.str _,_,_,_,h=>by unfold Tr;show⟨λ_ z=>z,h⟩
 |.scr _,_,_,i,_=>by simp[qL] at i
 |.nd hd ds,.fz,_,_,h=>by unfold Tr;show⟨λ_ z=>z,h⟩
 |.nd hd ds,.own es r,v,i,h=>by
  rw[qL,Me] at i;let f:hd.mu=Po:=by simpa using i.1
  unfold Rp at h;unfold Tr;obtain⟨a,o,c,e,n,g,q,t⟩:=h;show⟨a,o,c,λ_=>False,e,g,q,λ_ z=>z,λ_=>n,λb=>⟨λz=>z.elim,λz=>z.elim (λz=>by rw[f] at z;cases z.1) id⟩,TrL.ofIm i.2 t⟩
theorem TrL.ofIm:∀{ds:List D} {es:List Ow} {r:Ow} {vs:List V},zU ds=Pm->RpL K H S ds vs->TrL K H S ds es r vs (λ_=>False)
 |[],_,_,_,_,h=>by unfold TrL;show⟨h.nil_inv,λ_ z=>z⟩
 |d::ds,es,r,vs,i,h=>by
  rw[zU,Me] at i;obtain⟨y,e,rfl,a,c⟩:=h.cons_inv;unfold TrL;show⟨y,e,_,_,rfl,λb=>⟨λz=>z.elim,λz=>z.elim id id⟩,λ_ z=>z.elim,Tr.ofIm i.1 a,TrL.ofIm i.2 c⟩
end
theorem Tr.leaf{S':Pr}(hd:∀h ds,d≠.nd h ds)(h:Tr K H S d c v F)(f:∀b,S' b->H b=Pl\/S b):Tr K H S' d k v (λ_=>False):=by
 cases d with
 |nd a ds=>show absurd rfl (hd a ds)
 |_=>
  unfold Tr at h⊢;show⟨λ_ z=>z,h.2.go λb o n e=>⟨e,λz=>(f b z).elim (λq=>by rw[e] at q;cases q) n⟩⟩
mutual
theorem Tr.part:∀{d:D} {k c:Ow} {v:V} {F:Pr},k.le c=Pm->Tr K H S d c v F->∃F2:Pr,(∀b,F2 b->F b)/\∀S':Pr,(∀b,S' b->H b=Pl\/(S b/\(F b->F2 b)))->Tr K H S' d k v F2
 |.non,_,_,_,_,_,t=>⟨_,λ_ z=>z.elim,λS' i=>t.leaf (λ_ _ e=>nomatch e) λb z=>(i b z).imp id And.left⟩
 |.bl _,_,_,_,_,_,t=>⟨_,λ_ z=>z.elim,λS' i=>t.leaf (λ_ _ e=>nomatch e) λb z=>(i b z).imp id And.left⟩
 |.int _,_,_,_,_,_,t=>⟨_,λ_ z=>z.elim,λS' i=>t.leaf (λ_ _ e=>nomatch e) λb z=>(i b z).imp id And.left⟩
 |.str _,_,_,_,_,_,t=>⟨_,λ_ z=>z.elim,λS' i=>t.leaf (λ_ _ e=>nomatch e) λb z=>(i b z).imp id And.left⟩
 |.scr _,_,_,_,_,_,t=>⟨_,λ_ z=>z.elim,λS' i=>t.leaf (λ_ _ e=>nomatch e) λb z=>(i b z).imp id And.left⟩
 |.nd hd ds,.fz,c,v,F,_,t=>by
  show⟨λ_=>False,λ_ z=>z.elim,λS' i=>.fz ?_⟩;let r:Rp K H (λb=>S' b/\H b≠Pl) (.nd hd ds) v:=t.rp λb z=>(i b z.1).elim (λq=>absurd q z.2) λq=>⟨q.1,q.2⟩;show r.go λb o n e=>⟨e,λz=>n ⟨z,by rw[e];show λh=>by cases h⟩⟩
 |.nd hd ds,.own es r,.fz,_,_,l,_=>by simp[Ow.le] at l
 |.nd hd ds,.own es r,.own es' r',v,F,l,t=>by
  rw[Ow.le,Me] at l;unfold Tr at t;obtain⟨a,o,y,B,e,g,q,s,u,m,x⟩:=t;obtain⟨G,p,A⟩:=TrL.part l.1 l.2 x;show⟨λb=>(hd.mu=Pm/\b=a)\/G b,λb z=>(m b).mpr (z.imp id (p b)),λS' i=>?_⟩;unfold Tr;show⟨a,o,y,G,e,g,q,λj z=>s j (p a z),λj z=>(i a z).elim (λq=>by rw[g] at q;cases q) λq=>u j q.1,λb=>Iff.rfl,A S' λb z=>(i b z).imp id λq=>⟨q.1,λf=>?_⟩⟩;show(q.2 ((m b).mpr (.inr f))).elim (λw=>absurd f (by rw[w.2];show s w.1)) id
theorem TrL.part:∀{ds:List D} {es a:List Ow} {r r':Ow} {vs:List V} {F:Pr},Ow.les es a=Pm->r.le r'=Pm->TrL K H S ds a r' vs F->∃F2:Pr,(∀b,F2 b->F b)/\∀S':Pr,(∀b,S' b->H b=Pl\/(S b/\(F b->F2 b)))->TrL K H S' ds es r vs F2
 |[],_,_,_,_,_,_,_,_,t=>⟨λ_=>False,λ_ z=>z.elim,λS' _=>by unfold TrL at t⊢;show⟨t.1,λ_ z=>z⟩⟩
 |d::ds,es,a,r,r',vs,F,l1,l2,t=>by
  unfold TrL at t;obtain⟨y,u,v,F2,e,g,h,p,o⟩:=t;let k:=Ow.les_hd (r:=r) (r':=r') l1 l2;obtain⟨j,c,m⟩:=Tr.part k.1 p;obtain⟨i,b1,b2⟩:=TrL.part k.2 l2 o;show⟨λb=>j b\/i b,λb z=>(g b).mpr (z.imp (c b) (b1 b)),λS' l=>?_⟩;unfold TrL;show⟨y,u,j,i,e,λb=>Iff.rfl,λb s n=>h b (c b s) (b1 b n),m S' λb z=>(l b z).imp id λq=>⟨q.1,λf=>?_⟩,b2 S' λb z=>(l b z).imp id λq=>⟨q.1,λf=>?_⟩⟩
  ·show(q.2 ((g b).mpr (.inl f))).elim id λw=>absurd (b1 b w) (h b f)
  ·show(q.2 ((g b).mpr (.inr f))).elim (λw=>absurd f (h b (c b w))) id
end
end
def bM(k:Ow)(p:KD):Bool:=match k with
 |.fz=>qM p.1 p.2
 |k=>(match p.1 with|.fr c=>k.le c|_=>Po)||qL p.2
def oP:List Ow->Ow->List KD->Bool
 |_,_,[]=>Pm
 |es,r,p::ps=>bM (es.headD r) p&&oP es.tail r ps
section
variable {K:Md} {H H' H0:Hp} {g:Gh} {Ft F:Pr}
theorem VR1.fit{p:KD}(h:bM k p=Pm)(m:MuOk H (Sx g Ft))(hd:∀b,F b->g b=Pl)(u:∀b,F b->Ft b)(r:VR1 K H g Ft p.1 p.2 v F):∃F2:Pr,(∀b,F2 b->F b)/\∀S':Pr,(∀b,S' b->H b=Pl\/g b≠Pl\/F2 b\/(Ft b/\¬F b))->Tr K H S' p.2 k v F2:=by
 obtain⟨s,d⟩:=p
 cases k with
 |fz=>
  show⟨λ_=>False,λb z=>z.elim,λS' a=>.fz ?_⟩
  let j:Rp K H (λb=>S' b/\H b≠Pl) d v:=by
   cases s with
   |sh=>
    show r.2.weak λb z=>?_;rcases a b z.1 with q|q|q|q
    ·show absurd q z.2
    ·show .inl q
    ·show q.elim
    ·show .inr q.1
   |fr c=>
    show Tr.rp (λb z=>?_) r;rcases a b z.1 with q|q|q|q
    ·show absurd q z.2
    ·show⟨.inl q,λw=>q (hd b w)⟩
    ·show q.elim
    ·show⟨.inr q.1,q.2⟩
   |bo i c=>
    show r.rd.im (λb z=>?_) h;rcases a b z.1 with q|q|q|q
    ·show absurd q z.2
    ·show m b (.inl q)
    ·show q.elim
    ·show m b (.inr q.1)
  show j.go λb o n e=>⟨e,λz=>n ⟨z,by rw[e];show λh=>by cases h⟩⟩
 |own x y=>
  rcases NC _ _▸(show(_||_)=Pm from h) with h|h
  ·cases s with
   |sh=>cases h
   |bo i c=>cases h
   |fr c=>
    obtain⟨F2,l,t⟩:=Tr.part h r;show⟨F2,l,λS' a=>t S' λb z=>?_⟩;rcases a b z with q|q|q|q
    ·show .inl q
    ·show .inr ⟨.inl q,λf=>absurd (hd b f) q⟩
    ·show .inr ⟨.inr (u b (l b q)),λ_=>q⟩
    ·show .inr ⟨.inr q.1,λf=>absurd f q.2⟩
  ·show⟨λ_=>False,λb z=>z.elim,λS' a=>.ofIm h ?_⟩
   let j:Rp K H (λb=>S' b/\H b≠Pl) d v:=by
    show r.rd.im (λb z=>?_) h;rcases a b z.1 with q|q|q|q
    ·show absurd q z.2
    ·show m b (.inl q)
    ·show q.elim
    ·show m b (.inr q.1)
   show j.go λb o n e=>⟨e,λz=>n ⟨z,by rw[e];show λh=>by cases h⟩⟩
theorem VRL.fit:∀{kds:List KD} {es:List Ow} {r:Ow} {vs:List V} {F:Pr},oP es r kds=Pm->MuOk H (Sx g Ft)->(∀b,F b->g b=Pl)->(∀b,F b->Ft b)->VRL K H g Ft kds vs F->
  ∃d:Pr,(∀b,d b->F b)/\∀c:Pr,(∀b,c b->H b=Pl\/g b≠Pl\/d b\/(Ft b/\¬F b))->TrL K H c (kds.map (·.2)) es r vs d
 |[],es,r,vs,F,_,_,_,_,h=>⟨λ_=>False,λb z=>z.elim,λc f=>by unfold N7 TrL;show⟨h.1,λb z=>z⟩⟩
 |p::ps,es,r,vs,F,hf,m,hd,hs,h=>by
  obtain⟨y,l,v,d,rfl,a,i,u,s⟩:=h;unfold oP at hf;rw[Me] at hf;obtain⟨k,e,n⟩:=VR1.fit hf.1 m (λb z=>hd b ((a b).mpr (.inl z))) (λb z=>hs b ((a b).mpr (.inl z))) u;obtain⟨j,b1,b2⟩:=VRL.fit hf.2 m (λb z=>hd b ((a b).mpr (.inr z))) (λb z=>hs b ((a b).mpr (.inr z))) s;show⟨λb=>k b\/j b,λb z=>(a b).mpr (z.imp (e b) (b1 b)),λc f=>?_⟩;change TrL K H c (p.2::ps.map (·.2)) es r (y::l) _;unfold TrL;show⟨y,l,k,j,rfl,λb=>Iff.rfl,λb t o=>i b (e b t) (b1 b o),n c λb z=>?_,b2 c λb z=>?_⟩
  ·rcases f b z with q|q|(q|q)|q
   ·show .inl q
   ·show .inr (.inl q)
   ·show .inr (.inr (.inl q))
   ·show .inr (.inr (.inr ⟨hs b ((a b).mpr (.inr (b1 b q))),λz=>i b z (b1 b q)⟩))
   ·show .inr (.inr (.inr ⟨q.1,λz=>q.2 ((a b).mpr (.inl z))⟩))
  ·rcases f b z with q|q|(q|q)|q
   ·show .inl q
   ·show .inr (.inl q)
   ·show .inr (.inr (.inr ⟨hs b ((a b).mpr (.inl (e b q))),λz=>i b (e b q) z⟩))
   ·show .inr (.inr (.inl q))
   ·show .inr (.inr (.inr ⟨q.1,λz=>q.2 ((a b).mpr (.inr z))⟩))
theorem VRs.node{kds:List KD}{hd:Hd}(x:oP es r kds=Pm)(m:MuOk H0 (Sg g))(s:Same H0 H)(h:VRs K g H0 H kds vs)(c:H p=Pl)(u:cR K o hd vs)(k:hd.mu=Pm) :
  VR K g H0 (upd H p o) (.fr (.own es r)) (.nd hd (kds.map (·.2))) (.ref p):=by
 obtain⟨F,t,f⟩:=h
 let d:∀b,F b->g b=Pl:=λb z=>by
  cases e:g b with
  |none=>rfl
  |some i=>
   obtain⟨o,q,_⟩:=m b (by rw[Sg,e];show λh=>by cases h);rw[t b z] at q;cases q
 let v:MuOk H (Sx g F):=λb z=>z.elim (λz=>m.same s b z) (λz=>f.dom b z);obtain⟨a,j,w⟩:=f.fit x v d λb z=>z
 let y:¬a p:=λz=>by
  obtain⟨o,q,_⟩:=f.dom p (j p z);rw[c] at q;cases q
 show⟨λb=>b=p\/a b,λb z=>z.elim (λz=>z▸s.free c) λz=>t b (j b z),?_⟩;change Tr _ _ _ _ _ _ _;unfold Tr;show⟨p,o,vs,a,rfl,ak,u,λ_=>y,λh=>by (rw[k] at h;cases h),λb=>⟨λz=>z.imp (λz=>⟨k,z⟩) id,λz=>z.imp (λz=>z.2) id⟩,?_⟩;show(w (λb=>g b≠Pl\/a b) λb z=>.inr (z.imp id λz=>.inl z)).go (λb l _ e=>ag c b l e) λb l e n z=>?_;rcases z with z|z|z
 ·show n (.inl z)
 ·subst z;rw[c] at e;cases e
 ·show n (.inr z)
theorem VRs.tupO{kds:List KD}(v:oP es r kds=Pm)(m:MuOk H0 (Sg g))(s:Same H0 H)(h:VRs K g H0 H kds vs)(f:H p=Pl) :
  VR K g H0 (upd H p (.tup vs)) (.fr (.own es r)) (.tup (kds.map (·.2))) (.ref p):=by
 obtain⟨F,l,d⟩:=h
 let c:∀b,F b->g b=Pl:=λb z=>by
  cases e:g b with
  |none=>rfl
  |some i=>
   obtain⟨o,q,_⟩:=m b (by rw[Sg,e];show λh=>by cases h);rw[l b z] at q;cases q
 let t:MuOk H (Sx g F):=λb z=>z.elim (λz=>m.same s b z) (λz=>d.dom b z);obtain⟨a,j,u⟩:=d.fit v t c λb z=>z
 let w:¬a p:=λz=>by
  obtain⟨o,q,_⟩:=d.dom p (j p z);rw[f] at q;cases q
 show⟨a,λb z=>l b (j b z),?_⟩;change Tr _ _ _ _ _ _ _;unfold Tr
 show⟨p,_,vs,a,rfl,ak,rfl,(λh=>nomatch h),λ_ z=>?_,λb=>⟨λz=>.inr z,λz=>z.elim (λz=>nomatch z.1) id⟩,?_⟩
 ·rcases z with z|z
  ·obtain⟨o,q,_⟩:=m.same s p z;rw[f] at q;cases q
  ·show w z
 ·show(u (λb=>g b≠Pl\/a b) λb z=>.inr (z.imp id λz=>.inl z)).go (λb k _ e=>ag f b k e) λb k e n z=>n z
end
def m6(k:Ow)(a:Option (List KD)):Option KD:=match a with
 |some kds=>(match k with|.own es r=>if oP es r kds=Pm/\kds.length<=100000 then Pj (.fr (.own es r),.lst (kds.map (·.2))) else Pl|.fz=>Pl)
 |none=>Pl
def hZq(k:Ow)(a:Option (List KD)):Option KD:=match a with
 |some kds=>(match k with
  |.own es r=>if oP es r kds=Pm/\kds.length<=100000 then Pj (.fr (.own es r),.tup (kds.map (·.2))) else Pl
  |.fz=>if(kds.all λp=>qM p.1 p.2)=Pm/\kds.length<=100000 then Pj (.sh,.tup (kds.map (·.2))) else Pl)
 |none=>Pl
section
variable {X:Cx} {U:Tab} {c:Cz}
theorem VRs.len{kds:List KD}{vs:List V}(h:VRs K g H0 H kds vs):vs.length=kds.length:=by
 have:=h.rd.len;rw[Mh] at this;show this
theorem G0{f:Ro->Option (List KD)}(l:jL X f es):SndE X (λY=>m6 k (f Y)) (.List es pos):=by
 intro Y n d h g Z H Q j q;dsimp only[m6] at h;split at h
 ·ext a e;split at h
  ·split at h
   ·ext b;cases h;show ao (De cU) (l Y a e g Z H _ j λo m s1 i=>⟨by rw[i.len];show aK b.2,λp c=>?_⟩);show q _ _ (s1.trans (ag c)) (i.node b.1 j.mu s1 c rfl rfl)
   ·cases h
  ·cases h
 ·cases h
theorem G3{f:Ro->Option (List KD)}(l:jL X f es):SndE X (λY=>hZq k (f Y)) (.Tuple es n pos):=by
 intro Y r d h g Z H Q j q;dsimp only[hZq] at h;split at h
 ·ext b e;split at h
  ·split at h
   ·ext a;cases h;show ao (mO cU) (l Y b e g Z H _ j λo m s1 i=>⟨by rw[i.len];show aK a.2,λp c=>?_⟩);show q _ _ (s1.trans (ag c)) (i.tupO a.1 j.mu s1 c)
   ·cases h
  ·split at h
   ·ext a;cases h;show ao (mO cU) (l Y b e g Z H _ j λo m s1 i=>⟨by rw[i.len];show aK a.2,λp c=>?_⟩);show q _ _ (s1.trans (ag c)) ((zW (j.mu.same s1) c (i.sh a.1 j.mu s1)).older s1)
   ·cases h
 ·cases h
noncomputable def cV:Pp->Bool
 |.Slice ..=>Po
 |_=>Pm
theorem bX(h:cV b=Pm):sr b:=by
 intro o i
 cases b<;>first|rfl|cases h
def DE(z:Str)(i:Int):Option Str:=(L2.qe z.cps.toList i).map λc=>⟨#[c]⟩
def Jd(k:Kd)(xs:List D)(i:Int):Option KD:=match jx xs.length i with|some j=>(xs[j]?).map λd=>(oN k j,d)|none=>Pl
def J2(k:Kd)(x:D)(i:Int):Option KD:=match x with
 |.nd hd xs=>(match hd with|.lst=>Jd k xs i|.tup=>Jd k xs i|_=>Pl)
 |.scr ns=>(L2.qe ns i).map λd=>(.sh,.int d)
 |.str z=>if z.length<=100000 then(DE z i).map λd=>(.sh,.str d) else Pl
 |_=>Pl
noncomputable def DF(x:D):Option (Nat×List DK×List D):=match x with
 |.nd hd xs=>(match hd with|.dic t ks=>Pj (t,ks,xs)|_=>Pl)
 |_=>Pl
def qR(k:Kd)(p:Nat×List DK×List D)(y:D):Option KD:=match iW y with
 |some q=>if hUq p.1 q=Pm then(match aS p.2.1 q with|some j=>(p.2.2[j]?).map λd=>(oN k j,d)|none=>Pl) else Pl
 |none=>Pl
def DG(x y:KD):Option KD:=match DF x.2 with
 |some p=>qR x.1 p y.2
 |none=>(match y.2 with|.int i=>J2 x.1 x.2 i|_=>Pl)
def vY(a b:Option KD):Option KD:=match a with
 |some x=>(match b with|some y=>DG x y|none=>Pl)
 |none=>Pl
def xa(f:Str)(a:Option KD):Option KD:=match a with
 |some (ka,.nd (.obj _ ns) xs)=>(match aZ f ns with|some j=>(xs[j]?).map λd=>(oN ka j,d)|none=>Pl)
 |_=>Pl
theorem qS{v:V}:∀{ns:List Str} {us:List V} {j:Nat},aZ f ns=Pj j->us[j]?=Pj v->(ns.zip us).lookup f=Pj v
 |[],_,_,h,_=>by cases h
 |_::_,[],_,_,e=>by simp at e
 |n::ns,u::us,j,h,e=>by
  unfold aZ at h;rw[NN,MA];split at h
  ·ext a;cases h;rw[a,beq_self_eq_true];simpa using e
  ·ext a;obtain⟨c,b,rfl⟩:=OL.mp h;rw[beq_eq_false_iff_ne.mpr a];show qS b (by simpa using e)
theorem G4{b:Ro->Option KD}(m:attributeBase a f X.env (eval a X.env)=eval a X.env)(w:SndE X b a):SndE X (λY=>xa f (b Y)) (.Attribute a f pos):=by
 intro Y I d h g Z H Q D q;dsimp only[xa] at h;split at h
 ·ext E c ns A u;split at h
  ·ext j i
   cases e:A[j]? with
   |none=>rw[e] at h;cases h
   |some K=>
    rw[e] at h;cases h;show ao (wt au m) (w Y _ _ u g Z H _ D λx B s l=>?_);obtain⟨p,o,F,rfl,n,r,L,z⟩:=l.ch;obtain⟨C,y,_,⟨t,k⟩,rfl,_⟩:=r;obtain⟨v,e1,e2⟩:=z j _ e;show⟨p,C,y,_,v,rfl,n,t,k f (Mu (aX i)),qS i e1,q v B s e2⟩
  ·cases h
 ·cases h
theorem z6{α β:Type}(f:α->β)(xs:List α)(i:Int):L2.qe (xs.map f) i=(L2.qe xs i).map f:=by
 unfold L2.qe;rw[Mh]
 cases jx xs.length i with
 |none=>rfl
 |some j=>simp
theorem xb{α β:Type}{o:Option α}{g:α->β}{b:β}(h:o.map g=Pj b):∃a,o=Pj a/\b=g a:=by
 cases o with
 |none=>cases h
 |some a=>cases h;show⟨a,rfl,rfl⟩
theorem xc{xs:List D}{i:Int}{r:KD}(h:Jd k xs i=Pj r):∃j,jx xs.length i=Pj j/\xs[j]?=Pj r.2/\r.1=oN k j:=by
 unfold Jd at h
 cases e:jx xs.length i with
 |none=>rw[e] at h;cases h
 |some j=>
  rw[e] at h;obtain⟨d,e1,e2⟩:=xb h;show⟨j,rfl,by rw[e1,e2],by rw[e2]⟩
theorem z7{p:Nat×List DK×List D}{r:KD}(h:qR k p y=Pj r):∃q j,iW y=Pj q/\hUq p.1 q=Pm/\aS p.2.1 q=Pj j/\p.2.2[j]?=Pj r.2/\r.1=oN k j:=by
 unfold qR at h
 cases e:iW y with
 |none=>rw[e] at h;cases h
 |some q=>
  rw[e] at h;by_cases a:hUq p.1 q=Pm
  ·dsimp only at h;rw[if_pos a] at h
   cases e1:aS p.2.1 q with
   |none=>rw[e1] at h;cases h
   |some j=>
    rw[e1] at h;obtain⟨d,e2,e3⟩:=xb h;show⟨q,j,rfl,a,e1,by rw[e2,e3],by rw[e3]⟩
  ·dsimp only at h;rw[if_neg a] at h;cases h
theorem z8{p:Nat×List DK×List D}(h:DF x=Pj p):x=.nd (.dic p.1 p.2.1) p.2.2:=by
 cases x with
 |nd a c=>cases a with
  |dic t b=>cases h;rfl
  |_=>cases h
 |_=>cases h
theorem sK{x y r:KD}(h:DG x y=Pj r):(∃i,y.2=.int i/\J2 x.1 x.2 i=Pj r)\/∃p,x.2=.nd (.dic p.1 p.2.1) p.2.2/\qR x.1 p y.2=Pj r:=by
 unfold DG at h
 cases e:DF x.2 with
 |some p=>rw[e] at h;show .inr ⟨p,z8 e,h⟩
 |none=>
  rw[e] at h;obtain⟨b,a⟩:=y
  cases a with
  |int i=>show .inl ⟨i,rfl,h⟩
  |_=>cases h
theorem sL{Q:VK}(h:J2 k dx i=Pj (kd,d))(b:VR K g H0 H2 k dx vx)(q:∀v,VR K g H0 H2 kd d v->Q v H2):Ls K vx (.int i) H2 Q:=by
 cases dx with
 |nd t w=>cases t with
  |lst=>
   obtain⟨j,m,e,rfl⟩:=xc h;obtain⟨p,o,r,rfl,a,l,s,n⟩:=b.ch;cases(show o=_ from l);obtain⟨v,e1,e2⟩:=n j _ e;show .inl ⟨p,r,i,v,rfl,rfl,.of a,by unfold L2.qe;rw[s,m];show e1,q v e2⟩
  |tup=>
   obtain⟨j,m,e,rfl⟩:=xc h;obtain⟨p,o,r,rfl,a,l,s,n⟩:=b.ch;cases(show o=_ from l);obtain⟨v,e1,e2⟩:=n j _ e;show .inr (.inl ⟨p,r,i,v,rfl,rfl,.of a,by unfold L2.qe;rw[s,m];show e1,q v e2⟩)
  |_=>cases h
 |scr ns=>
  obtain⟨f,e,u⟩:=xb (show(L2.qe ns i).map _=Pj (kd,d) from h);cases u;obtain⟨p,rfl,a⟩:=b.rd.scr;show .inl ⟨p,_,i,.int f,rfl,rfl,a,by rw[z6,e];rfl,q _ qO⟩
 |str z=>
  by_cases c:z.length<=100000
  ·let h:(DE z i).map _=Pj (kd,d):=(if_pos c).symm.trans h;unfold DE at h
   cases e:L2.qe z.cps.toList i with
   |none=>rw[e] at h;cases h
   |some f=>
    rw[e] at h;cases h;obtain rfl:=b.rd.str;show .inr (.inr ⟨z,i,f,rfl,rfl,aK c,e,q _ GM⟩)
  ·cases(if_neg c).symm.trans h
 |_=>cases h
theorem oQ{p:Nat×List DK×List D}{Q:VK}(h:qR k p dy=Pj (kd,d))(e:VR K g H0 H2 k (.nd (.dic p.1 p.2.1) p.2.2) vx)(f:VR K g H0 H2 ky dy vy)(q:∀v,VR K g H0 H2 kd d v->Q v H2):∃b v,vx=.ref b/\DGet H2 b vy (Pj v)/\Q v H2:=by
 obtain⟨t,j,s,c,n,m,rfl⟩:=z7 h;obtain⟨b,o,u,rfl,i,l,w,r⟩:=e.ch;obtain⟨v,e1,e2⟩:=r j _ m;let a:=jU i l s f.rd c;rw[n,MZ,e1] at a;show⟨b,v,rfl,a,q v e2⟩
theorem J3(O:am X U c){k fb:Ro->Option KD}(u:SndE X k a)(t:SndE X fb b)(w:cV b=Pm):SndE X (λY=>vY (k Y) (fb Y)) (.Subscript a b pos):=by
 intro Y F d h g Z H Q z q;dsimp only[vY] at h
 cases f:k Y with
 |none=>rw[f] at h;cases h
 |some x=>cases j:fb Y with
  |none=>rw[f,j] at h;cases h
  |some y=>
   rw[f,j] at h;obtain⟨E,D⟩:=x;obtain⟨I,A⟩:=y;rcases sK h with⟨i,e,n⟩|⟨p,e,n⟩
   ·cases(show A=_ from e);show ao (su mR au au (bX w)) (two u t f j z λC B o s l m=>?_);obtain rfl:=m.rd.int;show sL n l λv r=>q v o s r
   ·cases(show D=_ from e);show ao (mU (by have:=O.tab.units;lia) au au (bX w)) (two u t f j z λC B o s l m=>oQ n l m λv r=>q v o s r)
def jN(xs:List D)(lo hi:Option Int):List D:=(xs.drop (HT.bZ xs.length 0 lo)).take (HT.bZ xs.length xs.length hi-HT.bZ xs.length 0 lo)
theorem RpL.cut(h:RpL K H S ds vs)(lo hi:Option Int):RpL K H S (jN ds lo hi) (oy vs lo hi):=by
 unfold jN oy;rw[h.len];show(h.drop _).take _
def wO(X:Cx)(e:Option Pp):TO:=λZ H Q=>∃t,PO X e t/\t Z H Q
theorem qT:PO X e (wO X e):=λa s Z H Q I h=>let ⟨t,p,q⟩:=h;p a s Z H Q I q
def u5(X:Cx)(f:Ro->Option (Option Int))(e:Option Pp):Prop:=∀Y o,f Y=Pj o->∀g Z H Q,SE X.K g Y Z H->(∀H',Same H H'->Q o H')->wO X e Z H Q
noncomputable def z9(a:Option KD):Option (Option Int):=match a with|some (_,.int i)=>Pj (Pj i)|_=>Pl
theorem DH:u5 X (λ_=>Pj Pl) Pl:=λY o h g Z H Q a q=>by cases h;show⟨_,zK,q H (Same.refl H)⟩
theorem DI{f:Ro->Option KD}(c:SndE X f e):u5 X (λY=>z9 (f Y)) (Pj e):=λY o h g Z H Q d q=>by
 dsimp only[z9] at h;split at h
 ·ext k i a;cases h;show⟨_,zL au,c Y _ _ a g Z H _ d λv b s r=>⟨i,r.rd.int,q b s⟩⟩
 ·cases h
def DJ(a:Option KD)(lo hi:Option (Option Int)):Option KD:=match a,lo,hi with
 |some (ka,.nd .lst xs),Pj l,Pj u=>if eA ka xs=Pm then Pj (.fr aO,.lst (jN xs l u)) else Pl
 |some (_,.scr ns),Pj l,Pj u=>Pj (.fr aO,.lst (jN (ns.map .int) l u))
 |some (ka,.nd .tup xs),Pj l,Pj u=>if eA ka xs=Pm then Pj (.sh,.tup (jN xs l u)) else Pl
 |_,_,_=>Pl
theorem J4{I:Ro->Option KD}{K M:Ro->Option (Option Int)}(F:SndE X I a)(B:u5 X K lo)(C:u5 X M hi):SndE X (λY=>DJ (I Y) (K Y) (M Y)) (.Subscript a (.Slice lo hi Pl p2) pos):=by
 intro Y O d h g Z H Q f q;dsimp only[DJ] at h;split at h
 ·ext L j l u y t v;split at h
  ·ext hk;cases h;show ao (kh sw au qT qT) (F Y _ _ y g Z H _ f λx m s1 k=>B Y _ t g Z m _ (f.same s1) λA s2=>C Y _ v g Z A _ ((f.same s1).same s2) λD c=>?_);obtain⟨p,o,s,rfl,i,E,r⟩:=((k.same s2).same c).items hk f.mu ((s1.trans s2).trans c);cases(show o=_ from E);show⟨p,s,rfl,.of i,λN b=>q _ _ (((s1.trans s2).trans c).trans (ag b)) ((kA b (r.cut l u)).older ((s1.trans s2).trans c))⟩
  ·cases h
 ·ext L ns l u y t v;cases h;show ao (kh sw au qT qT) (F Y _ _ y g Z H _ f λx m s1 k=>B Y _ t g Z m _ (f.same s1) λA s2=>C Y _ v g Z A _ ((f.same s1).same s2) λD c=>?_);obtain⟨p,rfl,i⟩:=((k.same s2).same c).rd.scr;show⟨p,_,rfl,i,λN b=>q _ _ (((s1.trans s2).trans c).trans (ag b)) ((kA b ((RpL.ints ns).cut l u)).older ((s1.trans s2).trans c))⟩
 ·ext L j l u y t v;split at h
  ·ext hk;cases h;show ao (kh (sl_tup.or zO) au qT qT) (F Y _ _ y g Z H _ f λx m s1 k=>B Y _ t g Z m _ (f.same s1) λA s2=>C Y _ v g Z A _ ((f.same s1).same s2) λD c=>?_);obtain⟨p,o,s,rfl,i,E,r⟩:=((k.same s2).same c).items hk f.mu ((s1.trans s2).trans c);cases(show o=_ from E);by_cases w:HT.bZ j.length 0 l=0/\HT.bZ j.length j.length u=j.length
   ·show .inr ⟨p,s,rfl,.of i,by rw[r.len];show w.1,by rw[r.len];show w.2,q _ D ((s1.trans s2).trans c) (FC ?_)⟩;let e:jN j l u=j:=by unfold jN;rw[w.1,w.2,OO,O0,Nk]
    rw[e];unfold Rp;show⟨p,_,s,rfl,λz=>?_,i,rfl,r⟩;obtain⟨o,e,n⟩:=(f.mu.same ((s1.trans s2).trans c)) p z;rw[i] at e;cases e;show n _ rfl
   ·show .inl ⟨p,s,rfl,.of i,by rw[r.len];show w,λN b=>q _ _ (((s1.trans s2).trans c).trans (ag b)) ((zW (f.mu.same ((s1.trans s2).trans c)) b (r.cut l u)).older ((s1.trans s2).trans c))⟩
  ·cases h
 ·cases h
theorem RpL.pick{ds:List D}{us:List V}(r:RpL K H S ds us):∀a:List Nat,RpL K H S (a.filterMap λi=>ds[i]?) (a.filterMap λi=>us[i]?)
 |[]=>.nil
 |i::a=>by
  let b:=RpL.pick r a;by_cases h:i<ds.length
  ·obtain⟨u,e1,e2⟩:=r.getD (Ms h);rw[MU,MU,Ms h,e1];show .cons e2 b
  ·rw[MU,MU,MY (by lia),MY (by rw[r.len];lia)];show b
def G5(x:KD)(l:Option Int)(d:D):Option KD:=match x.2 with
 |.nd hd xs=>(match hd with
  |.lst=>(match d with|.int k=>if eA x.1 xs=Pm/\1<=k then Pj (.fr aO,.lst (G.cj xs l (Pj k))) else Pl|_=>Pl)
  |_=>Pl)
 |_=>Pl
def u6(a:Option KD)(lo:Option (Option Int))(b:Option KD):Option KD:=match a with
 |some x=>(match lo with|some l=>(match b with|some y=>G5 x l y.2|none=>Pl)|none=>Pl)
 |none=>Pl
theorem G6{j fs:Ro->Option KD}{m:Ro->Option (Option Int)}{a st:Pp}{lo:Option Pp}{p2 pos:Pos}(T:SndE X j a)(E:u5 X m lo)(M:SndE X fs st):SndE X (λY=>u6 (j Y) (m Y) (fs Y)) (.Subscript a (.Slice lo Pl (Pj st) p2) pos):=by
 intro Y z d h g Z H Q i q;dsimp only at h
 cases c:j Y with
 |none=>rw[c] at h;cases h
 |some x=>cases f:m Y with
  |none=>rw[c,f] at h;cases h
  |some l=>cases n:fs Y with
   |none=>rw[c,f,n] at h;cases h
   |some y=>
    rw[c,f,n] at h;let h:G5 x l y.2=Pj (z,d):=h;obtain⟨C,S⟩:=x;obtain⟨W,L⟩:=y
    cases S with
    |nd A r=>cases A with
     |lst=>cases L with
      |int k=>
       obtain⟨hk,e⟩:=uZ (show(if eA C r=Pm/\1<=k then Pj (Kd.fr aO,D.lst (G.cj r l (Pj k))) else Pl)=Pj (z,d) from h)
       cases e;show ao (G.Dv au qT au) (T Y _ _ c g Z H _ i λv I s1 F=>E Y _ f g Z I _ (i.same s1) λU s2=>M Y _ _ n g Z U _ ((i.same s1).same s2) λw N s O=>?_);let s13:=(s1.trans s2).trans s;obtain⟨p,o,u,rfl,P,R,t⟩:=((F.same s2).same s).items hk.1 i.mu s13;cases(show o=_ from R);obtain rfl:=O.rd.int
       let B:RpL X.K N (Sg g) (G.cj r l (Pj k)) (G.cj u l (Pj k)):=by
        unfold G.cj;rw[t.len];show t.pick _
       show⟨p,u,k,rfl,rfl,by lia,.of P,λV b=>q _ _ (s13.trans (ag b)) ((kA b B).older s13)⟩
      |_=>cases h
     |_=>cases h
    |_=>cases h
end
end J
namespace G
open PyProof.Rows
def Ri(xs:Array Nat):Prop:=xs.toList.Pairwise (· < ·)
structure Gd(led:Bool)(t:SetTable):Prop where
 ri:Ri t.place
 nod:t.dummies=#[]
 led:t.led=led
def ns(es:List (Int×Pn)):List Int:=es.map λe=>numOf e.2
def addI(q:List Int)(k:Int):List Int:=if k∈q then q else q++[k]
def G7(x:Int):List Int->List Int
 |[]=>[x]
 |y::ys=>if x<y then x::y::ys else if x=y then y::ys else y::G7 x ys
def G8(xs:List Int):List Int:=xs.foldr G7 []
theorem qU:typeLookup (.type "list_reverseiterator") "__len__" = pure Pl:=by rw[typeLookup_type,builtinLookup_eq_fast];kernel_rfl
theorem xd:typeLookup (.type "list_reverseiterator") "__length_hint__" = pure (Pj (.builtin "list_reverseiterator.__length_hint__")):=by rw[typeLookup_type,builtinLookup_eq_fast];kernel_rfl
section
variable {prog:Px} {w:PB} {A:PC} {E:Pn->Pt->Prop} {s:Pt} {R:Result->Pt->Prop}
theorem qV{c:Array Pn}(x:A.handled=Pl)(q:l≠it)(k:S≠it)(p:S≠l)(g:s.heap.IsRevIter it l ((c.size:Int)-1)/\s.heap.IsList l c)(t:s.heap.get? S=Pj { cls:=.type "list",data:=.seq #[] c₀ })(hsz:c.size<=100000)(z:∀s' d h,Moved [S,it] (λa b=>b=a) s s'->s'.heap.get? S=Pj { cls:=.type "list",dict:=Pl,data:=.seq d h,slots:=#[] }->ItemsOf (λi v=>c[c.size-1-i]?=Pj v) d c.size->R (.ok (.ret .none)) s') :
  Pv (Pw prog w) A.in1 (Builtin.List.listExtendWith (.ref S) (.ref it) .none)
   (λo s'=>match o with|.done f=>R (.ok f) s'|.again h=>h.quiet=Pm/\codeAny (Pw prog w) A h R s') (λe s'=>R (.error e) s') s:=by
 let W:=(Walks.listRev (prog:=prog) (w:=w) (A:=A.in1) (by simpa using x) it l q c).toS;let m:s.TypeIs (.ref it) "list_reverseiterator":=g.1.typeIs;unfold Builtin.List.listExtendWith;show Pq (wpAny_typeOf m ?_);let B:Builtin.List.listSameRef (.ref S) (.ref it)=Po:=by simp[Builtin.List.listSameRef,k]
 let r:(Value.type "list_reverseiterator" == Value.type "list")=Po:=by decide
 let y:(Value.type "list_reverseiterator" == Value.type "tuple")=Po:=by decide
 simp only[B,r,y,OV,M3,if_false];show Pq (wpAny_pyIter_revIter g.1 ?_);show Pq (PP ?_);unfold Builtin.List.listLengthHint;show Pq (wpAny_specialOf m qU ?_);show Pq (wpAny_specialOf m xd ?_)
 wp_delta
 show Pq (wpAny_isInstance (b:=Pm) m (by rw[isSubtype_type];kernel_rfl) ?_);show Pu ?_;rw[if_neg (by decide)];show Pu ⟨plainId_quiet PySem.F.plain_extend_loop _,codeAny_extend_loopS W (by rw[sizeLine_eq];lia) _ (by simp[k,p]) _ c.size 0 _ _ _ rfl (ML _) ⟨ML _,by simpa using g.1,g.2⟩ t (ItemsOf.nil _) λs' d h u n j=>z s' d h u n j⟩
theorem lC{it l:Ps}{a:Array Pn}{Q:Pn->Pt->Prop}(M:A.handled=Pl)(z:l≠it)(h:s.heap.IsRevIter it l ((a.size:Int)-1)/\s.heap.IsList l a)(hsz:a.size<=100000)
  (hQ:∀k P c C,(∀b o,b≠it->s.heap.get? b=Pj o->k.get? b=Pj o)->k.get? s.heap.objs.size=Pj { cls:=.type "list",dict:=Pl,data:=.seq c C,slots:=#[] }->c.toList=a.toList.reverse->Q (.ref s.heap.objs.size) { s with heap:=k,toks:=P }) :
  Pv (Pw prog w) A (call (.type "list") [.ref it]) Q E s:=by
 show callType_codes (Q₁:=λp D=>p=.ref s.heap.objs.size/\D={ s with heap:=s.heap.push { cls:=.type "list",data:=.seq #[] } }) PySem.F.called_list (PySem.F.typeCall_list_1 _) PySem.F.entry_list_init
  (code_list_new _ ⟨rfl,rfl⟩) λp D K=>?_
 obtain⟨rfl,rfl⟩:=K;let t:(s.heap.push { cls:=.type "list",data:=.seq #[] }).get? s.heap.objs.size=Pj { cls:=.type "list",data:=.seq #[] }:=Mp _ rfl;obtain⟨S,m,L⟩:=id h.1;obtain⟨R,j,I⟩:=id h.2;let q:it<s.heap.objs.size:=Ml m;let n:l<s.heap.objs.size:=Ml j;show⟨⟨_,t,rfl⟩,PySem.F.args_list_init_2 _ _,?_⟩;show Pq ?_;unfold Builtin.List.listItems;show Pq (wpAny_seqItems t rfl (Pu ?_));show Pq (wpAny_updateSeq t rfl ?_);let B:=NR (Obj.mapSeq (λ_=>(#[]:Array Pn))) t rfl
 let f:∀b o,b≠s.heap.objs.size->s.heap.get? b=Pj o->((s.heap.push { cls:=.type "list",data:=.seq #[] }).update s.heap.objs.size (Obj.mapSeq (λ_=>(#[]:Array Pn)))).get? b=Pj o:=
  λb o u e=>(Nz _ _ (Ne.symm u)).trans (Mf _ e)
 show Pq (wpAny_letGo ?_);show qV (by simpa using M) z (Nn q) (Nn n) ⟨⟨S,f _ _ (Mr q) m,L⟩,⟨R,f _ _ (Mr n) j,I⟩⟩ B hsz λT c C r v d=>?_;obtain⟨k,O,N,x,y⟩:=T;obtain rfl:O=s.gens:=r.gens;obtain rfl:N=s.drawn:=r.drawn;obtain rfl:y=s.os:=r.os;show⟨rfl,hQ k x c C (λb o u e=>r.heap b o (by simp only[Mn,Mv,or_false,not_or];show⟨Mr (Ml e),u⟩) (f b o (Mr (Ml e)) e)) v ?_⟩;show NF λi=>?_;let U:c.toList.length=a.size:=by rw[Nt,d.1]
 rcases O1 i a.size with g|g
 ·let H:i<c.size:=by rw[d.1];show g
  have:=d.2 i c[i] (Ng H);rw[List.getElem?_reverse (by simpa using g),Nh,Nh,Ng H,Nt,this]
 ·rw[MY (by lia),MY (by simpa using g)]
end
section
variable {X:Cx}
def G9(X:Cx)(ta:TA):TE:=λZ H Q=>ta Z H λvs H1=>∃l xs,vs=[.ref l]/\SqL X.K H1 l xs/\xs.length<=100000/\∀p,H1 p=Pl->Q (.ref p) (upd H1 p (.lst xs.reverse))
theorem oR:∀{xs:List V} {vs:List Pn},Vals xs vs->Vals xs.reverse vs.reverse
 |_,_,.nil=>.nil
 |_,_,.cons h t=>by
  rw[Nr,Nr];show(oR t).append (.cons h .nil)
theorem Aa{a:Pp}(F:X.calm=Pm)(R:Gl X "list")(S:X.mg "list" = Pl)(t:Gl X "reversed")(r:X.mg "reversed" = Pl)(U:PA X [a] ta)(N:Py [a] X.env=[(Po,eval a X.env)])(hs2:Py [.Call (.Name "reversed" p2) [a] [] pos2] X.env=[(Po,eval (.Call (.Name "reversed" p2) [a] [] pos2) X.env)]:=by rfl) :
  PE X (.Call (.Name "list" p) [.Call (.Name "reversed" p2) [a] [] pos2] [] pos) (G9 X ta):=by
 intro g s Z H Q I h;show Call_ (cI I R S boot_list (PyProof.Rows.callWith_type1 ?_ hs2 rfl));rw[hs2];show Calls.spliced_cons ?_;show Call_ (cI I t r PyProof.Rows.boot_reversed (PyProof.Rows.callWith_type1 (a5 (U pos2 g s Z H _ I h) λus s1 ⟨vs,z,m,V,l,v,e,T,L,q⟩=>?_) N rfl));subst e;obtain⟨u,rfl,B⟩:=V.one;cases B;obtain⟨c,x,P,_⟩:=m.list T;let k:c.length=v.length:=x.length.symm;let C:X.A.handled=Pl:=m.ok.hd F;let d:=P.isList;let K:l<s1.heap.objs.size:=by obtain⟨o,M,_⟩:=id d;show Ml M
 show call_reversed_list d (Calls.spliced_nil ?_);let E:(s1.heap.push (revObj l ((c.toArray.size:Int)-1))).objs.size=s1.heap.objs.size+1:=Nu ..;show lC C (Mr K) ⟨⟨_,Mp _ rfl,rfl,rfl⟩,d.push _⟩ (by rw[Mm,k];show L) λy Y i W O n j=>?_;let f:s1.heap.objs.size<=(s1.heap.push (revObj l ((c.toArray.size:Int)-1))).objs.size:=by rw[E];show Np _
 let D:ObjOk X.prog X.w (upd z (s1.heap.push (revObj l ((c.toArray.size:Int)-1))).objs.size (.lst v.reverse)) y (s1.heap.push (revObj l ((c.toArray.size:Int)-1))).objs.size (.lst v.reverse):=
  ⟨by rw[Od,sizeLine_eq];lia,i.toList,W,by rw[j];show oR x,by simpa using n⟩
 show⟨.ref (s1.heap.push (revObj l ((c.toArray.size:Int)-1))).objs.size,_,m.laid (λb o e=>O b o (Mr (Ml e)) (Mf _ e)) f D,rfl,q _ (m.hok.fresh f)⟩
end
end G
namespace J
section
variable {X:Cx}
theorem lD(L:X.calm=Pm):js X (.builtin "all") (λxs H Q=>∃(p:Ps) (bs:List Bool),xs=[.ref p]/\SqL X.K H p (bs.map V.bl)/\Q (.bl (bs.all id)) H):=by
 intro t s Z H xs S Q I r h;obtain⟨p,bs,rfl,N,q⟩:=h;obtain⟨u,rfl,B⟩:=lL r;cases B;obtain⟨a,m,k,U⟩:=I.list N;let f:=m.length;let D:X.A.in1.handled=Pl:=I.ok.hd L
 let g:p≠s.heap.objs.size:=by
  obtain⟨o,n,e,_⟩:=k;show Mr (Ml e)
 show call_all_walk (P0 k.isList ?_)
 let E:(s.heap.push { cls:=.type "list_iterator",data:=.fields #[.ref p,.int 0 0] }).IsList p a.toArray:=by
  obtain⟨o,e,r⟩:=k.isList;show⟨o,Mf _ e,r⟩
 show⟨s.heap.objs.size,_,_,_,_,_,λi=>(bs[i]?).getD Po,rfl,Walks.list D s.heap.objs.size p g a.toArray,⟨⟨_,Mp _ rfl,rfl,rfl⟩,E⟩,λi v W T O F y=>?_,λP R hk=>?_⟩
 ·let c:a[i]?=Pj v:=by simpa using F
  cases j:bs[i]? with
  |none=>
   let l:(bs.map V.bl)[i]?=Pl:=by rw[Mj,j];rfl
   rw[m.none_of l] at c;cases c
  |some b=>
   let l:(bs.map V.bl)[i]?=Pj (.bl b):=by rw[Mj,j];rfl
   obtain⟨u,e1,e2⟩:=m.get l;rw[c] at e1;cases e1;cases e2;simp only[j,Option.getD_some] at y;show PV y
 ·let e:((MH a.toArray.size).all λi=>(bs[i]?).getD Po)=bs.all id:=by
   let C:a.toArray.size=bs.length:=by rw[Mm,<- f,Mh]
   rw[C,Bool.eq_iff_iff];simp only[Nx,NK,id];constructor
   ·intro h x M;obtain⟨i,d,rfl⟩:=OT.mp M;have:=h i d;rw[Ms d] at this;show this
   ·intro h i d;rw[Ms d];show h _ (OB d)
  rw[e];show⟨.bl (bs.all id),H,I.kept λb o w=>hk b o (λz=>?_) (Mf _ w),rfl,q⟩;have:b=s.heap.objs.size:=by simpa using z
  show absurd (this▸Ml w) (Nl _)
theorem oT:js X (.builtin "isinstance") (λxs H Q=>∃x T t b,xs=[x,.ty T]/\qx X.K H x t/\NL X.K t (.type T)=Pj b/\Q (.bl b) H):=by
 intro a s Z H xs j Q I r h;obtain⟨x,T,t,b,rfl,f,e,q⟩:=h;obtain⟨u,i,rfl,d,c⟩:=Gp r;cases c;show uM I d f e λg=>⟨.bl b,H,I.tok _,rfl,q⟩
end
noncomputable def Ab:D->Option Nat
 |.nd .lst ds=>Pj ds.length
 |.nd .tup ds=>Pj ds.length
 |.scr ns=>Pj ns.length
 |_=>Pl
noncomputable def cW:List D->Option (List Bool)
 |[]=>Pj []
 |.bl b::r=>(cW r).map (b::·)
 |_=>Pl
theorem kC:∀{ds:List D} {bs:List Bool},cW ds=Pj bs->ds=bs.map D.bl
 |[],bs,h=>by cases h;rfl
 |d::r,bs,h=>by
  cases d<;>simp only[cW] at h<;>try cases h
  ext b
  cases e:cW r with
  |none=>rw[e] at h;cases h
  |some a=>rw[e] at h;cases h;rw[kC e];rfl
theorem kF:∀ns:List Int,toInts (ns.map D.int)=Pj ns
 |[]=>rfl
 |n::ns=>by simp[toInts,kF ns]
theorem jA:∀ns:List Bool,cW (ns.map D.bl)=Pj ns
 |[]=>rfl
 |n::ns=>by simp[cW,jA ns]
theorem RpL.bools:∀{bs:List Bool} {vs:List V},RpL K H S (bs.map D.bl) vs->vs=bs.map V.bl
 |[],_,h=>h.nil_inv
 |b::bs,_,h=>by
  obtain⟨y,a,rfl,r,t⟩:=h.cons_inv;rw[r.bl,RpL.bools t];rfl
def xf(kds:List KD):Option KD:=match kds with|[(_,d)]=>(Ab d).map λn=>(.sh,.int n)|_=>Pl
def DL(kds:List KD):Option KD:=match kds with|[(_,.nd .lst ds)]=>(cW ds).map λbs=>(.sh,.bl (bs.all id))|_=>Pl
def xg(kds:List KD):Option KD:=match kds with
 |[(k,.nd .lst ds)]=>if eA k ds=Pm then Pj (.fr aO,.lst ds) else Pl
 |[(k,.nd .tup ds)]=>if eA k ds=Pm then Pj (.fr aO,.lst ds) else Pl
 |[(_,.scr ns)]=>Pj (.fr aO,.lst (ns.map D.int))
 |_=>Pl
noncomputable def DM:Kd->Kd
 |.fr (.own es (.own es' r))=>.fr (.own es (.own es' r))
 |_=>.sh
def qW(kds:List KD):Option KD:=match kds with
 |[(k,.nd .lst ds)]=>if eA k ds=Pm then Pj (DM k,.tup ds) else Pl
 |_=>Pl
def LY(kds:List KD):Option KD:=match kds with|[(_,.int i)]=>if i.natAbs.log2<1920 then Pj (.sh,.str (toString i)) else Pl|_=>Pl
def LZ(a b:Option KD):Option KD:=match a,b with
 |some (_,.nd .lst ds),Pj (_,.int k)=>(match toInts ds with|some ns=>(match ns.findIdx? (·==k) with|some j=>Pj (.sh,.int j)|none=>Pl)|none=>Pl)
 |_,_=>Pl
noncomputable def DN(kds:List KD):Option KD:=match kds with|[(_,.int i)]=>Pj (.sh,.int (if i<0 then -i else i))|_=>Pl
theorem Ha{H:Hp}{hd:Hd}(c:hd.mu=Pm)(d:cR K o hd xs)(a:H p=Pl)(r:RpL K H (Sg g) ds xs):VR K g H (upd H p o) (.fr aO) (.nd hd ds) (.ref p):=by
 show⟨λb=>b=p,λb z=>z▸a,?_⟩;change Tr K _ _ _ _ _ _;unfold Tr;show⟨p,_,xs,λ_=>False,rfl,ak,d,λ_ z=>z,(λh=>by rw[c] at h;cases h),λb=>⟨λz=>.inl ⟨c,z⟩,λz=>z.elim (λz=>z.2) λz=>z.elim⟩,.ofFz (r.go λb o n e=>⟨ag a b o e,λz=>z.elim n λz=>?_⟩)⟩;subst z;rw[a] at e;cases e
def eI(x:Str):List KD->Option KD:=
 if x="len" then xf else if x="all" then DL else if x="any" then(λ_=>Pl) else if x="list" then xg else if x="tuple" then qW else if x="str" then(λ_=>Pl) else if x="sum" then(λ_=>Pl)
 else if x="min" then(λ_=>Pl) else if x="max" then(λ_=>Pl) else if x="abs" then DN else if x="int" then(λ_=>Pl) else if x="dict" then(λ_=>Pl) else if x="repr" then(λ_=>Pl) else λ_=>Pl
def oU(x:Str)(a:Option (List KD)):Option KD:=match a with|some kds=>eI x kds|none=>Pl
def Lv(X:Cx)(kds:List KD)(q:Kd)(d:D)(Q:VK)(vs:List V)(H1:Hp):Prop:=∃g H0,MuOk H0 (Sg g)/\Same H0 H1/\VRs X.K g H0 H1 kds vs/\∀v H',Same H1 H'->VR X.K g H0 H' q d v->Q v H'
def StrictOk(X:Cx)(f:List KD->Option KD)(es:List Pp)(q:Pp):Prop:=∀kds B d,f kds=Pj (B,d)->∀Z H Q,wA X es Z H (Lv X kds B d Q)->wE X q Z H Q
theorem cw{H:Hp}{Q d:List V->Hp->Prop}(h:wA X es Z H Q)(k:∀vs H,Q vs H->d vs H):wA X es Z H d:=λb a s I=>a5 (h b a s I) λf g ⟨vs,c,e,r,q⟩=>⟨vs,c,e,r,k vs c q⟩
theorem sM{H:Hp}{Q c:VK}(h:wE X e Z H Q)(k:∀v H,Q v H->c v H):wE X e Z H c:=λa s I=>a5 (h a s I) λu f ⟨v,b,d,r,q⟩=>⟨v,b,d,r,k v b q⟩
theorem StrictOk.snd{c:Ro->Option (List KD)}(h:StrictOk X f es node)(k:jL X c es):SndE X (λY=>(c Y).bind f) node:=by
 intro Y j d a g Z H Q i q;dsimp only at a
 cases e:c Y with
 |none=>rw[e] at a;cases a
 |some b=>
  rw[e] at a;show h b j d a Z H Q (k Y b e g Z H _ i λo n s1 l=>⟨g,H,i.mu,s1,l,λv m s r=>q v m (s1.trans s) r⟩)
def gp(X:Cx)(x:Str)(f:List KD->Option KD):Prop:=∀(e:Pp) (es:List Pp) (p pos:Pos),Gl X x->ae e=Pm->es.all ae=Pm->StrictOk X f (e::es) (.Call (.Name x p) (e::es) [] pos)
section
variable {X:Cx} {U:Tab} {c:Cz}
theorem Hb(O:am X U c):gp X "len" xf:=by
 intro e L p x A y u B K d h Z H Q z;unfold xf at h;split at h
 ·ext E l
  cases b:Ab l with
  |none=>rw[b] at h;cases h
  |some n=>
   rw[b] at h;cases h;show ao (gZ (mT) A (O.tab.bl _ (by simp[aA])) PySem.boot_len cU (by decide) (by decide) (ai y) (bF u)) (cw z λI f ⟨g,D,m,s1,C,q⟩=>?_);obtain⟨v,rfl,r⟩:=C.one;let t:=r.rd
   cases l with
   |scr ns=>
    obtain⟨a,rfl,i⟩:=t.scr;cases b;show⟨a,_,rfl,.inl i,q _ f (Same.refl f) (by rw[Mh];show qO)⟩
   |nd w F=>
    obtain⟨a,o,k,rfl,_,i,s,j⟩:=t.nd
    cases w with
    |lst=>cases b;cases(show o=_ from s);show⟨a,k,rfl,.inl (.of i),q _ f (Same.refl f) (by rw[j.len];show qO)⟩
    |tup=>cases b;cases(show o=_ from s);show⟨a,k,rfl,.inr (.of i),q _ f (Same.refl f) (by rw[j.len];show qO)⟩
    |dic M N=>cases b
    |obj c ns=>cases b
   |_=>cases b
 ·cases h
theorem Hc(O:am X U c):gp X "all" DL:=by
 intro e F p l u s j w E d h Z H Q t;unfold DL at h;split at h
 ·ext B n
  cases b:cW n with
  |none=>rw[b] at h;cases h
  |some k=>
   rw[b] at h;cases h;show ao (gZ (lD O.calm) u (O.tab.bl _ (by simp[aA])) PyProof.Rows.boot_all cU (by decide) (by decide) (ai s) (bF j)) (cw t λD f ⟨g,A,m,s1,z,q⟩=>?_);obtain⟨v,rfl,r⟩:=z.one;obtain⟨a,o,C,rfl,_,x,y,i⟩:=r.rd.nd;cases(show o=_ from y);rw[kC b] at i;show⟨a,k,rfl,.of (by rw[x,i.bools]),q _ f (Same.refl f) BF⟩
 ·cases h
theorem DO(O:am X U c):gp X "list" xg:=by
 intro e F p B u k j D E d h Z H Q n;unfold xg at h;split at h
 ·ext z C;split at h
  ·ext hk;cases h;show ao (fJ eC u (O.tab.bl _ (by simp[aA])) PyProof.Rows.boot_list cU (by decide) (by decide) (ai k) (bF j)) (cw n λA y ⟨g,x,m,s1,i,q⟩=>?_);obtain⟨v,rfl,r⟩:=i.one;obtain⟨a,o,t,rfl,f,w,s⟩:=r.items hk m s1;cases(show o=_ from w);show⟨a,t,rfl,.inl (.of f),λl b=>q _ _ (ag b) ((kA b s).older s1)⟩
  ·cases h
 ·ext z C;split at h
  ·ext hk;cases h;show ao (fJ eC u (O.tab.bl _ (by simp[aA])) PyProof.Rows.boot_list cU (by decide) (by decide) (ai k) (bF j)) (cw n λA y ⟨g,x,m,s1,i,q⟩=>?_);obtain⟨v,rfl,r⟩:=i.one;obtain⟨a,o,t,rfl,f,w,s⟩:=r.items hk m s1;cases(show o=_ from w);show⟨a,t,rfl,.inr (.of f),λl b=>q _ _ (ag b) ((kA b s).older s1)⟩
  ·cases h
 ·ext z ns;cases h;show ao (fJ eC u (O.tab.bl _ (by simp[aA])) PyProof.Rows.boot_list cU (by decide) (by decide) (ai k) (bF j)) (cw n λA y ⟨g,x,m,s1,i,q⟩=>?_);obtain⟨v,rfl,r⟩:=i.one;obtain⟨a,rfl,f⟩:=r.rd.scr;show⟨a,_,rfl,.inl f,λl b=>q _ _ (ag b) ((kA b (RpL.ints ns)).older s1)⟩
 ·cases h
theorem xh{H0 H1:Hp}(m:MuOk H0 (Sg g))(s1:Same H0 H1)(h:VR K g H0 H1 (.fr (.own es r)) (.nd .lst ds) v) :
  ∃a j,v=.ref a/\H1 a=Pj (.lst j)/\∀l,H1 l=Pl->VR K g H0 (upd H1 l (.tup j)) (.fr (.own es r)) (.tup ds) (.ref l):=by
 obtain⟨F,s,c⟩:=h;let c:Tr K H1 (Sx g F) (.nd .lst ds) (.own es r) v F:=c;unfold Tr at c;obtain⟨a,o,f,k,rfl,p,q,w,u,i,t⟩:=c;cases(show o=_ from q);show⟨a,f,rfl,p,λl d=>⟨k,λb z=>s b ((i b).mpr (.inr z)),?_⟩⟩;change Tr K _ _ (.nd .tup ds) (.own es r) _ _;unfold Tr
 show⟨l,.tup f,f,k,rfl,ak,rfl,(λh=>nomatch h),λ_ z=>?_,λb=>⟨.inr,λz=>z.elim (λz=>nomatch z.1) id⟩,t.go (λb o _ e=>ag d b o e) λb o _ n z=>n (z.imp id λz=>(i b).mpr (.inr z))⟩
 rcases z with z|z
 ·obtain⟨o,e,_⟩:=m.same s1 l z;rw[d] at e;cases e
 ·obtain⟨o,e,_⟩:=t.dom l z;rw[d] at e;cases e
theorem Ac(O:am X U c):gp X "tuple" qW:=by
 intro e I p k u n j w F d h Z H Q s;unfold qW at h;split at h
 ·ext C D;split at h
  ·ext hk;cases h;show ao (fJ lA u (O.tab.bl _ (by simp[aA])) PyProof.Rows.boot_tuple cU (by decide) (by decide) (ai n) (bF j)) (cw s λE B ⟨g,A,m,s1,y,q⟩=>?_);obtain⟨v,rfl,r⟩:=y.one;unfold DM at q;split at q
   ·obtain⟨a,f,rfl,i,z⟩:=xh m s1 r;show⟨a,f,rfl,.inl ⟨.of i,λl b=>q _ _ (ag b) (z l b)⟩⟩
   obtain⟨a,o,f,rfl,i,x,t⟩:=r.items hk m s1;cases(show o=_ from x);show⟨a,f,rfl,.inl ⟨.of i,λl b=>q _ _ (ag b) ((zW (m.same s1) b t).older s1)⟩⟩
  ·cases h
 ·cases h
theorem xi{e:Pp}{env:Env}{cp:Pos}(h:ae e=Pm):((backTo cp (Py [e] env)).all (λx=>!x.1)&&(backToKw cp (keywordEach [] env)).all (λx=>x.1.isSome)
      && decide ([e].length+([]:List Keyword).length+(if([]:List Keyword).isEmpty then 0 else 1)<30))=Pm:=by
  rw[ai h];rfl
noncomputable def dG:Pp->Bool
 |.Name x _=>!(x==("super":Str))
 |.Subscript ..=>Pm
 |.Attribute ..=>Pm
 |_=>Po
theorem cX{b:Pp}{m:Str}{env:Env}{w:Sem Pn}(h:dG b=Pm):attributeBase b m env w=w:=by
 cases b with
 |Name x p=>
  unfold attributeBase;let h:(x==("super":Str))=Po:=by simpa[dG] using h
  simp[h]
 |Subscript a b p=>rfl
 |Attribute a b p=>rfl
 |_=>cases h
def Lw(a:Option KD):Option KD:=match a with
 |some (_,.nd .lst ds)=>(match toInts ds with|some ks=>if ks.length<=60 then Pj (.fr aO,.lst ((G.G8 ks).map D.int)) else Pl|none=>Pl)
 |_=>Pl
def l6(a:Option KD):Option KD:=match a with
 |some (_,.nd .lst ds)=>(match toInts ds with|some ks=>if ks.length<=100000 then Pj (.fr aO,.lst (ks.reverse.map D.int)) else Pl|none=>Pl)
 |_=>Pl
theorem DP(O:am X U c){f:Ro->Option KD}{a:Pp}(s:Gl X "list")(b:Gl X "reversed")(i:ae a=Pm)(y:SndE X f a):SndE X (λY=>l6 (f Y)) (.Call (.Name "list" p) [.Call (.Name "reversed" p2) [a] [] pos2] [] pos):=by
 intro Y E d h g Z H Q A q;dsimp only[l6] at h;split at h
 ·ext B C x;split at h
  ·ext m hk;obtain⟨r,e⟩:=uZ h;cases e;show ao (G.Aa O.calm s (O.tab.bl _ (by simp[aA])) b (O.tab.bl _ (by simp[aA])) (bf au de (ai i)) (ai i)) (y Y _ _ x g Z H _ A λv n s1 z=>?_);obtain⟨w,o,D,rfl,_,t,u,k⟩:=z.rd.nd;cases(show o=_ from u);rw[fN hk] at k;show⟨w,m.map V.int,rfl,.of (by rw[t,k.toInts]),by rw[Mh];show r,λl j=>q _ _ (s1.trans (ag j)) ?_⟩;rw[<- O9];show(kA j (RpL.ints (K:=X.K) (H:=n) (S:=Sg g) m.reverse)).older s1
  ·cases h
 ·cases h
inductive J5 (X:Cx) (Y:Ro):List (Option Expr)->List Expr->List aJ->List KD->Prop
 |nil:J5 X Y [] [] [] []
 |cons {k v:Pp} {kD:D} {x:aJ} {kv:Kd} {d:D} {f:Ro->Option KD} {ks:List (Option Pp)} {vs:List Pp} {xs:List aJ} {kds:List KD}:SndE X (λ_=>Pj (.sh,kD)) k->eZ kD=Pj x->SndE X f v->f Y=Pj (kv,d)->qM kv d=Pm->J5 X Y ks vs xs kds->J5 X Y (Pj k::ks) (v::vs) (x::xs) ((kv,d)::kds)
theorem He(O:am X U c):gp X "abs" DN:=by
 intro e w p k f l b j t d h Z H Q n;unfold DN at h;split at h
 ·ext u i;cases h;show ao (gZ wn f (O.tab.bl _ (by simp[aA])) PyProof.Rows.boot_abs cU (by decide) (by decide) (ai l) (bF b)) (cw n λx a ⟨g,s,m,s1,o,q⟩=>?_);obtain⟨v,rfl,r⟩:=o.one;obtain rfl:=r.rd.int;show⟨i,rfl,q _ a (Same.refl a) qO⟩
 ·cases h
theorem d8:gp X x (λ_=>Pl):=λe f p b i g c a j d h=>by cases h
theorem iZ{x y:Str}(h1:x=y->gp X x f)(h2:gp X x g):gp X x (if x=y then f else g):=by
 by_cases h:x=y
 ·rw[if_pos h];show h1 h
 ·rw[if_neg h];show h2
theorem oV(O:am X U c)(x:Str):gp X x (eI x):=by
 unfold eI;show iZ (λh=>?_) ?_
 ·first|show d8|(subst h;show Hb O)
 show iZ (λh=>?_) ?_
 ·first|show d8|(subst h;show Hc O)
 show iZ (λh=>?_) ?_
 ·first|show d8|(subst h;show b_any O)
 show iZ (λh=>?_) ?_
 ·first|show d8|(subst h;show DO O)
 show iZ (λh=>?_) ?_
 ·first|show d8|(subst h;show Ac O)
 show iZ (λh=>?_) ?_
 ·first|show d8|(subst h;show b_str O)
 show iZ (λh=>?_) ?_
 ·first|show d8|(subst h;show b_sum O)
 show iZ (λh=>?_) ?_
 ·first|show d8|(subst h;show b_min O)
 show iZ (λh=>?_) ?_
 ·first|show d8|(subst h;show b_max O)
 show iZ (λh=>?_) ?_
 ·first|show d8|(subst h;show He O)
 show iZ (λh=>?_) ?_
 ·first|show d8|(subst h;show b_int O)
 show iZ (λh=>?_) ?_
 ·first|show d8|(subst h;show b_dict O)
 show iZ (λh=>?_) ?_
 ·first|show d8|(subst h;show b_repr O)
 ·intro e g p b j i f a k d h;cases h
theorem Hf(O:am X U c){es:List Pp}{a:Ro->Option (List KD)}(f:jL X a (e::es))(g:f7 c.sc x=Pm)(d:ae e=Pm)(b:es.all ae=Pm):SndE X (λY=>oU x (a Y)) (.Call (.Name x p) (e::es) [] pos):=by
 have:=(oV O x e es p pos (cC O g) d b).snd f
 rw[show(λY=>oU x (a Y))=λY=>(a Y).bind (eI x) by funext Y;unfold oU;cases a Y<;>rfl]
 show this
end
inductive Src where
 |non|l (a:Ps) (ds:List D)|t (a:Ps) (ds:List D)|two (s u:Src)|ob (a:Ps) (u:HO) (xs:List V) (ds:List D)
def Src.P(K:Md):Src->Gh->Hp->Prop
 |.non,_,_=>True
 |.l a ds,g,H=>∃xs,SqL K H a xs/\RpL K H (Sg g) ds xs
 |.ob a u xs ds,g,H=>H a=Pj u/\RpL K H (Sg g) ds xs
 |.t a ds,g,H=>∃xs,SqT K H a xs/\RpL K H (Sg g) ds xs
 |.two s u,g,H=>s.P K g H/\u.P K g H
def Src.isL(b:Ps):Src->Prop
 |.non=>False
 |.l a _=>a=b
 |.ob a ..=>a=b
 |.t _ _=>False
 |.two s u=>s.isL b\/u.isL b
def Src.isT(b:Ps):Src->Prop
 |.non=>False
 |.l _ _=>False
 |.ob ..=>False
 |.t a _=>a=b
 |.two s u=>s.isT b\/u.isT b
def Src.from(g:Gh)(H:Hp)(bs:List Nat):Src->Prop
 |.non=>True
 |.l a _=>g a=Pl\/∃i∈bs,g a=Pj (Pj i)
 |.ob a ..=>g a=Pl\/∃i∈bs,g a=Pj (Pj i)
 |.t a _=>g a=Pl
 |.two s u=>s.from g H bs/\u.from g H bs
theorem Src.from.from_l{g:Gh}{bs:List Nat}{b:Ps}:∀{s:Src},s.from g H bs->s.isL b->g b=Pl\/∃i∈bs,g b=Pj (Pj i)
 |.l a _,h,e=>by cases(show a=b from e);show h
 |.ob a ..,h,e=>by cases(show a=b from e);show h
 |.two s u,h,e=>by
  rcases(show s.isL b\/u.isL b from e) with e|e
  ·show Src.from.from_l (show s.from g H bs/\u.from g H bs from h).1 e
  ·show Src.from.from_l (show s.from g H bs/\u.from g H bs from h).2 e
 |.non,_,e=>e.elim
 |.t _ _,_,e=>e.elim
theorem Src.from.from_t{g:Gh}{bs:List Nat}{b:Ps}:∀{s:Src},s.from g H bs->s.isT b->g b=Pl
 |.t a _,h,e=>by cases(show a=b from e);show h
 |.two s u,h,e=>by
  rcases(show s.isT b\/u.isT b from e) with e|e
  ·show Src.from.from_t (show s.from g H bs/\u.from g H bs from h).1 e
  ·show Src.from.from_t (show s.from g H bs/\u.from g H bs from h).2 e
 |.non,_,e=>e.elim
 |.l _ _,_,e=>e.elim
 |.ob ..,_,e=>e.elim
theorem Src.from.from_H{bs:List Nat}:∀{s:Src},s.from g H bs->s.from g H' bs
 |.t a _,h=>h
 |.l a _,h=>h
 |.ob ..,h=>h
 |.non,_=>trivial
 |.two s u,h=>⟨Src.from.from_H (show s.from g H bs/\u.from g H bs from h).1,Src.from.from_H (show s.from g H bs/\u.from g H bs from h).2⟩
theorem Src.from.from_mono{bs b:List Nat}(k:∀i∈bs,i∈b):∀{s:Src},s.from g H bs->s.from g H b
 |.t a _,h=>h
 |.l a _,h=>Or.imp_right (λ⟨i,d,c⟩=>⟨i,k i d,c⟩) h
 |.ob ..,h=>Or.imp_right (λ⟨i,d,c⟩=>⟨i,k i d,c⟩) h
 |.non,_=>trivial
 |.two s u,h=>⟨Src.from.from_mono k (show s.from g H bs/\u.from g H bs from h).1,Src.from.from_mono k (show s.from g H bs/\u.from g H bs from h).2⟩
section
variable {K:Md} {H H':Hp} {g g':Gh}
theorem xj(k:∀o,H a=Pj o->H' a=Pj o)(h:SqL K H a xs):SqL K H' a xs:=by
 rcases h with(h|⟨o,h⟩)|h
 ·show .inl (.inl (k _ h))
 ·show .inl (.inr ⟨o,k _ h⟩)
 ·show .inr h
theorem xk(k:∀o,H a=Pj o->H' a=Pj o)(h:SqT K H a xs):SqT K H' a xs:=by
 rcases h with(h|⟨o,h⟩)|h
 ·show .inl (.inl (k _ h))
 ·show .inl (.inr ⟨o,k _ h⟩)
 ·show .inr h
theorem Src.mono(d:∀b o,H b=Pj o->¬Sg g b->¬Sg g' b):∀{s:Src},(∀b o,(¬Sg g b\/s.isL b)->H b=Pj o->H' b=Pj o)->(∀a,s.isT a->g a=Pl)->s.P K g H->s.P K g' H'
 |.non,_,_,_=>trivial
 |.l a ds,k,ht,h=>by
  obtain⟨c,f,i⟩:=h;show⟨c,xj (λo e=>k a o (.inr rfl) e) f,i.go λb o n e=>⟨k b o (.inl n) e,d b o e n⟩⟩
 |.ob a u c ds,k,ht,h=>⟨k a _ (.inr rfl) (show H a=Pj u/\RpL K H (Sg g) ds c from h).1,(show H a=Pj u/\RpL K H (Sg g) ds c from h).2.go λb o n e=>⟨k b o (.inl n) e,d b o e n⟩⟩
 |.t a ds,k,ht,h=>by
  obtain⟨c,f,i⟩:=h;show⟨c,xk (λo e=>k a o (.inl (by rw[Sg,ht a rfl];simp)) e) f,i.go λb o n e=>⟨k b o (.inl n) e,d b o e n⟩⟩
 |.two s u,k,ht,h=>⟨Src.mono d (λb o z=>k b o (z.imp id .inl)) (λa z=>ht a (.inl z)) (show s.P K g H/\u.P K g H from h).1,Src.mono d (λb o z=>k b o (z.imp id .inr)) (λa z=>ht a (.inr z)) (show s.P K g H/\u.P K g H from h).2⟩
end
def i0(K:Md)(J:It)(s:Src)(ds:List D):Prop:=∀(i:Nat) (g:Gh) (H:Hp),s.P K g H->MuOk H (Sg g)->
 (ds.length<=i->J.stop i H)/\∀d,ds[i]?=Pj d->J.go i H/\∀x H',J.yld i H x H'->Same H H'/\Rp K H' (Sg g) d x
section
variable {K:Md}
theorem DQ:i0 K (Fz K a) (.l a ds) ds:=by
 rintro i g H ⟨b,c,r⟩ m
 show⟨λh=>⟨b,c,by rw[r.len];show h⟩,λd f=>?_⟩;obtain⟨x,e1,e2⟩:=r.getD f;show⟨⟨b,x,c,e1⟩,λy j e=>?_⟩;obtain⟨rfl,e⟩:=e;have:=e b c;rw[e1] at this;cases this;show⟨Same.refl _,e2⟩
theorem J6:i0 K (JE K a) (.t a ds) ds:=by
 rintro i g H ⟨b,c,r⟩ m
 show⟨λh=>⟨b,c,by rw[r.len];show h⟩,λd f=>?_⟩;obtain⟨x,e1,e2⟩:=r.getD f;show⟨⟨b,x,c,e1⟩,λy j e=>?_⟩;obtain⟨rfl,e⟩:=e;have:=e b c;rw[e1] at this;cases this;show⟨Same.refl _,e2⟩
theorem DR{ds:List D}:i0 K (G.Jc K a) (.l a ds) (ds.mapIdx λi d=>D.tup [.int i,d]):=by
 rintro i g H ⟨h,c,r⟩ m
 show⟨λj=>⟨h,c,by rw[r.len];simpa using j⟩,λd b=>?_⟩;rw[List.getElem?_mapIdx] at b
 cases q:ds[i]? with
 |none=>rw[q] at b;cases b
 |some k=>
  rw[q] at b;cases b;obtain⟨x,e1,e2⟩:=r.getD q;show⟨⟨h,x,c,e1⟩,λy n e=>?_⟩;obtain⟨p,v,f,rfl,rfl,e⟩:=e;have:=e h c;rw[e1] at this;cases this;show⟨ag f,?_⟩;unfold Rp;show⟨p,_,_,rfl,λz=>?_,ak,rfl,.cons (by unfold Rp;rfl) (.cons (e2.same (ag f)) .nil)⟩;obtain⟨o,q,_⟩:=m p z;rw[f] at q;cases q
theorem Hg(lo:Int)(n:Nat):i0 K (Gb lo n) .non ((MH n).map λ(k:Nat)=>D.int (lo+(k:Int))):=by
 rintro i g H _ m
 show⟨λf=>(by let c:n<=i:=(by simpa using f);show c),λd a=>?_⟩;rw[Mj] at a
 cases q:(MH n)[i]? with
 |none=>rw[q] at a;cases a
 |some j=>
  rw[q] at a;cases a
  let b:i<n:=by
   have:=(Mg.mp q).1;simpa using this
  let e:j=i:=by
   rw[M7 b] at q;cases q;rfl
  subst e;show⟨b,λx l h=>?_⟩;obtain⟨rfl,rfl⟩:=h;show⟨Same.refl _,by unfold Rp;rfl⟩
end
def SndI(X:Cx)(f:Ro->Option (List Nat×List D))(tg iter:Pp):Prop:=∀Y bs ds,f Y=Pj (bs,ds)->∀g Z H R,SE X.K g Y Z H->
 (∀J s H1,Same H H1->i0 X.K J s ds->s.P X.K g H1->s.from g H bs->R J H1)->wI X tg iter Z H R
noncomputable def oW:Kd->List Nat
 |.bo i _=>[i]
 |_=>[]
def ia(a:Option KD):Option (List Nat×List D):=match a with
 |some (k,.nd .lst ds)=>if eA k ds=Pm then Pj (oW k,ds) else Pl
 |some (_,.scr ns)=>Pj ([],ns.map D.int)
 |_=>Pl
def m7(a:Option KD):Option (List Nat×List D):=match a with
 |some (k,.nd .tup ds)=>if eA k ds=Pm then Pj ([],ds) else Pl
 |a=>ia a
def oX(a:Option KD):Option (List Nat×List D):=(ia a).map λp=>(p.1,p.2.mapIdx λi d=>D.tup [.int i,d])
def u7(xs ys:List D):List D:=List.zipWith (λx y=>D.tup [x,y]) xs ys
def oY(a b:Option KD):Option (List Nat×List D):=match ia a with
 |some (bs,xs)=>(match ia b with|some (bs',ys)=>Pj (bs++bs',u7 xs ys)|none=>Pl)
 |none=>Pl
noncomputable def fR(i j:Int):Bool:=decide (-(2^62)<=i)&&decide (i<2^62)&&decide (-(2^62)<=j)&&decide (j<2^62)&&decide (j-i<=100000)
noncomputable def dQ(i j:Int):List D:=(MH (j-i).toNat).map λ(k:Nat)=>D.int (i+(k:Int))
def lE(a b:Option KD):Option (List Nat×List D):=match a,b with
 |some (_,.int i),Pj (_,.int j)=>if fR i j then Pj ([],dQ i j) else Pl
 |_,_=>Pl
noncomputable def kH:Pp->Bool
 |.Tuple ..=>Pm
 |_=>Po
section
variable {X:Cx} {U:Tab} {c:Cz}
theorem VR.scrK{g:Gh}{ns:List Int}(h:VR K g H H1 k (.scr ns) v):∃a,v=.ref a/\((g a=Pl/\Rd H1 a (.lst (ns.map V.int)))\/GH K a (ns.map V.int)):=by
 let c:∀{S:Pr},(∀b,g b≠Pl->S b)->Rp K H1 S (.scr ns) v->∃a,v=.ref a/\((g a=Pl/\Rd H1 a (.lst (ns.map V.int)))\/GH K a (ns.map V.int)):=λj r=>by
  unfold Rp at r;obtain⟨a,e,r⟩:=r;show⟨a,e,r.imp (λr=>⟨?_,r.2⟩) id⟩
  cases q:g a with
  |none=>rfl
  |some i=>show absurd (j a (by rw[q];simp)) r.1
 obtain⟨F,m,d⟩:=h
 cases k with
 |sh=>show c (λb z=>.inl z) d.2
 |fr k=>have d:Tr _ _ _ _ _ _ _:=d;unfold Tr at d;show c (λb z=>.inl z) d.2
 |bo i k=>obtain⟨_,l,_,f⟩:=d;unfold Tr at f;show c (λb z=>.inl z) f.2
theorem J7{g:Gh}{hd:Hd}(t:hd.mu=Pm)(m:MuOk H (Sg g))(s1:Same H H1)(h:VR K g H H1 k (.nd hd ds) (.ref a)):g a=Pl\/∃i∈oW k,g a=Pj (Pj i):=by
 let e:∀{S:Pr},(∀b,g b≠Pl->S b)->¬S a->g a=Pl:=λp n=>by
  cases q:g a with
  |none=>rfl
  |some i=>show absurd (p a (by rw[q];simp)) n
 cases k with
 |sh=>
  left;obtain⟨F,v,s,l⟩:=h;obtain⟨f,o,c,e1,d,_⟩:=l.nd;cases e1;show e (λb z=>.inl z) d
 |fr k=>
  left;obtain⟨f,o,c,e1,d,_⟩:=(h.sh rfl m s1).nd;cases e1;show e (λb z=>z) d
 |bo i k=>
  obtain⟨F,v,s,x,l,j⟩:=h
  cases k with
  |fz=>
   left;obtain⟨f,o,c,e1,d,_⟩:=j.fz_inv.2.nd;cases e1;show e (λb z=>.inl z) d
  |own w r=>
   right;unfold Tr at j;obtain⟨f,o,c,y,e1,_,_,_,_,u,_⟩:=j;cases e1;show⟨i,MN.mpr rfl,l a ((u a).mpr (.inl ⟨t,rfl⟩))⟩
theorem ib{ds:List D}(m:MuOk H (Sg g))(s1:Same H H1)(h:VR K g H H1 k d v)(e:ia (Pj (k,d))=Pj (bs,ds)) :
  ∃a s,v=.ref a/\(∃y,SqL K H1 a y)/\i0 K (Fz K a) s ds/\i0 K (G.Jc K a) s (ds.mapIdx λi d=>D.tup [.int i,d])/\s.P K g H1/\s.from g H bs:=by
 unfold ia at e;split at e
 ·ext x u f;cases f;split at e
  ·ext hk;cases e;obtain⟨a,o,t,rfl,p,c,w⟩:=h.items hk m s1;cases(show o=_ from c);show⟨a,.l a ds,rfl,⟨t,.of p⟩,DQ,DR,⟨t,.of p,w⟩,J7 rfl m s1 h⟩
  ·cases e
 ·ext x ns f;cases f;cases e;obtain⟨a,rfl,q⟩:=h.scrK;rcases q with⟨c,r⟩|q
  ·show⟨a,.l a _,rfl,⟨_,.inl r⟩,DQ,DR,⟨_,.inl r,RpL.ints ns⟩,.inl c⟩
  ·show⟨a,.non,rfl,⟨_,.inr q⟩,λi b n _ j=>DQ i b n ⟨_,.inr q,RpL.ints ns⟩ j,λi b n _ j=>DR i b n ⟨_,.inr q,RpL.ints ns⟩ j,trivial,trivial⟩
 ·cases e
theorem Hh{j:Ro->Option KD}{tg e:Pp}(z:SndE X j e):SndI X (λY=>m7 (j Y)) tg e:=by
 intro Y C w h g Z H R c q;dsimp only at h
 cases f:j Y with
 |none=>rw[f] at h;cases h
 |some L=>
  obtain⟨k,d⟩:=L;rw[f] at h;by_cases y:∃x,d=.str x
  ·obtain⟨x,rfl⟩:=y;cases h
  by_cases u:∃b,d=.tup b
  ·obtain⟨b,rfl⟩:=u;simp only[m7] at h;split at h
   ·ext hk;cases h;show ku (CZ au) (z Y k _ f g Z H _ c λv l s1 r=>?_);obtain⟨a,o,m,rfl,p,M,F⟩:=r.items hk c.mu s1;cases(show o=_ from M);show⟨a,rfl,⟨m,.of p⟩,q _ (.t a w) l s1 J6 ⟨m,.of p,F⟩ ?_⟩
    cases A:g a with
    |none=>show A
    |some i=>
     obtain⟨o,e1,n⟩:=c.mu.same s1 a (by rw[Sg,A];simp);rw[p] at e1;cases e1;show absurd rfl (n m)
   ·cases h
  ·let D:ia (Pj (k,d))=Pj (C,w):=by
    cases d with
    |nd B b=>cases B with
     |tup=>show absurd ⟨b,rfl⟩ u
     |_=>show h
    |str x=>show absurd ⟨x,rfl⟩ y
    |_=>show h
   show ku (zu au) (z Y k d f g Z H _ c λv l s1 r=>?_);obtain⟨a,s,rfl,N,E,_,K,I⟩:=ib c.mu s1 r D;show⟨a,rfl,N,q _ s l s1 E K I⟩
theorem Hj(O:am X U c){f:Ro->Option KD}{tg e:Pp}(x:f7 c.sc "enumerate" = Pm)(j:ae e=Pm)(m:kH tg=Pm)(A:SndE X f e):SndI X (λY=>oX (f Y)) tg (.Call (.Name "enumerate" p) [e] [] pos):=by
 intro Y D E h g Z H R l q;dsimp only at h
 cases i:f Y with
 |none=>rw[i] at h;cases h
 |some y=>
  obtain⟨k,d⟩:=y;rw[i] at h;unfold oX at h
  cases b:ia (Pj (k,d)) with
  |none=>rw[b] at h;cases h
  |some r=>
   obtain⟨w,z⟩:=r;rw[b] at h;cases h
   cases tg with
   |Tuple I F K=>
    show ku (G.zS (cC O x) (O.tab.bl _ (by simp[aA])) (bf au de (ai j)) (ai j)) (A Y _ _ i g Z H _ l λv o s1 B=>?_);obtain⟨a,s,rfl,C,_,n,u,t⟩:=ib l.mu s1 B b;show⟨a,rfl,C,q _ s o s1 n u t⟩
   |_=>show absurd m (by simp[kH])
theorem DS(O:am X U c){b:Ro->Option KD}{tg e:Pp}(k:f7 c.sc "range" = Pm)(d:ae e=Pm)(m:SndE X b e):SndI X (λY=>lE (Pj (.sh,.int 0)) (b Y)) tg (.Call (.Name "range" p) [e] [] pos):=by
 intro Y r t h g Z H R o q;dsimp only[lE] at h;split at h
 ·ext s i u j e1 l;cases e1;split at h
  ·ext a;simp only[fR,Me,decide_eq_true_eq] at a;cases h;show ku (uH (cC O k) (O.tab.bl _ (by simp[aA])) (bf au de (ai d)) (ai d)) (m Y _ _ l g Z H _ o λv f s1 n=>?_);obtain rfl:=n.rd.int;show⟨j,rfl,a.1.1.2,a.1.2,q _ .non f s1 ?_ trivial trivial⟩;unfold dQ;rw[Int.sub_zero];show Hg 0 _
  ·cases h
 ·cases h
theorem DT(O:am X U c){d fb:Ro->Option KD}(m:f7 c.sc "range" = Pm)(f:ae e=Pm)(a:ae e2=Pm)(t:SndE X d e)(o:SndE X fb e2):SndI X (λY=>lE (d Y) (fb Y)) tg (.Call (.Name "range" p) [e,e2] [] pos):=by
 intro Y v z h g Z H R u q;dsimp only[lE] at h;split at h
 ·ext w i A j s r;split at h
  ·ext b;simp only[fR,Me,decide_eq_true_eq] at b;cases h;show ku (uI (cC O m) (O.tab.bl _ (by simp[aA])) (bf au (bf au de (ai a)) (ai f)) (by rw[ai f,ai a];rfl) (ai a)) ?_;show two t o s r u λx y l s1 k n=>?_;obtain rfl:=k.rd.int;obtain rfl:=n.rd.int;show⟨i,j,rfl,⟨b.1.1.1.1,b.1.1.1.2,b.1.1.2,b.1.2⟩,q _ .non l s1 (Hg i _) trivial trivial⟩
  ·cases h
 ·cases h
theorem DU(h1:i0 K (Fz K a) s xs)(h2:i0 K (Fz K b) u ys):i0 K (G.JU K a b) (.two s u) (u7 xs ys):=by
 intro i g H j m;let j:s.P K g H/\u.P K g H:=j;obtain⟨s1,t⟩:=h1 i g H j.1 m;obtain⟨s2,A⟩:=h2 i g H j.2 m
 let R:∃c,SqL K H a c/\(xs.length<=i->c.length<=i):=by
  by_cases e:xs.length<=i
  ·obtain⟨c,e1,e2⟩:=s1 e;show⟨c,e1,λ_=>e2⟩
  ·obtain⟨⟨c,x,e1,_⟩,_⟩:=t _ (Ms (Pa e));show⟨c,e1,λz=>absurd z e⟩
 let T:∃c,SqL K H b c/\(ys.length<=i->c.length<=i):=by
  by_cases e:ys.length<=i
  ·obtain⟨c,e1,e2⟩:=s2 e;show⟨c,e1,λ_=>e2⟩
  ·obtain⟨⟨c,x,e1,_⟩,_⟩:=A _ (Ms (Pa e));show⟨c,e1,λz=>absurd z e⟩
 obtain⟨c,C,M⟩:=R;obtain⟨F,b1,b2⟩:=T;show⟨λe=>⟨c,F,C,b1,?_⟩,λd f=>?_⟩
 ·unfold u7 at e;rw[List.length_zipWith] at e;by_cases O:xs.length<=i
  ·show .inl (M O)
  ·show .inr (b2 (by lia))
 ·unfold u7 at f;rw[List.getElem?_zipWith] at f
  cases k:xs[i]? with
  |none=>rw[k] at f;simp at f
  |some x=>
   cases l:ys[i]? with
   |none=>rw[k,l] at f;simp at f
   |some y=>
    rw[k,l] at f;simp only[Option.some.injEq] at f;subst f;obtain⟨⟨r,N,e1,e2⟩,S⟩:=t x k;obtain⟨⟨n,D,e3,e4⟩,B⟩:=A y l;show⟨⟨r,n,N,D,e1,e3,e2,e4⟩,λz V Q=>?_⟩;obtain⟨p,v,w,h,rfl,rfl,I,L⟩:=Q;let U:=(S v H ⟨rfl,I⟩).2;let E:=(B w H ⟨rfl,L⟩).2;show⟨ag h,?_⟩;unfold Rp;show⟨p,_,_,rfl,λz=>?_,ak,rfl,.cons (U.same (ag h)) (.cons (E.same (ag h)) .nil)⟩;obtain⟨o,q,_⟩:=m p z;rw[h] at q;cases q
theorem Hk(O:am X U c){l fb:Ro->Option KD}(L:f7 c.sc "zip" = Pm)(r:ae e=Pm)(f:ae e2=Pm)(t:kH tg=Pm)(Q:SndE X l e)(C:SndE X fb e2):SndI X (λY=>oY (l Y) (fb Y)) tg (.Call (.Name "zip" p) [e,e2] [] pos):=by
 intro Y W ds h g Z H R o q;dsimp only[oY] at h
 cases j:l Y with
 |none=>rw[j] at h;cases h
 |some M=>
  obtain⟨k,d⟩:=M
  cases n:fb Y with
  |none=>
   rw[j,n] at h;split at h
   ·cases h
   ·cases h
  |some m=>
   obtain⟨k2,d2⟩:=m;rw[j,n] at h;split at h
   ·ext D xs V;split at h
    ·ext B ys v;cases h
     cases tg with
     |Tuple es kk tp=>
      show ku (G.Du (cC O L) (O.tab.bl _ (by simp[aA])) (bf au (bf au de (ai f)) (ai r)) (by rw[ai r,ai f];rfl) (ai f)) ?_;show two Q C j n o λx y A s1 w N=>?_;obtain⟨a,s,rfl,S,K,_,E,T⟩:=ib o.mu s1 w V;obtain⟨b,u,rfl,I,P,_,F,f2⟩:=ib o.mu s1 N v;show⟨a,b,rfl,S,I,q _ (.two s u) A s1 (DU K P) ⟨E,F⟩ ⟨T.from_mono λi z=>NH _ z,f2.from_mono λi z=>Mq _ z⟩⟩
     |_=>show absurd t (by simp[kH])
    ·cases h
   ·cases h
noncomputable def Hl:D->Option String
 |.bl _=>Pj "bool"
 |.int _=>Pj "int"
 |.nd .lst _=>Pj "list"
 |.nd .tup _=>Pj "tuple"
 |_=>Pl
def oZ(T:Str)(d:D):Option Bool:=match Hl d with
 |some t=>if T="int" then Pj (t=="int" || t=="bool") else if T="bool" then Pj (t=="bool") else if T="list" then Pj (t=="list") else if T="tuple" then Pj (t=="tuple") else Pl
 |none=>Pl
theorem Hm{t:String}(h:Rp K H S d v)(e:Hl d=Pj t):qx K H v (.type t):=by
 cases d with
 |bl b=>obtain rfl:=h.bl;cases e;show .bl b
 |int b=>obtain rfl:=h.int;cases e;show .int b
 |nd c i=>
  cases c with
  |lst=>
   obtain⟨a,o,f,rfl,_,g,q,r⟩:=h.nd;cases e;cases(show o=_ from q);show .lst g
  |tup=>
   obtain⟨a,o,f,rfl,_,g,q,r⟩:=h.nd;cases e;cases(show o=_ from q);show .tup g
  |_=>cases e
 |_=>cases e
noncomputable def d9:List Str:=["int","bool","list","tuple"]
noncomputable def qX:List String:=["bool","int","list","tuple"]
theorem Ad{p:String->Prop}(b:p "bool")(c:p "int")(e:p "list")(f:p "tuple"):∀t∈qX,p t:=by
 intro t a;simp only[qX,Mn,Mv,or_false] at a
 rcases a with rfl|rfl|rfl|rfl<;>assumption
theorem Ae{t:String}(a:Hl d=Pj t):t∈qX:=by
 cases d with
 |nd b c=>cases b with
  |lst=>cases a;show .tail _ (.tail _ (.head _))
  |tup=>cases a;show .tail _ (.tail _ (.tail _ (.head _)))
  |_=>cases a
 |bl _=>cases a;show .head _
 |int _=>cases a;show .tail _ (.head _)
 |_=>cases a
theorem DV:∀t∈qX,NL K (.type t) (.type "int")=Pj (t=="int" || t=="bool"):=Ad (by with_unfolding_all rfl) (by with_unfolding_all rfl) (by with_unfolding_all rfl) (by with_unfolding_all rfl)
theorem Af:∀t∈qX,NL K (.type t) (.type "bool")=Pj (t=="bool"):=Ad (by with_unfolding_all rfl) (by with_unfolding_all rfl) (by with_unfolding_all rfl) (by with_unfolding_all rfl)
theorem Ag:∀t∈qX,NL K (.type t) (.type "list")=Pj (t=="list"):=Ad (by with_unfolding_all rfl) (by with_unfolding_all rfl) (by with_unfolding_all rfl) (by with_unfolding_all rfl)
theorem xl:∀t∈qX,NL K (.type t) (.type "tuple")=Pj (t=="tuple"):=Ad (by with_unfolding_all rfl) (by with_unfolding_all rfl) (by with_unfolding_all rfl) (by with_unfolding_all rfl)
theorem Ah(h:oZ T d=Pj b):∃t f,Hl d=Pj t/\T∈d9/\bootBuiltins T=Pj (.type f)/\NL K (.type t) (.type f)=Pj b:=by
 unfold oZ at h
 cases c:Hl d with
 |none=>rw[c] at h;cases h
 |some t=>
  rw[c] at h;let a:=Ae c;dsimp only at h;by_cases e:T="int"
  ·subst e;rw[if_pos rfl] at h;show⟨t,"int",rfl,by simp[d9],by rfl,(DV t a).trans h⟩
  by_cases e1:T="bool"
  ·subst e1;rw[if_neg (by decide),if_pos rfl] at h;show⟨t,"bool",rfl,by simp[d9],by rfl,(Af t a).trans h⟩
  by_cases e2:T="list"
  ·subst e2;rw[if_neg (by decide),if_neg (by decide),if_pos rfl] at h;show⟨t,"list",rfl,by simp[d9],by rfl,(Ag t a).trans h⟩
  by_cases e3:T="tuple"
  ·subst e3;rw[if_neg (by decide),if_neg (by decide),if_neg (by decide),if_pos rfl] at h;show⟨t,"tuple",rfl,by simp[d9],by rfl,(xl t a).trans h⟩
  rw[if_neg e,if_neg e1,if_neg e2,if_neg e3] at h;cases h
def qY(T:Str)(a:Option KD):Option KD:=match a with|some (_,d)=>bV (oZ T d)|none=>Pl
theorem Hn(O:am X U c){j:Ro->Option KD}(o:f7 c.sc "isinstance" = Pm)(e:f7 c.sc T=Pm)(k:ae a=Pm)(s:SndE X j a):SndE X (λY=>qY T (j Y)) (.Call (.Name "isinstance" p) [a,.Name T p2] [] pos):=by
 intro Y B d h g Z H Q A q;dsimp only[qY] at h;split at h
 ·ext C z r
  cases i:oZ T z with
  |none=>rw[i] at h;cases h
  |some b=>
   rw[i] at h;cases h;obtain⟨t,m,x,l,w,u⟩:=Ah (K:=X.K) i
   let f:T∈aA/\T≠"__name__"/\(T==("__debug__":Str))=Po:=by
    simp only[d9,Mn,Mv,or_false] at l
    rcases l with rfl|rfl|rfl|rfl|rfl|rfl<;>show⟨by simp[aA],by decide,by decide⟩
   show ao (gZ oT (cC O o) (O.tab.bl _ (by simp[aA])) PyProof.Rows.boot_isinstance (bf au (bf (zl (v:=.ty m) (cC O e) (O.tab.bl _ f.1) w rfl f.2.1 f.2.2) de (ai rfl)) (ai k)) (by decide) (by decide) (ai k) (bF rfl)) ?_;show s Y _ _ r g Z H _ A λv n s1 y=>⟨v,m,_,b,rfl,Hm y.rd x,u,q _ n s1 BF⟩
 ·cases h
end
mutual
def i4:D->Ow->Bool
 |.nd _ ds,.own es r=>fq ds es r
 |d,_=>qL d
def fq:List D->List Ow->Ow->Bool
 |[],_,_=>Pm
 |d::ds,es,r=>i4 d (es.headD r)&&fq ds es.tail r
end
section
variable {K:Md} {H H' H0:Hp} {S S':Pr} {g:Gh}
mutual
theorem Tr.clean(m:MuOk H S'):∀{d:D} {k:Ow} {v:V} {F:Pr},i4 d k=Pm->Tr K H S d k v F->Tr K H S' d k v F
 |.non,_,_,_,c,h=>by unfold Tr at h⊢;show⟨h.1,h.2.im m rfl⟩
 |.bl _,_,_,_,c,h=>by unfold Tr at h⊢;show⟨h.1,h.2.im m rfl⟩
 |.int _,_,_,_,c,h=>by unfold Tr at h⊢;show⟨h.1,h.2.im m rfl⟩
 |.str _,_,_,_,c,h=>by unfold Tr at h⊢;show⟨h.1,h.2.im m rfl⟩
 |.scr ns,k,_,_,c,h=>by simp[i4,qL] at c
 |.nd hd ds,.fz,_,_,c,h=>by
  let c:qL (.nd hd ds)=Pm:=by simpa[i4] using c
  unfold Tr at h⊢;show⟨h.1,h.2.im m c⟩
 |.nd hd ds,.own es r,v,F,c,h=>by
  let c:fq ds es r=Pm:=by simpa[i4] using c
  unfold Tr at h⊢;obtain⟨a,o,p,q,e,b,f,l,s,j,t⟩:=h;show⟨a,o,p,q,e,b,f,l,λi z=>?_,j,TrL.clean m c t⟩;obtain⟨u,g,n⟩:=m a z;rw[b] at g;cases g
  cases hd with
  |tup=>show n _ f
  |_=>show absurd i (by simp[Hd.mu])
theorem TrL.clean(m:MuOk H S'):∀{ds:List D} {es:List Ow} {r:Ow} {vs:List V} {F:Pr},fq ds es r=Pm->TrL K H S ds es r vs F->TrL K H S' ds es r vs F
 |[],_,_,_,_,_,h=>by unfold TrL at h⊢;show h
 |d::ds,es,r,vs,F,c,h=>by
  simp only[fq,Me] at c;unfold TrL at h⊢;obtain⟨y,j,i,b,e,k,f,a,g⟩:=h;show⟨y,j,i,b,e,k,f,Tr.clean m c.1 a,TrL.clean m c.2 g⟩
end
def kI:Kd->D->Bool
 |.sh,d=>qL d
 |.fr k,d=>i4 d k
 |.bo _ _,_=>Po
theorem VR.clean(c:kI kd d=Pm)(m:MuOk H0 (Sg g))(s:Same H0 H)(h:VR K g' H0 H kd d v):VR K g H0 H kd d v:=by
 obtain⟨F,f,a⟩:=h;let e:MuOk H (Sx g F):=λb z=>z.elim (λz=>m.same s b z) λz=>a.dom b z;show⟨F,f,?_⟩
 cases kd with
 |sh=>show⟨a.1,a.2.im e c⟩
 |fr k=>show Tr.clean e c a
 |bo i k=>cases c
end
noncomputable def bA:Kd->Bool
 |.bo _ _=>Pm
 |_=>Po
def zf(B:Fn)(kds:List KD):Option KD:=
 match B (kds.map (·.2)) with
 |some (kd,d)=>if(kds.all λp=>qM p.1 p.2)=Pm then(if bA kd=Pm then Pl else Pj (kd,d)) else if kI kd d=Pm then Pj (kd,d) else Pl
 |none=>Pl
def sN(B:Option Fn)(a:Option (List KD)):Option KD:=match B,a with|some B,Pj kds=>zf B kds|_,_=>Pl
section
variable {X:Cx} {U:Tab} {c:Cz}
theorem m8(K:Md)(h:zf B kds=Pj (kd,d)){Q:VK}(m:MuOk H0 (Sg g))(s:Same H0 H)(r:VRs K g H0 H kds vs)(q:∀v H',Same H H'->VR K g H0 H' kd d v->Q v H'):l5 K B vs H Q E:=by
 unfold zf at h;split at h
 ·ext j p i;split at h
  ·ext l;split at h
   ·cases h
   ·cases h;show⟨_,g,_,_,r.sh l m s,m.same s,i,λv f s2 c=>q v f s2 (c.older s)⟩
  ·split at h
   ·ext k;cases h;show⟨_,λ_=>Pl,_,_,r.rd.go (λb o n e=>⟨e,λz=>z rfl⟩),λa z=>absurd rfl z,i,λv f s2 c=>q v f s2 ((c.clean k (m.same s) s2).older s)⟩
   ·cases h
 ·cases h
theorem J8(O:am X U c){es:List Pp}{a:Ro->Option (List KD)}(k:jL X a (e::es))(b:f7 c.sc x=Pm)(o:ae e=Pm)(i:es.all ae=Pm):SndE X (λY=>sN (U.fn x) (a Y)) (.Call (.Name x p) (e::es) [] pos):=by
 intro Y w d h g Z H Q f q;dsimp only[sN] at h;split at h
 ·ext B l j m;show ao (GQ (t:=wA X (e::es)) (λ_ _ _ _=>cw) (O.tab.fn x B j) (GP b) (cC O b) cU (ai o) (bF i)) (k Y _ m g Z H _ f λy u s1 r=>?_);show m8 X.K h f.mu s1 r λv s s2 n=>q v s (s1.trans s2) n
 ·cases h
theorem Ho(O:am X U c)(a:f7 c.sc x=Pm):SndE X (λ_=>sN (U.fn x) (Pj [])) (.Call (.Name x p) [] [] pos):=by
 intro Y l d h g Z H Q k q;dsimp only[sN] at h;split at h
 ·ext B e b f;cases f;show ao (DD (O.tab.fn x B b) (GP a) (cC O a)) ?_;show m8 (E:=λ_ _ _=>False) X.K h k.mu (Same.refl H) VRs.nil λv j s2 i=>q v j s2 i
 ·cases h
theorem sO:∀{es:List Pp} {env:Env} {cp:Pos},es.all ae=Pm->(backTo cp (Py es env)).all (λx=>!x.1)=Pm
 |[],_,_,_=>rfl
 |e::es,env,cp,h=>by
  rw[No,Me] at h;let c:=sO (env:=env) (cp:=cp) h.2;let a:=ai (es:=es) (env:=env) h.1;rw[a];let b:backTo cp ((Po,eval e env)::Py es env)=(backTo cp [(Po,eval e env)])++backTo cp (Py es env):=by unfold backTo;simp
  rw[b,List.all_append,c,Bool.and_true];rfl
theorem sP{ap pos:Pos}(g:attributeBase o m env (eval o env)=eval o env)(n:(e::es).all ae=Pm)(c:(ap.endLine==pos.line)=Pm)(a:(e::es).length<30) :
  eval (.Call (.Attribute o m ap) (e::es) [] pos) env=(do
   let b <- eval o env
   standAt ap.atName
   let (f,first) <- holding [b] (getMethod b m (do return (<- importBound o env).getD Pm))
   callWith pos f first (backTo pos (Py (e::es) env)) (backToKw pos (keywordEach [] env))):=by
 let d:methodCallForm ((e::es).length+([]:List Keyword).length) (backTo pos (Py (e::es) env)) (backToKw pos (keywordEach [] env))=Pm:=by
  change((backTo pos (Py (e::es) env)).all (λx=>!x.1)&&(backToKw pos (keywordEach [] env)).all (λx=>x.1.isSome)&&decide ((e::es).length+([]:List Keyword).length+(if([]:List Keyword).isEmpty then 0 else 1)<30))=Pm
  rw[sO n];have:(backToKw pos (keywordEach [] env)).all (λx=>x.1.isSome)=Pm:=rfl;rw[this];simpa using a
 let h:methodCallPos Pm o env ap pos=pure pos:=by unfold methodCallPos;simp[c]
 rw[arm_eval_Call,g];unfold methodCall;rw[d];unfold calleeOf;simp only[h,if_true,pure_bind]
theorem qZ{m:Str}:∀{ns:List Str} {xs:List V},ns.contains m=Po->(ns.zip xs).lookup m=Pl
 |[],_,_=>rfl
 |n::ns,[],_=>rfl
 |n::ns,x::xs,h=>by
  simp only[List.contains_cons,NU] at h;change Nm m ((n,x)::ns.zip xs)=Pl;rw[MA,h.1];show qZ h.2
theorem BH(O:am X U c){es:List Pp}{ap pos:Pos}{P:Ro->Option KD}{T:Ro->Option (List KD)}(hM:oO y=Pm)(ho:SndE X P o)(ha:jL X T (e::es))(hb:dG o=Pm)(hl:(ap.endLine==pos.line)=Pm)(V:ae e=Pm)(S:es.all ae=Pm)(A:(e::es).length<30) :
  SndE X (λY=>sN (U.fn y) (ck (P Y) (T Y))) (.Call (.Attribute o (mM y) ap) (e::es) [] pos):=by
 intro Y kd d h g Z H Q L q;dsimp only[sN] at h;split at h
 ·ext B hc hB n;let M:=O.tab.fn y B hB;unfold eE at M;rw[if_pos hM] at M;obtain⟨C,k,f,fd,ps,hn,cl,mt,F,hr,p,u⟩:=M;unfold ck at n;split at n
  ·ext x I e1 e2;cases n;obtain⟨k0,m⟩:=x
   let hq:∃r,B (((k0,m)::I).map (·.2))=Pj r:=by
    cases z:B (((k0,m)::I).map (·.2)) with
    |none=>unfold zf at h;rw[z] at h;cases h
    |some r=>show⟨r,rfl⟩
   obtain⟨r0,D⟩:=hq;let i:=u _ _ D
   let w:∃j ns b,m=.nd (.obj j ns) b/\j=mC y/\ns.contains (mM y)=Po:=by
    rw[Mx] at i
    cases m with
    |nd hd b=>
     cases hd with
     |obj j ns=>
      let i:(decide (j=mC y)&&!ns.contains (mM y))=Pm:=i;rw[Me,decide_eq_true_eq,NE] at i;show⟨j,ns,b,rfl,i.1,i.2⟩
     |_=>cases(show Po=Pm from i)
    |_=>cases(show Po=Pm from i)
   obtain⟨j,ns,b,rfl,rfl,s⟩:=w;show ao (si (E:=E0) (ta:=wE X o) (t:=wA X (e::es)) au cl mt F hr p .nil ki cU (ai V) (bF S) (sP (cX hb) (by rw[No,V,S];rfl) hl A)) (ho Y _ _ e1 g Z H _ L λv H1 s1 R=>?_);obtain⟨a,ob,hf,rfl,_,ga,hk,_⟩:=R.rd.nd;obtain⟨C',dx,l,_,rfl,_⟩:=hk;rw[hn] at l;cases l;obtain⟨F1,N,W⟩:=R;show⟨a,dx,_,rfl,ga,qZ s,ha Y I e2 (g.plus F1) Z H1 _ (L.plus s1 N W.dom) λvs H2 s2 r2=>?_⟩;rw[M5];show m8 X.K h L.mu (s1.trans s2) (.cons s1 s2 N W r2) λv2 H3 s3 r3=>q v2 H3 ((s1.trans s2).trans s3) r3
  ·cases n
 ·cases h
end
inductive IT where
 |nm (i:Nat)
 |tp (ts:List IT)
mutual
noncomputable def nZ:IT->D->Option (List (Nat×D))
 |.nm i,d=>Pj [(i,d)]
 |.tp ts,.nd .tup ds=>q0 ts ds
 |_,_=>Pl
noncomputable def q0:List IT->List D->Option (List (Nat×D))
 |[],[]=>Pj []
 |t::ts,d::ds=>match nZ t d,q0 ts ds with
  |some a,Pj b=>Pj (a++b)
  |_,_=>Pl
 |_,_=>Pl
end
noncomputable def FE(d:D):Sl:=⟨Po,.fz,d⟩
def setAll:List (Nat×D)->Ro->Ro
 |[],Y=>Y
 |(i,d)::r,Y=>setAll r (Y.set i (Pj (FE d)))
noncomputable def xm(f:Pp->Option IT):List Pp->Option (List IT)
 |[]=>Pj []
 |e::es=>match f e,xm f es with
  |some a,Pj b=>Pj (a::b)
  |_,_=>Pl
def m9(c:Cz):Nat->Pp->Option IT
 |0,_=>Pl
 |n+1,e=>match e with
  |.Name x _=>if lB c x then(aZ x c.N).map .nm else Pl
  |.Tuple es _ _=>if es.all ae then(xm (m9 c n) es).map .tp else Pl
  |_=>Pl
theorem SE.set{Y:Ro}{Z:L2.St}(h:SE K g Y Z H)(i:Nat)(r:Rp K H (Sg g) d v):SE K g (Y.set i (Pj (FE d))) (Z.set i (Pj v)) H:=by
 show⟨λj f e=>?_,h.mu,by simp[h.len]⟩;by_cases c:j=i
 ·subst c
  let a:j<Y.length:=by
   have:=(Mg.mp e).1;simpa using this
  rw[MK a] at e;cases e;show⟨v,_,MK (by rw[<- h.len];show a),λb z=>z.elim,.fz r⟩
 ·rw[MG (Ne.symm c)] at e⊢;show h.slot j f e
theorem SE.pass{Y:Ro}{Z:L2.St}(h:SE K g Y Z H)(i:Nat)(n:∀a,Y[i]?≠Pj (Pj a)):SE K g Y (Z.set i (Pj v)) H:=by
 show⟨λj a e=>?_,h.mu,by simp[h.len]⟩;let b:j≠i:=λz=>n a (z▸e);rw[MG (Ne.symm b)];show h.slot j a e
noncomputable def ig:List (Nat×V)->L2.St->L2.St
 |[],Z=>Z
 |(i,v)::r,Z=>ig r (Z.set i (Pj v))
theorem o3:∀(a b:List (Nat×V)) (Z:L2.St),ig (a++b) Z=ig b (ig a Z)
 |[],_,_=>rfl
 |(i,v)::a,b,Z=>o3 a b _
section
variable {X:Cx} {U:Tab} {c:Cz}
def RpP(K:Md)(H:Hp)(S:Pr):List (Nat×D)->List (Nat×V)->Prop
 |[],vs=>vs=[]
 |(i,d)::r,vs=>∃v q,vs=(i,v)::q/\Rp K H S d v/\RpP K H S r q
theorem RpP.app:∀{a b:List (Nat×D)} {x y:List (Nat×V)},RpP K H S a x->RpP K H S b y->RpP K H S (a++b) (x++y)
 |[],_,_,_,h,g=>by rw[(show _=[] from h)];show g
 |(i,d)::a,b,_,y,h,g=>by
  obtain⟨v,c,rfl,f,e⟩:=h;show⟨v,c++y,rfl,f,RpP.app e g⟩
mutual
def BI(K:Md):IT->TG
 |.nm i=>gY i
 |.tp ts=>Ga K ts.length (o5 K ts)
def o5(K:Md):List IT->wc
 |[]=>CU
 |t::ts=>we (BI K t) (o5 K ts)
end
mutual
theorem ii:∀{t:IT} {d:D} {ps:List (Nat×D)} {v:V} {Z:L2.St} {Q:L2.St->Hp->Prop},nZ t d=Pj ps->Rp K H S d v->(∀vs,RpP K H S ps vs->Q (ig vs Z) H)->BI K t v Z H Q
 |.nm i,d,ps,v,Z,Q,ht,r,q=>by
  simp only[nZ] at ht;cases ht;simp only[BI];show q [(i,v)] ⟨v,[],rfl,r,rfl⟩
 |.tp ts,d,ps,v,Z,Q,ht,r,q=>by
  cases d with
  |nd c k=>
   cases c with
   |tup=>
    simp only[nZ] at ht;obtain⟨a,o,h,rfl,_,f,g,b⟩:=r.nd;cases(show o=_ from g);obtain⟨j,e⟩:=kJ ht b q;simp only[BI];show⟨a,h,rfl,.of f,e,j⟩
   |_=>simp[nZ] at ht
  |_=>simp[nZ] at ht
theorem kJ:∀{c:List IT} {ds:List D} {ps:List (Nat×D)} {vs:List V} {Z:L2.St} {Q:L2.St->Hp->Prop},q0 c ds=Pj ps->RpL K H S ds vs->(∀h,RpP K H S ps h->Q (ig h Z) H)->o5 K c vs Z H Q/\vs.length=c.length
 |[],[],ps,vs,Z,Q,ht,r,q=>by
  simp only[q0] at ht;cases ht;simp only[o5];rw[r.nil_inv];show⟨⟨rfl,q [] rfl⟩,rfl⟩
 |t::c,d::ds,ps,vs,Z,Q,ht,r,q=>by
  simp only[q0] at ht;split at ht
  ·ext a b l i;cases ht;obtain⟨y,n,rfl,m,j⟩:=r.cons_inv;simp only[o5];let e:=(kJ (Z:=Z) (Q:=λ_ _=>True) i j λ_ _=>trivial).2;show⟨⟨y,n,rfl,ii l m λg o=>(kJ i j λf k=>?_).1⟩,by simp[e]⟩;have:=q (g++f) (o.app k);rw[o3] at this;show this
  ·cases ht
 |[],_::_,ps,vs,Z,Q,ht,r,q=>by simp[q0] at ht
 |_::_,[],ps,vs,Z,Q,ht,r,q=>by simp[q0] at ht
end
theorem cJ(h:ae e=Pm):PM (e::es) env=(Po,assign e env)::PM es env:=by
 cases e<;>first|rfl|cases h
theorem o6(O:am X U c):∀(n:Nat) {e:Pp} {t:IT},m9 c n e=Pj t->PG X e (BI X.K t)
 |0,e,t,h=>by cases h
 |n+1,e,t,h=>by
  let z:∀{e:Pp} {t:IT},m9 c n e=Pj t->PG X e (BI X.K t):=λh=>o6 O n h
  let m:∀{d:List Pp} {g:List IT},d.all ae=Pm->xm (m9 c n) d=Pj g->CS X d (o5 X.K g)/\(PM d X.env).length=g.length/\(PM d X.env).findIdx? (·.1)=Pl:=by
   intro d
   induction d with
   |nil=>intro g _ h;cases h;simp only[o5];show⟨r9,rfl,rfl⟩
   |cons e d o=>
    intro g f h;rw[No,Me] at f;unfold xm at h;split at h
    ·ext a b y w;cases h;obtain⟨r,u,q⟩:=o f.2 w;simp only[o5];show⟨og (z y) r (by rw[cJ f.1];rfl),by rw[cJ f.1,MW,u];rfl,?_⟩;rw[cJ f.1,MV];simp[q]
    ·cases h
  unfold m9 at h;split at h
  ·ext x p;split at h
   ·ext v
    cases s:aZ x c.N with
    |none=>rw[s] at h;cases h
    |some i=>
     rw[s] at h;cases h;let l:=iY O v;simp only[BI];show r6 (i:=i) (by rw[O.N];show O.nd) (by rw[O.N];show aX s) l.1 l.2
   ·cases h
  ·ext d k p;split at h
   ·ext f
    cases j:xm (m9 c n) d with
    |none=>rw[j] at h;cases h
    |some g=>
     rw[j] at h;cases h;obtain⟨r,u,q⟩:=m f j;simp only[BI];show wf O.calm r u q
   ·cases h
  ·cases h
theorem SE.setAll{H:Hp}:∀{ps:List (Nat×D)} {vs:List (Nat×V)} {Y:Ro} {Z:L2.St},RpP K H (Sg g) ps vs->SE K g Y Z H->SE K g (setAll ps Y) (ig vs Z) H
 |[],vs,Y,Z,h,se=>by rw[(show vs=[] from h)];show se
 |(i,d)::ps,vs,Y,Z,h,se=>by
  obtain⟨v,a,rfl,c,b⟩:=h;show SE.setAll (Y:=Y.set i (Pj (FE d))) (vs:=a) (Z:=Z.set i (Pj v)) b (se.set i c)
noncomputable def bY(ps:List (Nat×D))(Y:Ro):Bool:=ps.all λp=>match Y[p.1]? with|some Pl=>Pm|_=>Po
theorem SE.passAll{H:Hp}:∀{ps:List (Nat×D)} {vs:List (Nat×V)} {Y:Ro} {Z:L2.St},RpP K H S ps vs->bY ps Y=Pm->SE K g Y Z H->SE K g Y (ig vs Z) H/\∀(j:Nat) a,Y[j]?=Pj (Pj a)->(ig vs Z)[j]?=Z[j]?
 |[],vs,Y,Z,h,_,se=>by rw[(show vs=[] from h)];show⟨se,λ_ _ _=>rfl⟩
 |(i,d)::ps,vs,Y,Z,h,hn,se=>by
  obtain⟨v,m,rfl,l,f⟩:=h;simp only[bY,No,Me] at hn
  let b:∀a,Y[i]?≠Pj (Pj a):=λa e=>by
   have:=hn.1;rw[e] at this;cases this
  obtain⟨k,c⟩:=SE.passAll f (by simpa[bY] using hn.2) (se.pass i (v:=v) b);show⟨k,λj a e=>(c j a e).trans (MG (λz=>b a (by rw[z];show e)))⟩
end
noncomputable def Gh.re(m:Nat->Option Nat)(g:Gh):Gh:=λb=>match g b with
 |some (Pj i)=>Pj (m i)
 |x=>x
section
variable {K:Md} {H H':Hp} {g:Gh} {F F2:Pr} {m:Nat->Option Nat}
theorem jO(b:Ps):Sg (g.re m) b↔Sg g b:=by
 unfold Gh.re Sg
 cases h:g b with
 |none=>simp[h]
 |some x=>cases x<;>simp[h]
theorem i5:(g.plus F).plus F2=g.plus (λb=>F b\/F2 b):=by
 funext b;unfold Gh.plus;by_cases a:F2 b
 ·simp[a]
 ·by_cases c:F b
  ·simp[c]
  ·simp[c,a]
theorem aV(h:F b):g.plus F b=Pj Pl:=by
 unfold Gh.plus;rw[if_pos h]
theorem SE.upd(h:SE K g Y Z H)(d:g p=Pj Pl)(j:∀xs,o≠.tup xs):SE K g Y Z (upd H p o):=by
 let f:∀b c,b≠p->H b=Pj c->L2.upd H p o b=Pj c:=λb c n e=>by rw[ah n];show e
 show⟨λi k e=>?_,λb z=>?_,h.len⟩
 ·obtain⟨v,F,e1,e2,e3⟩:=h.slot i k e;show⟨v,F,e1,e2,e3.go (λb c a e=>f b c (λz=>?_) e) λ_ _ _ n=>n⟩;subst z;rcases a with a|a
  ·show a (by rw[Sg,d];simp)
  ·rw[e2 b a] at d;cases d
 ·by_cases a:b=p
  ·show⟨o,by rw[a];show ak,j⟩
  ·obtain⟨c,e,n⟩:=h.mu b z;show⟨c,f b c a e,n⟩
noncomputable def aT(Y:Ro)(cap:List (Option Nat)):Ro:=cap.map λo=>o.bind λi=>(Y[i]?).join
noncomputable def i6(cap:List (Option Nat))(i:Nat):Option Nat:=cap.findIdx? λo=>o==Pj i
noncomputable def kK(cap:List (Option Nat)):Bool:=decide (cap.filterMap id).Nodup
theorem sQ:∀{cap:List (Option Nat)} {j i:Nat},(cap.filterMap id).Nodup->cap[j]?=Pj (Pj i)->i6 cap i=Pj j
 |[],j,i,_,e=>by simp at e
 |o::cap,0,i,hn,e=>by
  simp at e;subst e;simp[i6,MV]
 |o::cap,j+1,i,hn,e=>by
  let c:cap[j]?=Pj (Pj i):=by simpa using e
  let f:i∈cap.filterMap id:=Ol.mpr ⟨Pj i,Mu c,rfl⟩
  let b:(o==Pj i)=Po:=by
   cases o with
   |none=>rfl
   |some k=>
    simp only[MU,id] at hn;have:=(Mw.mp hn).1;simp only[beq_eq_false_iff_ne,ne_eq,Option.some.injEq];intro z;subst z;show this f
  let a:(cap.filterMap id).Nodup:=by
   cases o with
   |none=>simpa using hn
   |some k=>simp only[MU,id] at hn;show(Mw.mp hn).2
  let d:=sQ a c;unfold i6 at d⊢;rw[MV,b,d];rfl
theorem SE.cap(h:SE K g Y Z H){cap:List (Option Nat)}(f:kK cap=Pm):SE K (g.re (i6 cap)) (aT Y cap) (cz Z cap) H:=by
 show⟨λj a e=>?_,λb z=>h.mu b ((jO b).mp z),by simp[aT,cz]⟩;unfold aT at e;unfold cz;rw[Mj] at e⊢
 cases q:cap[j]? with
 |none=>rw[q] at e;cases e
 |some o=>
  rw[q] at e
  cases o with
  |none=>cases e
  |some i=>
   let c:(Y[i]?).join=Pj a:=by simpa using e
   let e2:Y[i]?=Pj (Pj a):=by
    cases z:Y[i]? with
    |none=>rw[z] at c;cases c
    |some w=>rw[z] at c;have:w=Pj a:=c;rw[this]
   obtain⟨v,F,k,l,d⟩:=h.slot i a e2;show⟨v,F,by simp[k],λb z=>?_,d.go (λ_ _ _ h=>h) λb o _ n z=>n ((jO b).mp z)⟩;unfold Gh.re;rw[l b z];change Pj (i6 cap i)=_;rw[sQ (by simpa[kK] using f) q]
end
noncomputable def eT(scope q:PH):PH:=
 { scope with names:=scope.names.map λ(n,k)=>if(k==.free&&q.kind==.function&&q.names.lookup n==Pj .cell) then(n,.cell) else(n,k) }
theorem Ai{env:Env}(h:env.scope=sc):relabel scope env=eT scope sc:=by
 subst h;rfl
def aw(c:Cz)(scope:PH):List (Option Nat):=scope.names.map λ(x,k)=>if k=.free then aZ x c.N else Pl
noncomputable def ac(scope:PH):List Str:=scope.names.map (·.1)
def a9(c:Cz)(scope:PH):Bool:=
 scope.kind==.function&&decide (ac scope).Nodup&&kK (aw c scope)&&scope.names.all λ(x,k)=>(k != .free||c.sc.names.lookup x==Pj .cell||c.sc.names.lookup x==Pj .free)
theorem cY:∀{l:List (Str×PQ)} {x:Str} {k:PQ},(l.map (·.1)).Nodup->(x,k)∈l->l.lookup x=Pj k
 |(y,j)::r,x,k,hn,a=>by
  rw[MA];rw[Mx,Mw] at hn;rcases Mn.mp a with e|a
  ·cases e;simp
  ·have:x≠y:=λz=>hn.1 (by rw[<- z];show Na.mpr ⟨(x,k),a,rfl⟩);let e:(x==y)=Po:=by simpa using this
   rw[e];show cY hn.2 a
theorem df(O:am X U c)(h:a9 c scope=Pm):eW X (ac scope) scope (aw c scope):=by
 simp only[a9,Me,decide_eq_true_eq,Nx,beq_iff_eq] at h;obtain⟨⟨⟨p,l⟩,_⟩,o⟩:=h;let hk:∀x,X.env.kindOf x=c.sc.names.lookup x:=λx=>by change X.env.scope.names.lookup x=_;rw[O.sc]
 let a:∀y∈scope.names,y.2=.free->X.env.kindOf y.1=Pj .cell\/X.env.kindOf y.1=Pj .free:=λy f e=>by
  have:=o y f;simp only[NC,bne_iff_ne,beq_iff_eq] at this;rw[hk];rcases this with(z|z)|z
  ·show absurd e z
  ·show .inl z
  ·show .inr z
 show⟨p,λy f e=>?_,λy f e=>?_,a,by simp[aw,ac],λj i x d g=>?_⟩
 ·obtain⟨x,k⟩:=y;let m:k=.cell:=e;subst m;show cY l f
 ·obtain⟨x,k⟩:=y;let m:k=.local:=e;subst m;show cY l f
 ·unfold ac at d;unfold aw at g;rw[Mj] at d g
  cases q:scope.names[j]? with
  |none=>rw[q] at d;cases d
  |some y=>
   rw[q] at d g;obtain⟨y,k⟩:=y;cases d
   let b:(if k=.free then aZ y c.N else Pl)=Pj i:=by simpa using g
   split at b
   ·ext e;subst e;let n:=Mu q;show⟨by rw[O.N];show aX b,cY l n,a _ n rfl⟩
   ·cases b
theorem cZ{c:Cz}(O:am X U c)(h:a9 c scope=Pm)(C:Ps)(s:Pt)(H:Hp)(ex:List Ps):am (aj X (ac scope) scope C s H ex) U ⟨eT scope c.sc,ac scope,e6 scope⟩:=by
 simp only[a9,Me,decide_eq_true_eq] at h;show⟨Ai O.sc,rfl,λx z=>z,O.calm,h.1.1.2,⟨O.tab.fn,O.tab.cf,O.tab.fm,O.tab.bl,O.tab.units,O.tab.gd,O.tab.cst⟩⟩
def dR(tg:IT)(ft:Ro->Option Bool)(B:Ro->Option KD)(q:Ro)(d:D):Option (Option KD):=match nZ tg d with
 |some ps=>if bY ps q=Pm then(match ft (setAll ps q) with|some Pm=>(B (setAll ps q)).map Pj|some Po=>Pj Pl|none=>Pl) else Pl
 |none=>Pl
def aU(r:Ow)(f:D->Option (Option KD)):List D->Option (List D)
 |[]=>Pj []
 |d::ds=>match f d,aU r f ds with
  |some (Pj kd),Pj ys=>if bM r kd=Pm then Pj (kd.2::ys) else Pl
  |some Pl,Pj ys=>Pj ys
  |_,_=>Pl
theorem i7:∀{a b:List D} {ys:List D},aU r f (a++b)=Pj ys->∃x y,aU r f a=Pj x/\aU r f b=Pj y/\ys=x++y
 |[],b,ys,h=>⟨[],ys,rfl,h,rfl⟩
 |d::a,b,ys,h=>by
  rw[Ny] at h;unfold aU at h;split at h
  ·ext j g e1 e2;split at h
   ·ext i;cases h;obtain⟨x,y,e,c,rfl⟩:=i7 e2;show⟨j.2::x,y,by simp[aU,e1,e,i],c,rfl⟩
   ·cases h
  ·ext g e1 e2;cases h;obtain⟨x,y,e,c,rfl⟩:=i7 e2;show⟨x,y,by simp[aU,e1,e],c,rfl⟩
  ·cases h
theorem kM{a:List D}{d:D}{x:List D}(h:aU r f a=Pj x){y:List D}(h1:aU r f [d]=Pj y):aU r f (a++[d])=Pj (x++y):=by
 induction a generalizing x with
 |nil=>cases h;show h1
 |cons e a b=>
  unfold aU at h;rw[Ny];unfold aU;split at h
  ·ext i c e1 e2;split at h
   ·ext g;cases h;rw[e1,b e2];simp[g]
   ·cases h
  ·ext c e1 e2;cases h;rw[e1,b e2]
  ·cases h
theorem q5{f:D->Option (Option KD)}{ds ys:List D}(h:aU r f ds=Pj ys){i:Nat}(e:ds[i]?=Pj d){x:List D}(c:aU r f (ds.take i)=Pj x) :
  (f d=Pj Pl/\aU r f (ds.take (i+1))=Pj x)\/∃b,f d=Pj (Pj b)/\bM r b=Pm/\aU r f (ds.take (i+1))=Pj (x++[b.2]):=by
 let m:ds=ds.take i++(d::ds.drop (i+1)):=by
  obtain⟨l,rfl⟩:=Mg.mp e;rw[<- M0 l,OP]
 let k:ds.take (i+1)=ds.take i++[d]:=by rw[N2,e];rfl
 rw[m] at h;obtain⟨_,y,_,a,_⟩:=i7 h;unfold aU at a;rw[k];split at a
 ·ext b j e1 e2;split at a
  ·ext g;show .inr ⟨b,e1,g,kM c (by simp[aU,e1,g])⟩
  ·cases a
 ·ext j e1 e2;show .inl ⟨e1,by simpa using kM c (y:=[]) (by simp[aU,e1])⟩
 ·cases a
def l7(r:Ow)(it:Option (List Nat×List D))(f:D->Option (Option KD)):Option KD:=match it with
 |some (_,ds)=>if ds.length<=100000 then(match aU r f ds with|some ys=>Pj (.fr (.own [] r),.lst ys)|none=>Pl) else Pl
 |none=>Pl
theorem i8:∀{ds ys:List D},aU r f ds=Pj ys->ys.length<=ds.length
 |[],ys,h=>by cases h;show Mi _
 |d::ds,ys,h=>by
  unfold aU at h;split at h
  ·ext b a e1 e2;split at h
   ·cases h;have:=i8 e2;simp;lia
   ·cases h
  ·ext a e1 e2;cases h;have:=i8 e2;simp;lia
  ·cases h
section
variable {K:Md} {H:Hp} {S:Pr}
theorem TrL.snoc:∀{ds:List D} {r:Ow} {us:List V} {F F2:Pr} {d:D} {v:V},TrL K H S ds [] r us F->Tr K H S d r v F2->(∀b,F b->¬F2 b)->TrL K H S (ds++[d]) [] r (us++[v]) (λb=>F b\/F2 b)
 |[],r,us,F,F2,d,v,h,t,dj=>by
  unfold TrL at h;obtain⟨rfl,k⟩:=h;unfold TrL;show⟨v,[],F2,λ_=>False,rfl,λb=>⟨λz=>.inl (z.elim (λz=>absurd z (k b)) id),λz=>z.elim .inr λz=>z.elim⟩,λ_ _ z=>z,t,?_⟩;unfold TrL;show⟨rfl,λ_ z=>z⟩
 |e::ds,r,us,F,F2,d,v,h,t,dj=>by
  unfold TrL at h;obtain⟨y,m,g,j,rfl,f,c,n,l⟩:=h;unfold TrL;show⟨y,m++[v],g,λb=>j b\/F2 b,rfl,λb=>?_,λb i a=>?_,n,TrL.snoc l t λb z=>dj b ((f b).mpr (.inr z))⟩
  ·change F b\/F2 b↔g b\/j b\/F2 b;rw[f b,or_assoc]
  ·rcases a with a|a
   ·show c b i a
   ·show dj b ((f b).mpr (.inl i)) a
end
def DW(X:Cx)(ifs:List Pp):TT:=λZ H Q=>∀pins s,Inv X pins Z H s->Pv (Pw X.prog X.w) X.A (forIn ifs Pm λc r=>if r=Pm then do let q <- isTrue c X.env (eval c X.env);pure (ForInStep.yield q) else pure (ForInStep.yield r)) (TP X pins Z Q) X.xe s
theorem nc{b:TT}(p:zT X ifs b)(h:b Z H Q):DW X ifs Z H Q:=λa s I=>p a s Z H Q I h
def jB(X:Cx)(f:Ro->Option Bool)(ifs:List Pp):Prop:=∀Y b,f Y=Pj b->∀g Z H Q,SE X.K g Y Z H->(∀H',Same H H'->Q b H')->DW X ifs Z H Q
theorem BJ:jB X (λ_=>Pj Pm) []:=λY b h g Z H Q a q=>by cases h;show nc sC (q H (Same.refl H))
theorem Hq{e:Pp}(h:SndT X f e):jB X f [e]:=λY b c g Z H Q a q=>nc (sD hJ) (h Y b c g Z H Q a q)
section
variable {X:Cx} {U:Tab} {c:Cz}
abbrev J9(K:Md)(f:List J.D->Option (List J.D))(r:Ow)(ds:List J.D)(g g':Gh)(Y:Ro)(H1:Hp)(D:Ps):Nat->Nat->L2.St->Hp->Prop:=λi m Z' H'=>m=ds.length-i/\i<=ds.length/\∃(q:Pr) (us:List V) (B:List J.D),f (ds.take i)=Pj B/\(∀b,q b->H1 b=Pl/\b≠D)/\SE K (g'.plus λb=>b=D\/q b) Y Z' H'/\
  (∀b o,H1 b=Pj o->H' b=Pj o)/\H' D=Pj (.lst us)/\TrL K H' (Sx g λb=>b=D\/q b) B [] r us q
theorem xn(O:am X U c){fi:Ro->Option (List Nat×List D)}(hck:a9 c scope=Pm)(hi:SndI X fi tg iter)(hx:m9 ⟨eT scope c.sc,ac scope,e6 scope⟩ n tg=Pj t)(hj:∀C s H ex,jB (aj X (ac scope) scope C s H ex) ft ifs)(hz:∀C s H ex,SndE (aj X (ac scope) scope C s H ex) fe elt)(h:l7 r (fi Y) (dR t ft fe (aT Y (aw c scope)))=Pj (kd,d)){Z:L2.St}{Q:VK}(se:SE X.K g Y Z H)(q:∀v H',Same H H'->VR X.K g H H' kd d v->Q v H') :
  iT (wI X tg iter) (λv Z H Q=>∀C s V ex,wG (aj X (ac scope) scope C s V ex) tg v Z H Q) (λZ H Q=>∀C s V ex,DW (aj X (ac scope) scope C s V ex) ifs Z H Q) (λZ H Q=>∀C s V ex,wE (aj X (ac scope) scope C s V ex) elt Z H Q) (aw c scope) Z H Q:=by
 let hg:kK (aw c scope)=Pm:=by
  simp only[a9,Me] at hck;show hck.1.2
 unfold l7 at h;split at h
 ·ext bs l hw;split at h
  ·ext hl;split at h
   ·ext ys hm;cases h;let CO:=cZ O hck;show hi Y bs l hw g Z H _ se λjj hq H1 s1 jt sp sf D hD=>?_;let E:SE X.K (g.re (i6 (aw c scope))) (aT Y (aw c scope)) (cz Z (aw c scope)) H1:=(se.same s1).cap hg;generalize hv:g.re (i6 (aw c scope))=g' at E;let gS:∀b,Sg g' b↔Sg g b:=λb=>by rw[<- hv];show jO b
    generalize hY:aT Y (aw c scope)=Yc at E hm;generalize hZ:cz Z (aw c scope)=Zc at E;clear hY hZ
    show⟨J9 X.K (aU r (dR t ft fe Yc)) r l g g' Yc H1 D,
     ⟨l.length,by simp,ML _,λ_=>False,[],[],by simp[aU],λb z=>z.elim,?_,λb o e=>ag hD _ _ e,ak,by unfold TrL;show⟨rfl,λ_ z=>z⟩⟩,?_⟩
    ·show E.plus (ag hD) (λb z=>z.elim (λz=>z▸hD) λz=>z.elim) λb z=>z.elim (λz=>⟨.lst [],z▸ak,λxs h=>by cases h⟩) λz=>z.elim
    rintro i m Z' H' ⟨rfl,h3,f,R,yi,F,j,S,kk,gD,tr⟩
    let B:∀b,Sg (g'.plus λb=>b=D\/f b) b↔Sx g (λb=>b=D\/f b) b:=λb=>(al b).trans (or_congr (gS b) Iff.rfl);let M:∀b o,H1 b=Pj o->¬(b=D\/f b):=λb o e z=>z.elim (λz=>by rw[z,hD] at e;cases e) λz=>by rw[(j b z).1] at e;cases e
    let h1:hq.P X.K (g'.plus λb=>b=D\/f b) H':=Src.mono (λb o e n z=>((B b).mp z).elim n (M b o e)) (λb o _ e=>kk b o e) (λa e=>sf.from_t e) sp;obtain⟨j1,j2⟩:=jt i _ H' h1 S.mu;by_cases w:i<l.length
    ·let hd:l[i]?=Pj l[i]:=Ms w;obtain⟨go,yl⟩:=j2 _ hd;show .inr ⟨go,λx H2 hy C s0 V ex=>?_⟩;obtain⟨s2,rx⟩:=yl x H2 hy;let st:=q5 hm hd F
     let ha:∃o,dR t ft fe Yc l[i]=Pj o:=by
      rcases st with⟨e,_⟩|⟨kd,e,_⟩
      ·show⟨_,e⟩
      ·show⟨_,e⟩
     obtain⟨o0,u⟩:=ha;let p:=u;unfold dR at p;split at p
     ·ext ps hp;split at p
      ·ext ht;show sG (o6 (CO C s0 V ex) n hx) (ii hp rx λvs hn C1 hh hf hc=>?_);let t1:=SE.setAll hn (S.same s2);obtain⟨t2,t3⟩:=SE.passAll hn ht (S.same s2);split at p
       ·ext hT
        -- the test holds
        show hj C1 hh hf hc _ Pm hT _ _ _ _ t1 λH3 I=>uT λC2 h2 h0 ho=>?_
        cases W:fe (setAll ps Yc) with
        |none=>rw[W] at p;cases p
        |some ke=>
         rw[W] at p;cases p;obtain⟨ky,y⟩:=ke
         let A:bM r (ky,y)=Pm/\aU r (dR t ft fe Yc) (l.take (i+1))=Pj (yi++[y]):=by
          rcases st with⟨e,_⟩|⟨kd,e,e2,e3⟩
          ·rw[u] at e;cases e
          ·rw[u] at e;cases e;show⟨e2,e3⟩
         show hz C2 h2 h0 ho _ ky y W _ _ H3 _ (t1.same I) λvy H4 s4 r4=>?_;obtain⟨Fy,y1,y2⟩:=r4;let FF:Same H' H4:=(s2.trans I).trans s4;let N:SE X.K (g'.plus λb=>b=D\/f b) Yc (ig vs Z') H3:=t2.same I
         let hu:∀b,Fy b->(g'.plus λb=>b=D\/f b) b=Pl:=λb z=>by
          cases e:(g'.plus λb=>b=D\/f b) b with
          |none=>rfl
          |some k=>
           obtain⟨o,q2,_⟩:=N.mu b (by rw[Sg,e];simp);rw[y1 b z] at q2;cases q2
         let mm:MuOk H4 (Sx (g'.plus λb=>b=D\/f b) Fy):=λb z=>z.elim (λz=>N.mu.same s4 b z) λz=>y2.dom b z;obtain⟨F2,a1,a2⟩:=VR1.fit A.1 mm hu (λb z=>z) y2;let hr:H4 D=Pj (.lst R):=FF _ _ gD;let L:¬F2 D:=λz=>by have:=y1 D (a1 D z);rw[(s2.trans I) _ _ gD] at this;cases this
         let T:∀b,F2 b->H' b=Pl:=λb z=>(s2.trans I).free (y1 b (a1 b z))
         let hs:R.length<=i:=by
          rw[tr.len];show MP (i8 F) (by rw[MJ];lia)
         let kD:∀b o,b≠D->H4 b=Pj o->upd H4 D (.lst (R++[vy])) b=Pj o:=λb o n e=>by rw[ah n];show e
         show⟨R,hr,Nj hs (Mo w (aK hl)),l.length-(i+1),by lia,rfl,w,λb=>f b\/F2 b,R++[vy],yi++[y],A.2,λb z=>?_,?_,λb o e=>?_,ak,?_⟩
         ·rcases z with z|z
          ·show j b z
          ·show⟨?_,λe=>L (e▸z)⟩
           cases e:H1 b with
           |none=>rfl
           |some o=>have:=T b z;rw[kk b o e] at this;cases this
         ·let e1:(g'.plus λb=>b=D\/(f b\/F2 b))=(g'.plus λb=>b=D\/f b).plus F2:=by
           rw[i5];congr 1;funext b;show propext ⟨λz=>z.elim (λz=>.inl (.inl z)) λz=>z.elim (λz=>.inl (.inr z)) .inr,λz=>z.elim (λz=>z.elim .inl λz=>.inr (.inl z)) λz=>.inr (.inr z)⟩
          rw[e1];show SE.upd (N.plus s4 (λb z=>y1 b (a1 b z)) λb z=>y2.dom b (a1 b z)) ?_ (λxs h=>by cases h);rw[i5];show aV (.inl (.inl rfl))
         ·show kD b o (λz=>M b o e (.inl z)) (FF _ _ (kk b o e))
         ·show TrL.snoc (tr.go (λb o hb e=>kD b o (λz=>?_) (FF _ _ e)) λb o e n z=>?_) ((a2 (λb=>g b≠Pl\/b=D\/f b\/F2 b) λb z=>?_).go (λb o hb e=>kD b o (λz=>?_) e) λb o e n z=>n z) λb z1 z2=>?_
          ·subst z;show hb.elim (λz=>z (.inr (.inl rfl))) λz=>(j b z).2 rfl
          ·rcases z with z|z|z|z
           ·show n (.inl z)
           ·show n (.inr (.inl z))
           ·show n (.inr (.inr z))
           ·rw[T b z] at e;cases e
          ·rcases z with z|z|z|z
           ·show .inr (.inl ((B b).mpr (.inl z)))
           ·show .inr (.inl ((B b).mpr (.inr (.inl z))))
           ·show .inr (.inl ((B b).mpr (.inr (.inr z))))
           ·show .inr (.inr (.inl z))
          ·subst z;show hb.elim (λz=>z (.inr (.inl rfl))) L
          ·obtain⟨o,e,_⟩:=tr.dom b z1;rw[T b z2] at e;cases e
       ·ext hT;cases p
        let A:aU r (dR t ft fe Yc) (l.take (i+1))=Pj yi:=by
         rcases st with⟨_,e⟩|⟨kd,e,_⟩
         ·show e
         ·rw[u] at e;cases e
        show hj C1 hh hf hc _ Po hT _ _ _ _ t1 λH3 I=>uS ?_;let q8:=s2.trans I;show⟨l.length-(i+1),by lia,rfl,w,f,R,yi,A,j,t2.same I,λb o e=>q8 _ _ (kk b o e),q8 _ _ gD,tr.go (λb o _ e=>q8 _ _ e) λ_ _ _ n=>n⟩
       ·cases p
      ·cases p
     ·cases p
    ·let e:i=l.length:=by lia
     subst e;rw[Nk,hm] at F;cases F;show .inl ⟨j1 (Mi _),q _ H' (λb o e=>kk b o (s1 _ _ e)) ⟨λb=>b=D\/f b,λb z=>s1.free (z.elim (λz=>z▸hD) λz=>(j b z).1),?_⟩⟩;change Tr _ _ _ _ _ _ _;unfold Tr
     show⟨D,_,R,f,rfl,gD,rfl,λ_ z=>(j D z).2 rfl,(λh=>nomatch h),λb=>⟨λz=>z.imp (λz=>⟨rfl,z⟩) id,λz=>z.imp (λz=>z.2) id⟩,tr⟩
   ·cases h
  ·cases h
 ·cases h
noncomputable def dh:Pp->Bool
 |.Set ..=>Po
 |_=>Pm
theorem c7(h:dh e=Pm)(x:Pn):foldedSetIterable e env x=pure x:=by
 cases e<;>first|rfl|cases h
theorem DX(O:am X U c){p:Ro->Option (List Nat×List D)}(hck:a9 c scope=Pm)(hns:dh iter=Pm)(hi:SndI X p tg iter)(i:m9 ⟨eT scope c.sc,ac scope,e6 scope⟩ n tg=Pj t)(l:∀C s H ex,jB (aj X (ac scope) scope C s H ex) ft ifs)(j:∀C s H ex,SndE (aj X (ac scope) scope C s H ex) fe elt) :
  SndE X (λY=>l7 r (p Y) (dR t ft fe (aT Y (aw c scope)))) (.ListComp elt [⟨tg,iter,ifs,0⟩] scope pos):=by
 intro Y x d h g Z H Q w q
 show ao (oH O.calm (df O hck) uX
  (λC s b ex a f k m v u o I r e=>uY a f k m v u o I r (e C s b ex)) (λC s b ex a f k m o I e=>e C s b ex a f I) (λC s b ex a f k m o I e=>e C s b ex a f I) (c7 hns)) (xn O hck hi i l j h w q)
end
mutual
inductive IE where
 |var (i:Nat)
 |lit (d:D)
 |bin (op:PJ) (a b:IE)
 |cmp (op:PU) (a b:IE)
 |chain (op op':PU) (a b d:IE)
 |neg (a:IE)
 |not (a:IE)
 |bool (op:BoolOp) (es:fU)
 |ifx (t a b:IE)
 |lst (k:Ow) (es:fU)
 |tup (k:Ow) (es:fU)
 |dnew (t:Nat) (r:Ow)
 |ix (a b:IE)
 |sl (a:IE) (lo hi:IO)
 |rev (a st:IE)
 |stp (a:IE) (lo:IO) (st:IE)
 |lrev (a:IE)
 |dspT (m:Nat) (k a:IE)
 |isi2 (T Uq:Str) (a:IE)
 |dspN (ks:List D) (es:fU)
 |isi (T:Str) (a:IE)
 |fld (f:Str) (a:IE)
 |fn (i:Nat) (es:fU)
 |blt (x:Str) (es:fU)
 |comp (r:Ow) (cap:List (Option Nat)) (tg:IT) (it:II) (ts:IO) (elt:IE)
inductive fU where
 |nil
 |cons (a:IE) (r:fU)
inductive IO where
 |non
 |som (a:IE)
inductive II where
 |e (a:IE)
 |rng (a b:IE)
 |enm (a:IE)
 |zp (a b:IE)
end
def xo(t:Nat)(r:Ow):Option KD:=Pj (.fr (.own [] r),.dic t [] [])
mutual
def aa(U:Nat->Option Fn):IE->Ro->Option KD
 |.var i,Y=>eG i Y[i]?
 |.lit d,_=>Pj (.sh,d)
 |.bin op a b,Y=>w8 op (aa U a Y) (aa U b Y)
 |.cmp op a b,Y=>bV (kB op (aa U a Y) (aa U b Y))
 |.chain op op' a b d,Y=>bV (ff op op' (aa U a Y) (aa U b Y) (aa U d Y))
 |.neg a,Y=>Pl
 |.not a,Y=>bV ((d7 (aa U a Y)).map (!·))
 |.bool op es,Y=>kN U op es Y
 |.ifx t a b,Y=>GZ (aE U t Y) (aa U a Y) (aa U b Y)
 |.lst k es,Y=>m6 k (aP U es Y)
 |.tup k es,Y=>hZq k (aP U es Y)
 |.dnew t r,_=>xo t r
 |.ix a b,Y=>vY (aa U a Y) (aa U b Y)
 |.sl a lo hi,Y=>DJ (aa U a Y) (dS U lo Y) (dS U hi Y)
 |.rev a b,Y=>Pl
 |.stp a lo st,Y=>u6 (aa U a Y) (dS U lo Y) (aa U st Y)
 |.lrev a,Y=>l6 (aa U a Y)
 |.dspN ks es,Y=>Pl
 |.dspT m k a,Y=>Pl
 |.isi T a,Y=>qY T (aa U a Y)
 |.isi2 T Uq a,Y=>Pl
 |.fld f a,Y=>xa f (aa U a Y)
 |.fn i es,Y=>sN (U i) (aP U es Y)
 |.blt x es,Y=>oU x (aP U es Y)
 |.comp r cap tg it ts elt,Y=>l7 r (dC U it Y) (dR tg (di U ts) (aa U elt) (aT Y cap))
def aE(U:Nat->Option Fn):IE->Ro->Option Bool
 |.cmp op a b,Y=>kB op (aa U a Y) (aa U b Y)
 |.chain op op' a b d,Y=>Pl
 |.not a,Y=>(aE U a Y).map (!·)
 |.bool op es,Y=>fu U op es Y
 |.var i,Y=>d7 (eG i Y[i]?)
 |.ix a b,Y=>d7 (vY (aa U a Y) (aa U b Y))
 |.isi T a,Y=>d7 (qY T (aa U a Y))
 |.isi2 T Uq a,Y=>Pl
 |.fn i es,Y=>d7 (sN (U i) (aP U es Y))
 |.blt x es,Y=>d7 (oU x (aP U es Y))
 |_,_=>Pl
def di(U:Nat->Option Fn):IO->Ro->Option Bool
 |.non,_=>Pj Pm
 |.som a,Y=>aE U a Y
def aP(U:Nat->Option Fn):fU->Ro->Option (List KD)
 |.nil,_=>Pj []
 |.cons a r,Y=>ck (aa U a Y) (aP U r Y)
def kN(U:Nat->Option Fn)(op:BoolOp):fU->Ro->Option KD
 |.nil,_=>Pl
 |.cons a r,Y=>match r with
  |.nil=>aa U a Y
  |.cons _ _=>(match aa U a Y with
   |some (_,.bl x)=>if(op==.And)=x then kN U op r Y else Pj (.sh,.bl x)
   |_=>Pl)
def fu(U:Nat->Option Fn)(op:BoolOp):fU->Ro->Option Bool
 |.nil,_=>Pl
 |.cons a r,Y=>match r with
  |.nil=>aE U a Y
  |.cons _ _=>(match aE U a Y with
   |some x=>if(op==.And)=x then fu U op r Y else Pj x
   |none=>Pl)
def dS(U:Nat->Option Fn):IO->Ro->Option (Option Int)
 |.non,_=>Pj Pl
 |.som a,Y=>z9 (aa U a Y)
def dC(U:Nat->Option Fn):II->Ro->Option (List Nat×List D)
 |.e a,Y=>m7 (aa U a Y)
 |.rng a b,Y=>lE (aa U a Y) (aa U b Y)
 |.enm a,Y=>oX (aa U a Y)
 |.zp a b,Y=>oY (aa U a Y) (aa U b Y)
end
section
theorem Aj:aa U (.var i) Y=eG i Y[i]?:=rfl
theorem sR:aa U (.lit d) Y=Pj (.sh,d):=rfl
theorem Ak:aa U (.bin op a b) Y=w8 op (aa U a Y) (aa U b Y):=rfl
theorem Al:aa U (.cmp op a b) Y=bV (kB op (aa U a Y) (aa U b Y)):=rfl
theorem u8:aa U (.chain op op' a b d) Y=bV (ff op op' (aa U a Y) (aa U b Y) (aa U d Y)):=rfl
theorem Am:aa U (.not a) Y=bV ((d7 (aa U a Y)).map (!·)):=rfl
theorem ij:aa U (.bool op es) Y=kN U op es Y:=rfl
theorem sT:aa U (.ifx t a b) Y=GZ (aE U t Y) (aa U a Y) (aa U b Y):=rfl
theorem Ao:aa U (.lst k es) Y=m6 k (aP U es Y):=rfl
theorem Ap:aa U (.tup k es) Y=hZq k (aP U es Y):=rfl
theorem xp:aa U (.ix a b) Y=vY (aa U a Y) (aa U b Y):=rfl
theorem DY:aa U (.sl a lo hi) Y=DJ (aa U a Y) (dS U lo Y) (dS U hi Y):=rfl
theorem Aq:aa U (.stp a lo st) Y=u6 (aa U a Y) (dS U lo Y) (aa U st Y):=rfl
theorem xq:aa U (.lrev a) Y=l6 (aa U a Y):=rfl
theorem sU:aa U (.isi T a) Y=qY T (aa U a Y):=rfl
theorem Ar:aa U (.fld f a) Y=xa f (aa U a Y):=rfl
theorem xr{U:Nat->Option Fn}:aa U (.fn i es) Y=sN (U i) (aP U es Y):=rfl
theorem sV:aa U (.blt x es) Y=oU x (aP U es Y):=rfl
theorem o8:aa U (.comp r cap tg it ts elt) Y=l7 r (dC U it Y) (dR tg (di U ts) (aa U elt) (aT Y cap)):=rfl
theorem o9:aE U (.cmp op a b) Y=kB op (aa U a Y) (aa U b Y):=rfl
theorem xt:aE U (.not a) Y=(aE U a Y).map (!·):=rfl
theorem fV:aE U (.bool op es) Y=fu U op es Y:=rfl
theorem xu:aE U (.var i) Y=d7 (eG i Y[i]?):=rfl
theorem xv:aE U (.isi T a) Y=d7 (qY T (aa U a Y)):=rfl
theorem As{U:Nat->Option Fn}:aE U (.fn i es) Y=d7 (sN (U i) (aP U es Y)):=rfl
theorem xw:aE U (.blt x es) Y=d7 (oU x (aP U es Y)):=rfl
end
structure Nms where
 fns:List Str
 cs:List (Str×D)
 an:Nat->Nat->Option Ow:=λ_ _=>Pl
 md:Nat->Nat->Option Bool:=λ_ _=>Pl
 io:Nat->Option (List Bool):=λ_=>Pl
 vw:Nat->Nat->List Nat:=λ_ _=>[]
 cls:List (Str×List Str):=[]
def bR(fns:Nms)(U:Nat->Option Fn)(fm:Str->Option (Md->Sp)):Tab:=⟨λx=>(aZ x fns.fns).bind U,fm,λx=>fns.cs.lookup x,λx=>fns.cls.lookup x⟩
def dH(f:Pp->Option IE):List Pp->Option fU
 |[]=>Pj .nil
 |e::es=>if ae e then(match f e,dH f es with|some a,Pj r=>Pj (.cons a r)|_,_=>Pl) else Pl
noncomputable def dq(f:Pp->Option IE):List Pp->Option fU
 |[]=>Pj .nil
 |e::es=>match f e,dq f es with|some a,Pj r=>Pj (.cons a r)|_,_=>Pl
def DZ(c:Cz)(f:Pp->Option IE)(tg iter:Pp):Option II:=
 match iter with
 |.Call (.Name x _) [a] [] _=>
  if x="range" then(if f7 c.sc "range" && ae a then(f a).map (.rng (.lit (.int 0))) else Pl)
  else if x="enumerate" then(if f7 c.sc "enumerate" && ae a&&kH tg then(f a).map .enm else Pl)
  else(f iter).map .e
 |.Call (.Name x _) [a,b] [] _=>
  if x="range" then(if f7 c.sc "range" && ae a&&ae b then(match f a,f b with|some a,Pj b=>Pj (.rng a b)|_,_=>Pl) else Pl)
  else if x="zip" then(if f7 c.sc "zip" && ae a&&ae b&&kH tg then(match f a,f b with|some a,Pj b=>Pj (.zp a b)|_,_=>Pl) else Pl)
  else(f iter).map .e
 |_=>(f iter).map .e
noncomputable def At(f:Pp->Option IE):Option Pp->Option IO
 |none=>Pj .non
 |some e=>(f e).map .som
noncomputable def q9(f:Pp->Option IE):List Pp->Option IO
 |[]=>Pj .non
 |[e]=>(f e).map .som
 |_=>Pl
def xx(fns:Nms)(c:Cz)(f:Pp->Option IE)(x:Str)(es:List Pp):Option IE:=
 if f7 c.sc x&&es.all ae then(match dH f es with|some ies=>(match aZ x fns.fns with|some i=>(match fns.io i with|some _=>Pl|none=>Pj (.fn i ies))|none=>Pj (.blt x ies))|none=>Pl) else Pl
noncomputable def D0:IE->Bool
 |.var _|.ix ..|.isi ..|.isi2 ..|.fn ..|.blt ..=>Pm
 |_=>Po
def jC(o:Option IE):Option IE:=match o with|some ie=>if D0 ie then Pj ie else Pl|none=>Pl
def Nms.kL(fns:Nms)(p:Pos):Ow:=(fns.an p.line p.col).getD aO
noncomputable def Nms.kT(fns:Nms)(p:Pos):Ow:=(fns.an p.line p.col).getD .fz
noncomputable def Hr:Const->Option IE
 |.int i=>Pj (.lit (.int i))
 |.bool i=>Pj (.lit (.bl i))
 |.none=>Pj (.lit .non)
 |.str x=>Pj (.lit (.str x))
 |_=>Pl
noncomputable def rc(f:Pp->Option IE)(a:Pp)(ops:List PU)(bs:List Pp):Option IE:=match ops with
 |[]=>Pl
 |op::ops=>match bs with
  |[]=>Pl
  |b::bs=>match ops with
   |[]=>(match bs with
    |[]=>if PR op b then Pl else match f a,f b with|some a,Pj b=>Pj (.cmp op a b)|_,_=>Pl
    |_::_=>Pl)
   |op'::ops=>match ops with
    |_::_=>Pl
    |[]=>match bs with
     |[]=>Pl
     |d::bs=>match bs with
      |_::_=>Pl
      |[]=>if PR op' d then Pl else match f a,f b,f d with|some a,Pj b,Pj d=>Pj (.chain op op' a b d)|_,_,_=>Pl
noncomputable def Ka:Pp->Bool
 |.UnaryOp ..=>Pm
 |_=>Po
def D2(f:Pp->Option IE)(a b:Pp):Option IE:=match b with
 |.Slice lo hi st _=>(match st with
  |none=>(match f a,At f lo,At f hi with|some a,Pj lo,Pj hi=>Pj (.sl a lo hi)|_,_,_=>Pl)
  |some st=>(match hi with
   |some _=>Pl
   |none=>if Ka st then(match lo with
    |some _=>Pl
    |none=>(match f a,f st with|some a,Pj b=>Pj (.rev a b)|_,_=>Pl)) else(match f a,At f lo,f st with|some a,Pj lo,Pj b=>Pj (.stp a lo b)|_,_,_=>Pl)))
 |b=>if cV b then(match f a,f b with|some a,Pj b=>Pj (.ix a b)|_,_=>Pl) else Pl
noncomputable def BK(c:Cz)(f:Pp->Option IE)(a:Pp)(es:List Pp):Option IE:=Pl
def D3(c:Cz)(f:Pp->Option IE)(q:List Pp):Option IE:=match q with
 |[]=>Pl
 |a::q=>match q with
  |[]=>Pl
  |t::q=>match q with
   |_::_=>Pl
   |[]=>match t with
    |.Name T _=>if f7 c.sc "isinstance" && f7 c.sc T&&ae a then(f a).map (.isi T) else Pl
    |.Tuple es _ _=>BK c f a es
    |_=>Pl
noncomputable def BL(c:Cz)(f:Pp->Option IE)(g:Pp)(q:List Pp)(ks:List Keyword):Option IE:=Pl
def xy(c:Cz)(f:Pp->Option IE)(x:Str)(q:List Pp):Option IE:=match q with
 |[]=>Pl
 |a::q=>match q with
  |_::_=>Pl
  |[]=>match a with
   |.Call g bs ks _=>(match g with
    |.Name y _=>(match bs with
     |[]=>Pl
     |b::bs=>(match bs with
      |_::_=>Pl
      |[]=>(match ks with
       |_::_=>Pl
       |[]=>if x="list"/\y="reversed"/\f7 c.sc "list" = Pm/\f7 c.sc "reversed" = Pm/\ae b=Pm then(f b).map .lrev else Pl)))
    |_=>Pl)
   |_=>Pl
noncomputable def Hs(f:Pp->Option IE)(o:Pp)(m:Str)(ap:Pos)(q:List Pp)(pos:Pos):Option IE:=Pl
def FG(m:Str):List Str->Option Nat
 |[]=>Pl
 |y::r=>if oO y=Pm/\mM y=m then Pj 0 else(FG m r).map (·+1)
def D4(fns:Nms)(f:Pp->Option IE)(o:Pp)(m:Str)(ap:Pos)(q:List Pp)(pos:Pos):Option IE:=match FG m fns.fns with
 |none=>Pl
 |some i=>match q with
  |[]=>Pl
  |a::es=>if dG o=Pm/\ae a=Pm/\es.all ae=Pm/\(ap.endLine==pos.line)=Pm/\(a::es).length<30 then(match f o,dH f (a::es) with|some o,Pj ies=>Pj (.fn i (.cons o ies))|_,_=>Pl) else Pl
def Kb(fns:Nms)(c:Cz)(f:Pp->Option IE)(g:Pp)(q:List Pp)(ks:List Keyword)(pos:Pos):Option IE:=match ks with
 |k::ks=>BL c f g q (k::ks)
 |[]=>match g with
  |.Name x _=>if x="isinstance" then D3 c f q else(match q with
   |[]=>if f7 c.sc x then(match aZ x fns.fns with|some i=>(match fns.io i with|some _=>Pl|none=>Pj (.fn i .nil))|none=>Pl) else Pl
   |a::es=>match xy c f x (a::es) with|some r=>Pj r|none=>xx fns c f x (a::es))
  |.Attribute o m ap=>(match D4 fns f o m ap q pos with|some r=>Pj r|none=>Hs f o m ap q pos)
  |_=>Pl
def Ht(fns:Nms)(c:Cz)(B O:Cz->Pp->Option IE)(elt:Pp)(q:List Comprehension)(scope:PH)(p:Pos):Option IE:=match q with
 |[]=>Pl
 |g::q=>match q with
  |_::_=>Pl
  |[]=>if g.is_async=0 then(if dh g.iter&&a9 c scope then(match m9 ⟨eT scope c.sc,ac scope,e6 scope⟩ 4 g.target,DZ c (B c) g.target g.iter,q9 (O ⟨eT scope c.sc,ac scope,e6 scope⟩) g.ifs,B ⟨eT scope c.sc,ac scope,e6 scope⟩ elt with
   |some t,Pj it,Pj ts,Pj el=>Pj (.comp ((fns.an p.line p.col).getD .fz) (aw c scope) t it ts el)|_,_,_,_=>Pl) else Pl) else Pl
noncomputable def D5(f:Pp->Option IE)(ks:List (Option Pp))(vs:List Pp):Option IE:=Pl
noncomputable def xz(m:Nat)(f:Pp->Option IE)(ks:List (Option Pp))(vs:List Pp):Option IE:=match ks with
 |[]=>Pl
 |k::ks=>match ks with
  |_::_=>Pl
  |[]=>match vs with
   |[]=>Pl
   |v::vs=>match vs with
    |_::_=>Pl
    |[]=>match k with
     |none=>Pl
     |some k=>(match f k,f v with|some a,Pj b=>Pj (.dspT m a b)|_,_=>Pl)
theorem xA{f:Pp->Option IE}(h:xz m f ks vs=Pj ie):∃k v a b,ks=[Pj k]/\vs=[v]/\f k=Pj a/\f v=Pj b/\ie=.dspT m a b:=by
 unfold xz at h
 repeat' split at h
 all_goals first|(cases h;done)|skip
 ext a b d c;cases h;show⟨_,_,a,b,rfl,rfl,d,c,rfl⟩
noncomputable def Lx:Ow->Nat
 |.fz=>1
 |.own es _=>if es.length=0 then 1 else es.length
noncomputable def L1:Ow->Ow
 |.fz=>.fz
 |.own _ r=>r
mutual
def cE(fns:Nms):Nat->Cz->Pp->Option IE
 |0,_,_=>Pl
 |n+1,c,e=>match e with
  |.Name x p=>if f7 c.sc x then(fns.cs.lookup x).map .lit else(match fns.md p.line p.col with|none=>(e7 c x).map .var|some _=>Pl)
  |.Constant v _ _=>Hr v
  |.BinOp a op b _=>match cE fns n c a,cE fns n c b with|some a,Pj b=>Pj (.bin op a b)|_,_=>Pl
  |.Compare a ops bs _=>rc (cE fns n c) a ops bs
  |.UnaryOp op a _=>(match op with|.USub=>(cE fns n c a).map .neg|.Not=>(cE fns n c a).map .not|_=>Pl)
  |.BoolOp op es _=>(dq (cE fns n c) es).map (.bool op)
  |.IfExp t a b _=>match cT fns n c t,cE fns n c a,cE fns n c b with|some t,Pj a,Pj b=>Pj (.ifx t a b)|_,_,_=>Pl
  |.List es p=>(dH (cE fns n c) es).map (.lst (fns.kL p))
  |.Tuple es _ p=>(dH (cE fns n c) es).map (.tup (fns.kT p))
  |.Dict ks vs p=>(match ks with|k::ks'=>(match fns.an p.line p.col with|some o=>(match Lx o with|0=>D5 (cE fns n c) (k::ks') vs|m+1=>xz m (cE fns n c) (k::ks') vs)|none=>D5 (cE fns n c) (k::ks') vs)|[]=>(match vs with|_::_=>Pl|[]=>Pj (match fns.an p.line p.col with|some k=>.dnew (Lx k) (L1 k)|none=>.dnew 0 .fz)))
  |.Subscript a b _=>D2 (cE fns n c) a b
  |.Attribute a f _=>if dG a then(cE fns n c a).map (.fld f) else Pl
  |.Call g as ks pos=>Kb fns c (cE fns n c) g as ks pos
  |.ListComp elt gs scope p=>Ht fns c (cE fns n) (cT fns n) elt gs scope p
  |_=>Pl
def cT(fns:Nms):Nat->Cz->Pp->Option IE
 |0,_,_=>Pl
 |n+1,c,e=>match e with
  |.Compare a ops bs _=>rc (cE fns n c) a ops bs
  |.UnaryOp op a _=>(match op with|.Not=>(cT fns n c a).map .not|_=>Pl)
  |.BoolOp op es _=>(dq (cT fns n c) es).map (.bool op)
  |.Name x p=>jC (cE fns n c (.Name x p))
  |.Call f as ks p=>jC (cE fns n c (.Call f as ks p))
  |.Subscript a b p=>jC (cE fns n c (.Subscript a b p))
  |_=>Pl
end
theorem eU{f:Ro->Option KD}(h:∀Y,f Y=Pl):SndE X f e:=λY b d a=>by rw[h] at a;cases a
theorem Au{f:Ro->Option Bool}(h:∀Y,f Y=Pl):SndT X f e:=λY b a=>by rw[h] at a;cases a
theorem aY{α β:Type}{o:Option α}{g:α->β}{b:β}(h:o.map g=Pj b):∃a,o=Pj a/\b=g a:=by
 cases o with
 |none=>cases h
 |some a=>cases h;show⟨a,rfl,rfl⟩
theorem ng(h:D0 ie=Pm):aE U ie=λY=>d7 (aa U ie Y):=by
 funext Y
 cases ie with
 |var i=>rfl
 |ix a b=>rfl
 |isi T a=>rfl
 |isi2 T d a=>rfl
 |fn i c=>rfl
 |blt x c=>rfl
 |_=>cases h
theorem nh(d:D):aa U (.lit d)=λ_=>Pj (.sh,d):=by
 show funext λ_=>rfl
theorem kO(h:jC o=Pj ie):o=Pj ie/\D0 ie=Pm:=by
 unfold jC at h;split at h
 ·split at h
  ·ext hk;cases h;show⟨rfl,hk⟩
  ·cases h
 ·cases h
section
variable {X:Cx} {c:Cz} (fns:Nms) (U:Nat->Option Fn) {fm:Str->Option (Md->Sp)}
theorem D6:SndE X (λ_=>xo t r) (.Dict [] [] pos):=by
 intro Y e d h g Z H Q f q;cases(show Pj (Kd.fr (.own [] r),D.dic t [] [])=Pj (e,d) from h)
 let b:∀{p:Ps} {o:HO},H p=Pl->cR X.K o (.dic t []) []->VR X.K g H (upd H p o) (.fr (.own [] r)) (.dic t [] []) (.ref p):=λ{p o} a c=>
  VRs.node (kds:=[]) (es:=[]) (r:=r) (vs:=[]) (hd:=.dic t []) rfl f.mu (Same.refl H) .nil a c rfl
 cases t with
 |zero=>show ao wP λp a=>q _ _ (ag a) (b a (.inl ⟨rfl,[],rfl,rfl,rfl⟩))
 |succ m=>show ao (wQ (m:=m)) λp a=>q _ _ (ag a) (b a (.inr ⟨m,rfl,[],0,rfl,rfl,rfl⟩))
theorem fW{f:Pp->Option IE}(g:∀e d,f e=Pj d->SndE X (aa U d) e):∀{es:List Pp} {b:fU},dH f es=Pj b->jL X (aP U b) es/\es.all ae=Pm
 |[],b,h=>by
  cases h;show⟨?_,rfl⟩;have:aP U .nil=λ_=>Pj []:=by funext Y;rw[aP]
  rw[this];show jV
 |e::es,b,h=>by
  unfold dH at h;split at h
  ·ext c;split at h
   ·ext a r j i;cases h;obtain⟨l,k⟩:=fW g i;show⟨?_,by rw[No,c,k];rfl⟩;have:aP U (.cons a r)=λY=>ck (aa U a Y) (aP U r Y):=by funext Y;rw[aP]
    rw[this];show fP c (g e a j) l
   ·cases h
  ·cases h
theorem sW{f:Pp->Option IE}(m:∀e B,f e=Pj B->SndE X (aa U B) e)(op:BoolOp)(pos:Pos):∀{es:List Pp} {c:fU},dq f es=Pj c->SndE X (kN U op c) (.BoolOp op es pos)
 |[],c,h=>by cases h;intro Y k d h;unfold kN at h;cases h
 |[a],c,h=>by
  unfold dq dq at h;split at h
  ·ext n r o j;cases h;cases j;intro Y k d h g Z H Q i q;unfold kN at h;show ao (CN au) (m a n o Y k d h g Z H Q i q)
  ·cases h
 |a::b::es,c,h=>by
  unfold dq at h;split at h
  ·ext n r o j;cases h;let rest:=sW m op pos j
   let u:∃A z,r=.cons A z:=by
    unfold dq at j;split at j
    ·cases j;show⟨_,_,rfl⟩
    ·cases j
   obtain⟨A,z,rfl⟩:=u;intro Y k d h g Z H Q i q;unfold kN at h;dsimp only at h;split at h
   ·ext C x s;split at h
    ·ext p
     cases op with
     |And=>
      show ao (v9 au au) (m a n o Y _ _ s g Z H _ i λv l s1 r=>⟨x,r.rd.bl,?_⟩);have:x=Pm:=by rw[<- p];rfl
      rw[if_pos this];show rest Y k d h g Z l Q (i.same s1) λy w s2 t=>q y w (s1.trans s2) (t.older s1)
     |Or=>
      show ao (By au au) (m a n o Y _ _ s g Z H _ i λv l s1 r=>⟨x,r.rd.bl,?_⟩);have:x=Po:=by rw[<- p];rfl
      rw[if_neg (by rw[this];decide)];show rest Y k d h g Z l Q (i.same s1) λy w s2 t=>q y w (s1.trans s2) (t.older s1)
    ·ext p;cases h
     cases op with
     |And=>
      show ao (v9 au au) (m a n o Y _ _ s g Z H _ i λv l s1 r=>⟨x,r.rd.bl,?_⟩)
      have:x=Po:=by cases x with|true=>show absurd rfl p|false=>rfl
      subst this;rw[if_neg (by decide)];show q _ l s1 BF
     |Or=>
      show ao (By au au) (m a n o Y _ _ s g Z H _ i λv l s1 r=>⟨x,r.rd.bl,?_⟩)
      have:x=Pm:=by cases x with|false=>show absurd rfl p|true=>rfl
      subst this;rw[if_pos rfl];show q _ l s1 BF
   ·cases h
  ·cases h
theorem sX{f:Pp->Option IE}(j:∀e u,f e=Pj u->SndT X (aE U u) e)(op:BoolOp)(pos:Pos):∀{es:List Pp} {c:fU},dq f es=Pj c->∀Y r,fu U op c Y=Pj r->∀g Z H Q,SE X.K g Y Z H->(∀H',Same H H'->Q r H')->wW X (.BoolOp op es pos) Z H Q
 |[],c,h,Y,r,d,g,Z,H,Q,se,q=>by cases h;unfold fu at d;cases d
 |[a],c,h,Y,r,hb,g,Z,H,Q,se,q=>by
  unfold dq dq at h;split at h
  ·ext k p l d;cases h;cases d;unfold fu at hb;let v:=j a k l Y r hb g Z H Q se q
   cases op with
   |And=>show lZ (zm hJ) v
   |Or=>show lZ (CL hJ) v
  ·cases h
 |a::b::es,c,h,Y,r,hb,g,Z,H,Q,se,q=>by
  unfold dq at h;split at h
  ·ext k w l d;cases h;let rest:=sX j op pos d Y r
   let o:∃t p,w=.cons t p:=by
    unfold dq at d;split at d
    ·cases d;show⟨_,_,rfl⟩
    ·cases d
   obtain⟨t,p,rfl⟩:=o;unfold fu at hb;dsimp only at hb;split at hb
   ·ext x n;split at hb
    ·ext m
     cases op with
     |And=>
      show lZ (v8 hJ zV) (j a k l Y x n g Z H _ se λi s1=>?_);have:x=Pm:=by rw[<- m];rfl
      rw[if_pos this];show rest hb g Z i Q (se.same s1) λs s2=>q s (s1.trans s2)
     |Or=>
      show lZ (Bx hJ zV) (j a k l Y x n g Z H _ se λi s1=>?_);have:x=Po:=by rw[<- m];rfl
      rw[if_neg (by rw[this];decide)];show rest hb g Z i Q (se.same s1) λs s2=>q s (s1.trans s2)
    ·ext m;cases hb
     cases op with
     |And=>
      show lZ (v8 hJ zV) (j a k l Y r n g Z H _ se λi s1=>?_)
      have:r=Po:=by cases r with|true=>show absurd rfl m|false=>rfl
      subst this;rw[if_neg (by decide)];show q i s1
     |Or=>
      show lZ (Bx hJ zV) (j a k l Y r n g Z H _ se λi s1=>?_)
      have:r=Pm:=by cases r with|false=>show absurd rfl m|true=>rfl
      subst this;rw[if_pos rfl];show q i s1
   ·cases hb
  ·cases h
theorem Av(O:am X (bR fns U fm) c){f:Pp->Option IE}(m:∀e g,f e=Pj g->SndE X (aa U g) e){g:IE}(h:xx fns c f x (a::es)=Pj g):SndE X (aa U g) (.Call (.Name x p) (a::es) [] pos):=by
 unfold xx at h;split at h
 ·ext d;rw[Me,No,Me] at d;split at h
  ·ext b k;let j:=(fW U m k).1;split at h
   ·ext i l;split at h
    ·cases h
    cases h
    let e:aa U (.fn i b)=λY=>sN ((bR fns U fm).fn x) (aP U b Y):=by
     funext Y;change sN (U i) (aP U b Y)=_;unfold bR;dsimp only;rw[l];rfl
    rw[e];show J8 O j d.1 d.2.1 d.2.2
   ·cases h
    first|(show eU λ_=>rfl)|(have e:aa U (.blt x b)=λY=>oU x (aP U b Y):=(by show funext λ_=>rfl);rw[e];show Hf O j d.1 d.2.1 d.2.2)
  ·cases h
 ·cases h
theorem sY(O:am X (bR fns U fm) c){f:Pp->Option IE}(j:∀e q,f e=Pj q->SndE X (aa U q) e)(h:DZ c f tg iter=Pj it):SndI X (dC U it) tg iter:=by
 let l:∀{it:II},(f iter).map .e=Pj it->SndI X (dC U it) tg iter:=λh=>by
  obtain⟨a,i,rfl⟩:=aY h
  first|(show offI λ_=>rfl)|(have e:dC U (.e a)=λY=>m7 (aa U a Y):=(by show funext λ_=>rfl);rw[e];show Hh (j _ _ i))
 unfold DZ at h;split at h
 ·ext x p a n;split at h
  ·ext k;subst k;split at h
   ·ext d;rw[Me] at d;obtain⟨g,i,rfl⟩:=aY h
    first|(show offI λ_=>rfl)|(have e:dC U (.rng (.lit (.int 0)) g)=λY=>lE (Pj (.sh,.int 0)) (aa U g Y):=(by show funext λ_=>rfl);rw[e];show DS O d.1 d.2 (j _ _ i))
   ·cases h
  ·split at h
   ·ext k;subst k;split at h
    ·ext d;simp only[Me] at d;obtain⟨g,i,rfl⟩:=aY h
     first|(show offI λ_=>rfl)|(have e:dC U (.enm g)=λY=>oX (aa U g Y):=(by show funext λ_=>rfl);rw[e];show Hj O d.1.1 d.1.2 d.2 (j _ _ i))
    ·cases h
   ·show l h
 ·ext x p a b n;split at h
  ·ext k;subst k;split at h
   ·ext d;simp only[Me] at d;split at h
    ·ext g m i o;cases h
     first|(show offI λ_=>rfl)|(have e:dC U (.rng g m)=λY=>lE (aa U g Y) (aa U m Y):=(by show funext λ_=>rfl);rw[e];show DT O d.1.1 d.1.2 d.2 (j _ _ i) (j _ _ o))
    ·cases h
   ·cases h
  ·split at h
   ·ext k;subst k;split at h
    ·ext d;simp only[Me] at d;split at h
     ·ext g m i o;cases h
      first|(show offI λ_=>rfl)|(have e:dC U (.zp g m)=λY=>oY (aa U g Y) (aa U m Y):=(by show funext λ_=>rfl);rw[e];show Hk O d.1.1.1 d.1.1.2 d.1.2 d.2 (j _ _ i) (j _ _ o))
     ·cases h
    ·cases h
   ·show l h
 ·show l h
theorem D7(h:Hr v=Pj ie):SndE X (aa U ie) (.Constant v k pos):=by
 cases v with
 |int i=>cases h;rw[nh];show GR _ _ _
 |bool i=>cases h;rw[nh];show JZ _ _ _
 |none=>cases h;rw[nh];show GS _ _
 |str i=>cases h;rw[nh];show GU _ _ _
 |_=>cases h
theorem sZ{f:Pp->Option IE}(h:rc f a ops bs=Pj ie):(∃op b e g,ops=[op]/\bs=[b]/\PR op b=Po/\f a=Pj e/\f b=Pj g/\ie=.cmp op e g)\/(∃op c b d e g d',ops=[op,c]/\bs=[b,d]/\PR c d=Po/\f a=Pj e/\f b=Pj g/\f d=Pj d'/\ie=.chain op c e g d'):=by
 cases ops with
 |nil=>cases h
 |cons op ops=>cases bs with
  |nil=>cases h
  |cons b bs=>cases ops with
   |nil=>cases bs with
    |cons _ _=>cases h
    |nil=>
     dsimp only[rc] at h;split at h
     ·cases h
     ·ext i;split at h
      ·ext e g j k;cases h;show .inl ⟨op,b,e,g,rfl,rfl,by simpa using i,j,k,rfl⟩
      ·cases h
   |cons c ops=>cases ops with
    |cons _ _=>cases h
    |nil=>cases bs with
     |nil=>cases h
     |cons d bs=>cases bs with
      |cons _ _=>cases h
      |nil=>
       dsimp only[rc] at h;split at h
       ·cases h
       ·ext i;split at h
        ·ext e g d' j k l;cases h;show .inr ⟨op,c,b,d,e,g,d',rfl,rfl,by simpa using i,j,k,l,rfl⟩
        ·cases h
theorem xB{f:Pp->Option IE}(d:∀e b,f e=Pj b->SndE X (aa U b) e)(h:At f o=Pj io):u5 X (dS U io) o:=by
 cases o with
 |none=>
  cases h;let e:dS U .non=λ_=>Pj Pl:=by funext Y;rw[dS]
  rw[e];show DH
 |some e=>
  obtain⟨a,c,rfl⟩:=aY h;let e:dS U (.som a)=λY=>z9 (aa U a Y):=by funext Y;rw[dS]
  rw[e];show DI (d _ _ c)
theorem tf{f:Pp->Option IE}(d:∀e b,f e=Pj b->SndT X (aE U b) e)(h:q9 f o=Pj io):jB X (di U io) o:=by
 unfold q9 at h;split at h
 ·cases h;let e:di U .non=λ_=>Pj Pm:=by funext Y;rw[di]
  rw[e];show BJ
 ·obtain⟨a,c,rfl⟩:=aY h;let e:di U (.som a)=aE U a:=by funext Y;rw[di]
  rw[e];show Hq (d _ _ c)
 ·cases h
theorem xC{f:Pp->Option IE}(b:∀e a,f e=Pj a->SndE X (aa U a) e){a:IE}(h:D5 f ks vs=Pj a):SndE X (aa U a) (.Dict ks vs pos):=by cases h
theorem D8(O:am X (bR fns U fm) c){f:Pp->Option IE}(i:∀e m,f e=Pj m->SndE X (aa U m) e){m:IE}(h:D2 f a b=Pj m):SndE X (aa U m) (.Subscript a b pos):=by
 unfold D2 at h;split at h
 ·ext lo t r p
  cases r with
  |none=>
   dsimp only at h;split at h
   ·ext d g o l k q;cases h
    first|(show eU λ_=>rfl)|(rw[show aa U (.sl d g o)=λY=>DJ (aa U d Y) (dS U g Y) (dS U o Y) from funext λ_=>rfl];show J4 (i _ _ l) (xB U i k) (xB U i q))
   ·cases h
  |some r=>cases t with
   |some _=>cases h
   |none=>
    dsimp only at h;split at h
    ·cases lo with
     |some _=>cases h
     |none=>
      dsimp only at h;split at h
      ·ext d j l n;cases h
       first|(show eU λ_=>rfl)|(rw[show aa U (.rev d j)=λY=>oRev (aa U d Y) (aa U j Y) from funext λ_=>rfl];show s_rev (i _ _ l) (i _ _ n))
      ·cases h
    ·split at h
     ·ext d g j l k n;cases h
      first|(show eU λ_=>rfl)|(rw[show aa U (.stp d g j)=λY=>u6 (aa U d Y) (dS U g Y) (aa U j Y) from funext λ_=>rfl];show G6 (i _ _ l) (xB U i k) (i _ _ n))
     ·cases h
 ·split at h
  ·ext s;split at h
   ·ext d j l n;cases h
    first|(show eU λ_=>rfl)|(rw[show aa U (.ix d j)=λY=>vY (aa U d Y) (aa U j Y) from funext λ_=>rfl];show J3 O (i _ _ l) (i _ _ n) s)
   ·cases h
  ·cases h
theorem Aw(O:am X (bR fns U fm) c){f:Pp->Option IE}(d:∀e b,f e=Pj b->SndE X (aa U b) e){b:IE}(h:BK c f a es=Pj b):SndE X (aa U b) (.Call (.Name "isinstance" p) [a,.Tuple es kk tp] [] pos):=by cases h
theorem D9(O:am X (bR fns U fm) c){f:Pp->Option IE}(i:∀e b,f e=Pj b->SndE X (aa U b) e){b:IE}(h:D3 c f as=Pj b):SndE X (aa U b) (.Call (.Name "isinstance" p) as [] pos):=by
 cases as with
 |nil=>cases h
 |cons a as=>cases as with
  |nil=>cases h
  |cons t as=>cases as with
   |cons _ _=>cases h
   |nil=>
    dsimp only[D3] at h;split at h
    ·split at h
     ·ext d;simp only[Me] at d;obtain⟨g,j,rfl⟩:=aY h
      first|(show eU λ_=>rfl)|(rw[show aa U (.isi _ g)=λY=>qY _ (aa U g Y) from funext λ_=>rfl];show Hn O d.1.1 d.1.2 d.2 (i _ _ j))
     ·cases h
    ·show Aw fns U O i h
    ·cases h
theorem Ea(O:am X (bR fns U fm) c){f:Pp->Option IE}(b:∀e a,f e=Pj a->SndE X (aa U a) e){a:IE}(h:BL c f g as ks=Pj a):SndE X (aa U a) (.Call g as ks pos):=by cases h
theorem Ax(O:am X (bR fns U fm) c){f:Pp->Option IE}(o:∀e d,f e=Pj d->SndE X (aa U d) e){d:IE}(h:xy c f x as=Pj d):SndE X (aa U d) (.Call (.Name x p) as [] pos):=by
 cases as with
 |nil=>cases h
 |cons a as=>cases as with
  |cons _ _=>cases h
  |nil=>cases a with
   |Call g i n s=>cases g with
    |Name y t=>cases i with
     |nil=>cases h
     |cons b i=>cases i with
      |cons _ _=>cases h
      |nil=>cases n with
       |cons _ _=>cases h
       |nil=>
        dsimp only[xy] at h;split at h
        ·ext r;obtain⟨rfl,rfl,q,k,l⟩:=r;obtain⟨j,m,rfl⟩:=aY h
         (rw[show aa U (.lrev j)=λY=>l6 (aa U j Y) from funext λ_=>rfl];show DP O (cC O q) (cC O k) l (o _ _ m))
        ·cases h
    |_=>cases h
   |_=>cases h
theorem Eb(O:am X (bR fns U fm) c){f:Pp->Option IE}(b:∀e a,f e=Pj a->SndE X (aa U a) e){a:IE}(h:Hs f o m ap as pos=Pj a):SndE X (aa U a) (.Call (.Attribute o m ap) as [] pos):=by cases h
theorem xD:∀{l:List Str} {i:Nat},FG m l=Pj i->∃y,oO y=Pm/\mM y=m/\aZ y l=Pj i
 |[],_,h=>by cases h
 |y::r,i,h=>by
  unfold FG at h;split at h
  ·ext e;cases h;show⟨y,e.1,e.2,by unfold aZ;rw[if_pos rfl]⟩
  ·ext a
   cases q:FG m r with
   |none=>rw[q] at h;cases h
   |some j=>
    rw[q] at h;cases h;obtain⟨z,e1,e2,e3⟩:=xD q;show⟨z,e1,e2,?_⟩;unfold aZ;rw[if_neg (λe:z=y=>a (e▸⟨e1,e2⟩)),e3];rfl
theorem Ec(O:am X (bR fns U fm) c){f:Pp->Option IE}(k:∀e b,f e=Pj b->SndE X (aa U b) e){b:IE}(h:D4 fns f o m ap as pos=Pj b):SndE X (aa U b) (.Call (.Attribute o m ap) as [] pos):=by
 unfold D4 at h
 cases g:FG m fns.fns with
 |none=>rw[g] at h;cases h
 |some i=>
  rw[g] at h
  cases as with
  |nil=>cases h
  |cons a s=>
   dsimp only at h;split at h
   ·ext r;obtain⟨v,n,q,p,l⟩:=r
    cases d:f o with
    |none=>rw[d] at h;cases h
    |some u=>
     cases j:dH f (a::s) with
     |none=>rw[d,j] at h;cases h
     |some t=>
      rw[d,j] at h;cases h;obtain⟨y,e1,rfl,e3⟩:=xD g;have:=BH O (ap:=ap) (pos:=pos) e1 (k o u d) (fW U k j).1 v p n q l;rw[show(bR fns U fm).fn y=U i from by change(aZ y fns.fns).bind U=_;rw[e3];rfl] at this;show this
   ·cases h
theorem Hu(O:am X (bR fns U fm) c){f:Pp->Option IE}(b:∀e d,f e=Pj d->SndE X (aa U d) e){d:IE}(h:Kb fns c f g as ks pos=Pj d):SndE X (aa U d) (.Call g as ks pos):=by
 cases ks with
 |cons _ _=>show Ea fns U O b h
 |nil=>
  dsimp only[Kb] at h;split at h
  ·ext x p;split at h
   ·ext l;subst l;show D9 fns U O b h
   ·cases as with
    |cons a n=>
     dsimp only at h;split at h
     ·ext r j;cases h;show Ax fns U O b j
     ·show Av fns U O b h
    |nil=>
     dsimp only at h;split at h
     ·ext m;split at h
      ·ext i k;split at h
       ·cases h
       ·cases h;rw[show aa U (.fn i .nil)=λY=>sN (U i) (Pj []) by show funext λ_=>rfl];have:=Ho (p:=p) (pos:=pos) O m;rw[show(bR fns U fm).fn x=U i from by change(aZ x fns.fns).bind U=_;rw[k];rfl] at this;show this
      ·cases h
     ·cases h
  ·split at h
   ·ext r j;cases h;show Ec fns U O b j
   ·show Eb fns U O b h
  ·cases h
theorem Hv(O:am X (bR fns U fm) c){r m:Cz->Pp->Option IE}(b:∀X c,am X (bR fns U fm) c->∀e a,r c e=Pj a->SndE X (aa U a) e)(f:∀X c,am X (bR fns U fm) c->∀e a,m c e=Pj a->SndT X (aE U a) e){a:IE}(h:Ht fns c r m elt gs scope pos=Pj a):SndE X (aa U a) (.ListComp elt gs scope pos):=by
 cases gs with
 |nil=>cases h
 |cons g gs=>cases gs with
  |cons _ _=>cases h
  |nil=>
   dsimp only[Ht] at h;split at h
   ·ext w;split at h
    ·ext d;rw[Me] at d;split at h
     ·ext t u p q v j k i;cases h;rw[show aa U (.comp _ (aw c _) t u p q)=λY=>l7 _ (dC U u Y) (dR t (di U p) (aa U q) (aT Y (aw c _))) from funext λ_=>rfl];let n:=cZ O d.2
      cases g with
      |mk z o x y=>
       subst w;show DX O d.2 d.1 (sY fns U O (b X c O) j) v (λC s H l=>tf U (f _ _ (n C s H l)) k) (λC s H l=>b _ _ (n C s H l) _ _ i)
     ·cases h
    ·cases h
   ·cases h
end
section
variable (fns:Nms) (U:Nat->Option Fn) {fm:Str->Option (Md->Sp)}
theorem cF:∀n:Nat,(∀X c,am X (bR fns U fm) c->∀e w,cE fns n c e=Pj w->SndE X (aa U w) e)/\(∀X c,am X (bR fns U fm) c->∀e w,cT fns n c e=Pj w->SndT X (aE U w) e)
 |0=>⟨λX c O e w h=>by (cases(show(Pl:Option IE)=Pj w from h)),λX c O e w h=>by (cases(show(Pl:Option IE)=Pj w from h))⟩
 |n+1=>by
  obtain⟨C,D⟩:=cF n;show⟨λX c O e w h=>?_,λX c O e w h=>?_⟩
  ·let l:=C X c O;let R:=D X c O
   cases e with
   |Name x p=>
    dsimp only[cE] at h;split at h
    ·ext hg;obtain⟨d,K,rfl⟩:=aY h;let e:aa U (.lit d)=λ_=>Pj (.sh,d):=by show funext λ_=>rfl
     rw[e];show GV O hg K p
    ·split at h
     ·obtain⟨i,hi,rfl⟩:=aY h;let e:aa U (.var i)=λY=>eG i Y[i]?:=by show funext λ_=>rfl
      rw[e];show hV O hi p
     ·cases h
   |Constant v k u=>show D7 U h
   |BinOp a A b u=>
    dsimp only[cE] at h;split at h
    ·ext j y o z;cases h
     first|(show eU λ_=>rfl)|(rw[show aa U (.bin _ j y)=λY=>w8 _ (aa U j Y) (aa U y Y) from funext λ_=>rfl];show GW (l _ _ o) (l _ _ z))
    ·cases h
   |Compare a B S u=>
    rcases sZ (show rc (cE fns n c) a B S=Pj w from h) with⟨A,b,j,y,rfl,rfl,E,o,z,rfl⟩|⟨A,T,b,d,j,y,N,rfl,rfl,E,o,z,K,rfl⟩
    ·first|(show eU λ_=>rfl)|(rw[show aa U (.cmp _ j y)=λY=>bV (kB _ (aa U j Y) (aa U y Y)) from funext λ_=>rfl];show GX O E (l _ _ o) (l _ _ z))
    ·first|(show eU λ_=>rfl)|(rw[show aa U (.chain _ _ j y N)=λY=>bV (ff _ _ (aa U j Y) (aa U y Y) (aa U N Y)) from funext λ_=>rfl];show z5 O E (l _ _ o) (l _ _ z) (l _ _ K))
   |UnaryOp A a u=>cases A with
    |USub=>
     obtain⟨j,o,rfl⟩:=aY (show(cE fns n c a).map .neg=Pj w from h)
     first|(show eU λ_=>rfl)|(rw[show aa U (.neg j)=λY=>oNeg (aa U j Y) from funext λ_=>rfl];show s_neg (l _ _ o))
    |Not=>
     obtain⟨j,o,rfl⟩:=aY (show(cE fns n c a).map .not=Pj w from h)
     first|(show eU λ_=>rfl)|(rw[show aa U (.not j)=λY=>bV ((d7 (aa U j Y)).map (!·)) from funext λ_=>rfl];show GY (l _ _ o))
    |_=>cases h
   |BoolOp A F u=>
    obtain⟨j,o,rfl⟩:=aY (show(dq (cE fns n c) F).map (.bool A)=Pj w from h)
    first|(show eU λ_=>rfl)|(rw[show aa U (.bool _ j)=kN U _ j from funext λ_=>rfl];show sW U l _ _ o)
   |IfExp t a b u=>
    dsimp only[cE] at h;split at h
    ·ext t' j y ht o z;cases h
     first|(show eU λ_=>rfl)|(rw[show aa U (.ifx t' j y)=λY=>GZ (aE U t' Y) (aa U j Y) (aa U y Y) from funext λ_=>rfl];show J1 (R _ _ ht) (l _ _ o) (l _ _ z))
    ·cases h
   |List F p=>
    obtain⟨j,o,rfl⟩:=aY (show(dH (cE fns n c) F).map (.lst (fns.kL p))=Pj w from h)
    first|(show eU λ_=>rfl)|(rw[show aa U (.lst _ j)=λY=>m6 _ (aP U j Y) from funext λ_=>rfl];show G0 (fW U l o).1)
   |Tuple F k p=>
    obtain⟨j,o,rfl⟩:=aY (show(dH (cE fns n c) F).map (.tup (fns.kT p))=Pj w from h)
    first|(show eU λ_=>rfl)|(rw[show aa U (.tup _ j)=λY=>hZq _ (aP U j Y) from funext λ_=>rfl];show G3 (fW U l o).1)
   |Dict W vs p=>cases W with
    |cons k hc=>
     dsimp only[cE] at h;split at h
     ·split at h
      ·show xC U l h
      obtain⟨k',v',j,y,e1,rfl,o,z,rfl⟩:=xA h;cases e1
      first|(show eU λ_=>rfl)|(rw[show ∀m,aa U (.dspT m j y)=λY=>oDspT m (aa U j Y) (aa U y Y) by intro m;show funext λ_=>rfl];show s_dspT O (l _ _ o) (l _ _ z))
     ·show xC U l h
    |nil=>cases vs with
     |cons _ _=>cases h
     |nil=>
      let dn:∀t r,SndE X (aa U (.dnew t r)) (.Dict [] [] p):=λt r=>by
       first|(show eU λ_=>rfl)|(rw[show aa U (.dnew t r)=λ_=>xo t r from funext λ_=>rfl];show D6)
      dsimp only[cE] at h;cases h
      split<;>show dn _ _
   |Subscript a b u=>show D8 fns U O l h
   |Attribute a f u=>
    dsimp only[cE] at h;split at h
    ·ext z;obtain⟨j,o,rfl⟩:=aY h
     first|(show eU λ_=>rfl)|(rw[show aa U (.fld f j)=λY=>xa f (aa U j Y) from funext λ_=>rfl];show G4 (cX z) (l _ _ o))
    ·cases h
   |Call g as W u=>show Hu fns U O l h
   |ListComp he gs V u=>show Hv fns U O C D h
   |_=>cases h
  ·let l:=C X c O;let R:=D X c O
   cases e with
   |Compare a B S u=>
    rcases sZ (show rc (cE fns n c) a B S=Pj w from h) with⟨A,b,j,y,rfl,rfl,E,o,z,rfl⟩|⟨A,T,b,d,j,y,N,rfl,rfl,E,o,z,K,rfl⟩
    ·first|(show Au λ_=>rfl)|(rw[show aE U (.cmp _ j y)=λY=>kB _ (aa U j Y) (aa U y Y) from funext λ_=>rfl];show dF O E (l _ _ o) (l _ _ z))
    ·first|(show Au λ_=>rfl)|(rw[show aE U (.chain _ _ j y N)=λY=>ff _ _ (aa U j Y) (aa U y Y) (aa U N Y) from funext λ_=>rfl];show t_chain O E (l _ _ o) (l _ _ z) (l _ _ K))
   |UnaryOp A a u=>cases A with
    |Not=>
     obtain⟨j,o,rfl⟩:=aY (show(cT fns n c a).map .not=Pj w from h)
     first|(show Au λ_=>rfl)|(rw[show aE U (.not j)=λY=>(aE U j Y).map (!·) from funext λ_=>rfl];show fj (R _ _ o))
    |_=>cases h
   |BoolOp A F u=>
    obtain⟨j,o,rfl⟩:=aY (show(dq (cT fns n c) F).map (.bool A)=Pj w from h)
    first|(show Au λ_=>rfl)|(rw[show aE U (.bool _ j)=fu U _ j from funext λ_=>rfl];show λY b h g Z H Q se q=>λL s I=>sX U R _ _ o Y b h g Z H Q se q _ L s I)
   |Name x p=>
    obtain⟨P,M⟩:=kO (show jC (cE fns n c _)=Pj w from h);rw[ng M];show w9 (l _ _ P) (λ_=>rfl)
   |Call g as W p=>
    obtain⟨P,M⟩:=kO (show jC (cE fns n c _)=Pj w from h);rw[ng M];show w9 (l _ _ P) (λ_=>rfl)
   |Subscript a b p=>
    obtain⟨P,M⟩:=kO (show jC (cE fns n c _)=Pj w from h);rw[ng M];show w9 (l _ _ P) (λ_=>rfl)
   |_=>cases h
end
structure Evo(g:Gh)(H:Hp)(g':Gh)(H':Hp)(F:Pr):Prop where
 keep:∀b o,(∀i,g b≠Pj (Pj i))->H b=Pj o->H' b=Pj o
 out:∀b,g b=Pj Pl↔g' b=Pj Pl
 new:∀b i,g' b=Pj (Pj i)->(∃j,g b=Pj (Pj j))\/H b=Pl
 tmp:∀b,F b->g' b=Pl/\((∃j,g b=Pj (Pj j))\/H b=Pl)
 dom:∀b o,H b=Pj o->∃o',H' b=Pj o'
section
variable {K:Md} {H H' H1 H2:Hp} {g g' g1 g2:Gh} {F F1 F2:Pr}
theorem Evo.refl(g:Gh)(H:Hp):Evo g H g H (λ_=>False):=⟨λ_ _ _ e=>e,λ_=>Iff.rfl,λb i e=>.inl ⟨i,e⟩,λ_ z=>z.elim,λ_ o e=>⟨o,e⟩⟩
theorem Evo.froz(e:Evo g H g' H' F)(h:H b=Pj o)(n:g b=Pl):g' b=Pl/\¬F b:=by
 show⟨?_,λz=>?_⟩
 ·cases q:g' b with
  |none=>rfl
  |some x=>
   cases x with
   |none=>have:=(e.out b).mpr q;rw[n] at this;cases this
   |some i=>
    rcases e.new b i q with⟨j,q⟩|q
    ·rw[n] at q;cases q
    ·rw[h] at q;cases q
 ·rcases(e.tmp b z).2 with⟨j,q⟩|q
  ·rw[n] at q;cases q
  ·rw[h] at q;cases q
open Classical in
noncomputable def Gh.minus(g:Gh)(F:Pr):Gh:=λb=>if F b then Pl else g b
theorem ik(h:F b):g.minus F b=Pl:=by unfold Gh.minus;rw[if_pos h]
theorem bG(h:¬F b):g.minus F b=g b:=by unfold Gh.minus;rw[if_neg h]
theorem kQ(h:g.minus F b=Pj x):g b=Pj x/\¬F b:=by
 unfold Gh.minus at h;split at h
 ·cases h
 ·ext n;show⟨h,n⟩
theorem bU(h:¬F b):g.plus F b=g b:=by unfold Gh.plus;rw[if_neg h]
theorem Evo.trans(a:Evo g H g1 H1 F1)(b:Evo (g1.plus F1) H1 g2 H2 F2):Evo g H (g2.minus F1) H2 (λb=>F1 b\/F2 b):=by
 let f:∀c,¬F1 c->∀j,(g1.plus F1) c=Pj (Pj j)->(∃k,g c=Pj (Pj k))\/H c=Pl:=λc n j e=>by
  rw[bU n] at e;show a.new c j e
 let m:∀c,H1 c=Pl->H c=Pl:=λc q=>by
  cases e:H c with
  |none=>rfl
  |some o=>obtain⟨v,p⟩:=a.dom c o e;rw[q] at p;cases p
 show⟨λc o n e=>?_,λc=>⟨λq=>?_,λq=>?_⟩,λc i q=>?_,λc z=>?_,λc o e=>?_⟩
 ·show b.keep c o (λi q=>?_) (a.keep c o n e);let t:=bL q;rcases a.new c i t with⟨j,q⟩|q
  ·show n j q
  ·rw[e] at q;cases q
 ·let d:¬F1 c:=λz=>by
   have:=(a.tmp c z).1;rw[(a.out c).mp q] at this;cases this
  rw[bG d];show(b.out c).mp (by rw[bU d];show(a.out c).mp q)
 ·obtain⟨l,d⟩:=kQ q;have:=(b.out c).mpr l;rw[bU d] at this;show(a.out c).mpr this
 ·obtain⟨l,d⟩:=kQ q;rcases b.new c i l with⟨j,q⟩|q
  ·show f c d j q
  ·show .inr (m c q)
 ·rcases z with z|z
  ·show⟨ik z,(a.tmp c z).2⟩
  ·obtain⟨s,r⟩:=b.tmp c z;by_cases h:F1 c
   ·show⟨ik h,(a.tmp c h).2⟩
   ·show⟨by rw[bG h];show s,?_⟩;rcases r with⟨j,q⟩|q
    ·show f c h j q
    ·show .inr (m c q)
 ·obtain⟨u,e1⟩:=a.dom c o e;show b.dom c u e1
theorem VR1.evo(l:bA kd=Po)(b:Evo (g1.plus F1) H1 g2 H2 F2)(h:VR1 K H1 g1 F1 kd d v F1):VR1 K H2 (g2.minus F1) (λc=>F1 c\/F2 c) kd d v F1:=by
 let f:∀c o,(¬Sx g1 F1 c\/F1 c)->H1 c=Pj o->H2 c=Pj o:=λc o n e=>by
  show b.keep c o (λi q=>?_) e;rcases n with n|n
  ·show n (.inl (by rw[bL q];simp))
  ·rw[aV n] at q;cases q
 let g:∀c o,H1 c=Pj o->¬Sx g1 F1 c->¬Sx (g2.minus F1) (λc=>F1 c\/F2 c) c:=λc o e n z=>by
  let a:¬F1 c:=λz=>n (.inr z)
  let j:(g1.plus F1) c=Pl:=by
   rw[bU a]
   cases q:g1 c with
   |none=>rfl
   |some x=>show absurd (.inl (by rw[q];simp)) n
  obtain⟨m,f2⟩:=b.froz e j;rcases z with z|z|z
  ·rw[bG a] at z;show z m
  ·show a z
  ·show f2 z
 cases kd with
 |sh=>show⟨h.1,h.2.go λc o n e=>⟨f c o (.inl n) e,g c o e n⟩⟩
 |fr k=>show Tr.go f g h
 |bo i k=>cases l
theorem Ed(b:Evo (g1.plus F1) H1 g2 H2 F2)(c:Ps):Sx (g2.minus F1) (λc=>F1 c\/F2 c) c↔Sx g2 F2 c:=by
 by_cases h:F1 c
 ·have:g2 c=Pj Pl:=(b.out c).mp (aV h);show⟨λ_=>.inl (by rw[this];simp),λ_=>.inr (.inl h)⟩
 ·show⟨λz=>z.elim (λz=>.inl (by rw[bG h] at z;show z)) λz=>z.elim (λz=>absurd z h) .inr,λz=>z.elim (λz=>.inl (by rw[bG h];show z)) λz=>.inr (.inr z)⟩
theorem il(b:Evo (g1.plus F1) H1 g2 H2 F2):(g2.minus F1).plus (λc=>F1 c\/F2 c)=g2.plus F2:=by
 funext c;by_cases a:F2 c
 ·rw[aV a,aV (.inr a)]
 ·by_cases h:F1 c
  ·rw[aV (.inl h),bU a];show((b.out c).mp (aV h)).symm
  ·rw[bU a,bU (λz=>z.elim h a),bG h]
theorem VR1.evoR(b:Evo (g1.plus F1) H1 g2 H2 F2)(h:VR1 K H2 g2 F2 kd d v F):VR1 K H2 (g2.minus F1) (λc=>F1 c\/F2 c) kd d v F:=by
 let a:∀c o,H2 c=Pj o->¬Sx g2 F2 c->¬Sx (g2.minus F1) (λc=>F1 c\/F2 c) c:=λc o _ n z=>n ((Ed b c).mp z)
 cases kd with
 |sh=>show⟨h.1,h.2.go λc o n e=>⟨e,a c o e n⟩⟩
 |fr k=>show Tr.go (λ_ _ _ e=>e) a h
 |bo i k=>
  obtain⟨l,m,f,j⟩:=h;show⟨l,m,λc z=>?_,Tr.go (λ_ _ _ e=>e) a j⟩;rw[bG (λg=>?_)]
  ·show f c z
  ·have:=f c z;rw[(b.out c).mp (aV g)] at this;cases this
theorem VRL.evoR(b:Evo (g1.plus F1) H1 g2 H2 F2):∀{kds:List KD} {vs:List V} {F:Pr},VRL K H2 g2 F2 kds vs F->VRL K H2 (g2.minus F1) (λc=>F1 c\/F2 c) kds vs F
 |[],_,_,h=>h
 |(kd,d)::r,_,_,h=>by
  obtain⟨y,j,f,a,e,k,g,l,i⟩:=h;show⟨y,j,f,a,e,k,g,l.evoR b,VRL.evoR b i⟩
theorem pb(k:bA kd=Po)(a:Evo g H g1 H1 F1)(h:VR1 K H1 g1 F1 kd d v F1)(b:Evo (g1.plus F1) H1 g2 H2 F2)(j:SE K (g2.plus F2) Y2 Z H2)(i:VRL K H2 g2 F2 kds vs F2) :
  Evo g H (g2.minus F1) H2 (λc=>F1 c\/F2 c)/\SE K ((g2.minus F1).plus (λc=>F1 c\/F2 c)) Y2 Z H2/\VRL K H2 (g2.minus F1) (λc=>F1 c\/F2 c) ((kd,d)::kds) (v::vs) (λc=>F1 c\/F2 c):=by
 show⟨a.trans b,by rw[il b];show j,v,vs,F1,F2,rfl,λc=>Iff.rfl,λc e f=>?_,h.evo k b,i.evoR b⟩;have:=(b.out c).mp (aV e);rw[(b.tmp c f).1] at this;cases this
end
abbrev MR:=Option (Kd×D×Ro)
def bh(X:Cx)(f:Ro->MR)(e:Pp):Prop:=∀Y q d Y',f Y=Pj (q,d,Y')->∀g Z H Q,SE X.K g Y Z H->
 (∀v g' H' F,Evo g H g' H' F->SE X.K (g'.plus F) Y' Z H'->VR1 X.K H' g' F q d v F->Q v H')->wE X e Z H Q
def pc(X:Cx)(f:Ro->Option (List KD×Ro))(es:List Pp):Prop:=∀Y kds Y',f Y=Pj (kds,Y')->∀g Z H Q,SE X.K g Y Z H->
 (∀vs g' H' F,Evo g H g' H' F->SE X.K (g'.plus F) Y' Z H'->VRL X.K H' g' F kds vs F->Q vs H')->wA X es Z H Q
def ip(X:Cx)(f:Ro->Option (Bool×Ro))(e:Pp):Prop:=∀Y b Y',f Y=Pj (b,Y')->∀g Z H Q,SE X.K g Y Z H->
 (∀g' H',Evo g H g' H' (λ_=>False)->SE X.K g' Y' Z H'->Q b H')->wT X e Z H Q
section
variable {X:Cx}
theorem cc{g:Gh}{H H':Hp}{F:Pr}(s:Same H H')(c:∀b,F b->H b=Pl)(a:∀b,F b->g b=Pl):Evo g H g H' F:=
 ⟨λb o _ e=>s b o e,λ_=>Iff.rfl,λb i e=>.inl ⟨i,e⟩,λb z=>⟨a b z,.inr (c b z)⟩,λb o e=>⟨o,s b o e⟩⟩
theorem dI{g:Gh}{H:Hp}(m:MuOk H (Sg g))(h:H b=Pl):g b=Pl:=by
 cases e:g b with
 |none=>rfl
 |some x=>obtain⟨o,q,_⟩:=m b (by rw[Sg,e];simp);rw[h] at q;cases q
theorem SndE.m{f:Ro->Option KD}(h:SndE X f e):bh X (λY=>(f Y).map λp=>(p.1,p.2,Y)) e:=by
 intro Y o d r a g Z H Q j q;dsimp only at a
 cases c:f Y with
 |none=>rw[c] at a;cases a
 |some p=>
  rw[c] at a;cases a;show h Y p.1 p.2 c g Z H Q j λv n s l=>?_;obtain⟨F,i,k⟩:=l;show q v g n F (cc s i λb z=>dI j.mu (i b z)) (j.plus s i k.dom) k
theorem SndT.m{f:Ro->Option Bool}(h:SndT X f e):ip X (λY=>(f Y).map λp=>(p,Y)) e:=by
 intro Y b j a g Z H Q d q;dsimp only at a
 cases c:f Y with
 |none=>rw[c] at a;cases a
 |some p=>
  rw[c] at a;cases a;show h Y b c g Z H Q d λi s=>q g i (cc s (λ_ z=>z.elim) λ_ z=>z.elim) (d.same s)
def dJ(q:Kd)(d:D):Kd:=match q with
 |.bo i k=>if qL d=Pm then .sh else .bo i k
 |k=>k
theorem VR1.im{g:Gh}(m:MuOk H (Sg (g.plus F)))(h:VR1 K H g F kd d v F):VR1 K H g F (dJ kd d) d v F:=by
 cases kd with
 |sh=>show h
 |fr k=>show h
 |bo i k=>
  unfold dJ;dsimp only;split
  ·ext a;show⟨h.1,h.rd.im (λb z=>m b ((al b).mpr z)) a⟩
  ·show h
def gH(a:MR)(r:Ro->Option (List KD×Ro)):Option (List KD×Ro):=match a with
 |some (kd,d,Y1)=>if bA (dJ kd d)=Pm then Pl else(match r Y1 with|some (kds,Y2)=>Pj ((dJ kd d,d)::kds,Y2)|none=>Pl)
 |none=>Pl
theorem Ay{k:Ro->MR}(m:ae e=Pm)(y:bh X k e)(l:pc X fr es):pc X (λY=>gH (k Y) fr) (e::es):=by
 intro Y w C h g Z H Q E q;dsimp only[gH] at h;split at h
 ·ext u d j e1;split at h
  ·cases h
  ·ext p;split at h
   ·ext a F e2;cases h;show kt (bf au cU (ai m)) (y Y u d j e1 g Z H _ E λv x n t c b B=>l j a C e2 (x.plus t) Z n _ b λr K D I f i o=>?_);obtain⟨A,z,s⟩:=pb (by simpa using p) c (B.im b.mu) f i o;show q (v::r) _ D _ A z s
   ·cases h
 ·cases h
noncomputable def gq(a:MR)(r:Ro->Option (List KD)):Option (List KD×Ro):=match a with
 |some (kd,d,Y1)=>(match r Y1 with|some kds=>Pj ((kd,d)::kds,Y1)|none=>Pl)
 |none=>Pl
theorem tj{g g1:Gh}(a:Evo g H g1 H1 F1)(k:SE K (g1.plus F1) Y1 Z H1)(r:VR1 K H1 g1 F1 kd d v F1)(s:Same H1 H2)(m:VRs K (g1.plus F1) H1 H2 kds vs) :
  ∃F,Evo g H g1 H2 F/\SE K (g1.plus F) Y1 Z H2/\VRL K H2 g1 F ((kd,d)::kds) (v::vs) F:=by
 obtain⟨b,b1,b2⟩:=m
 let i:∀c,b c->g1 c=Pl/\¬F1 c:=λc z=>by
  have:=dI k.mu (b1 c z);by_cases h:F1 c
  ·rw[aV h] at this;cases this
  ·rw[bU h] at this;show⟨this,h⟩
 let t:∀c,H1 c=Pl->H c=Pl:=λc q=>by
  cases e:H c with
  |none=>rfl
  |some o=>obtain⟨f,j⟩:=a.dom c o e;rw[q] at j;cases j
 show⟨λc=>F1 c\/b c,⟨λc o n e=>s c o (a.keep c o n e),a.out,a.new,λc z=>z.elim (a.tmp c) λz=>⟨(i c z).1,.inr (t c (b1 c z))⟩,λc o e=>let ⟨f,q⟩:=a.dom c o e;⟨f,s c f q⟩⟩,?_,v,vs,F1,b,rfl,λc=>Iff.rfl,λc p l=>(i c l).2 p,?_,b2.unplus⟩
 ·rw[<- i5];show k.plus s b1 b2.dom
 ·show r.go s λc o e z=>z.elim id λz=>by rw[b1 c z] at e;cases e
theorem Ee{f:Ro->MR}(l:ae e=Pm)(t:bh X f e)(k:jL X fr es):pc X (λY=>gq (f Y) fr) (e::es):=by
 intro Y r j h g Z H Q z q;dsimp only[gq] at h;split at h
 ·ext p d B e1;split at h
  ·ext b e2;cases h;show kt (bf au cU (ai l)) (t Y p d j e1 g Z H _ z λv i o n c a x=>k j b e2 (i.plus n) Z o _ a λA y s2 s=>?_);obtain⟨F,w,u,m⟩:=tj c a x s2 s;show q (v::A) i y F w u m
  ·cases h
 ·cases h
open Classical in
noncomputable def lF(H:Hp)(F:Pr):Hp:=λb=>if F b then Pl else H b
theorem kR:Same (lF H F) H:=λb o e=>by
 unfold lF at e;split at e
 ·cases e
 ·show e
theorem rf{g:Gh}{F:Pr}(d:SE K (g.plus F) Y Z H)(c:∀b,F b->g b=Pl):MuOk (lF H F) (Sg g):=λb z=>by
 let f:¬F b:=λa=>z (c b a);obtain⟨o,e,n⟩:=d.mu b ((al b).mpr (.inl z));show⟨o,by unfold lF;rw[if_neg f];show e,n⟩
theorem xE{g g1:Gh}{H H1 H2:Hp}{F F2:Pr}(a:Evo g H g1 H1 F)(f:SE K (g1.plus F) Y1 Z H1)(s:Same H1 H2)(h1:∀b,F2 b->lF H1 F b=Pl)(t:∀b,F2 b->∃o,H2 b=Pj o/\∀xs,o≠.tup xs):Evo g H g1 H2 F2/\SE K (g1.plus F2) Y1 Z H2:=by
 let j:∀b,F2 b->F b\/H1 b=Pl:=λb z=>by
  have:=h1 b z;unfold lF at this;split at this
  ·ext q;show .inl q
  ·show .inr this
 let p:∀c,H1 c=Pl->H c=Pl:=λc q=>by
  cases e:H c with
  |none=>rfl
  |some o=>obtain⟨k,l⟩:=a.dom c o e;rw[q] at l;cases l
 let d:∀b,F2 b->g1 b=Pl:=λb z=>by
  rcases j b z with q|q
  ·show(a.tmp b q).1
  ·have:=dI f.mu q;by_cases h:F b
   ·rw[aV h] at this;cases this
   ·rw[bU h] at this;show this
 show⟨⟨λc o n e=>s c o (a.keep c o n e),a.out,a.new,λc z=>⟨d c z,(j c z).elim (λq=>(a.tmp c q).2) λq=>.inr (p c q)⟩,λc o e=>let ⟨k,q⟩:=a.dom c o e;⟨k,s c k q⟩⟩,?_⟩;show⟨λi r e=>?_,λb z=>?_,f.len⟩
 ·obtain⟨v,u,e1,e2,e3⟩:=f.slot i r e;show⟨v,u,e1,λb z=>?_,e3.go (λb o _ e=>s b o e) λb o e n z=>?_⟩
  ·have:=bL (e2 b z);show bT this λm=>by rw[d b m] at this;cases this
  ·rcases(al b).mp z with z|z
   ·show n ((al b).mpr (.inl z))
   ·rcases j b z with q|q
    ·show n ((al b).mpr (.inr q))
    ·rw[q] at e;cases e
 ·rcases(al b).mp z with z|z
  ·obtain⟨o,e,n⟩:=f.mu b ((al b).mpr (.inl z));show⟨o,s b o e,n⟩
  ·show t b z
theorem VRL.off(h:VRL K H g F kds vs F):VRs K g (lF H F) H kds vs:=⟨F,λb z=>by unfold lF;rw[if_pos z],h⟩
theorem StrictOk.m{f:List KD->Option KD}{j:Ro->Option (List KD×Ro)}(h:StrictOk X f es node)(s:pc X j es):bh X (λY=>(j Y).bind λp=>(f p.1).map λq=>(q.1,q.2,p.2)) node:=by
 intro Y E d B a g Z H Q A q;dsimp only at a
 cases e:j Y with
 |none=>rw[e] at a;cases a
 |some p=>
  obtain⟨c,C⟩:=p;rw[e] at a;dsimp only[MZ] at a
  cases e2:f c with
  |none=>rw[e2] at a;cases a
  |some r=>
   rw[e2] at a;cases a;show h c r.1 r.2 e2 Z H Q (s Y c _ e g Z H _ A λD l x F k i u=>⟨l,lF x F,rf i λb z=>(k.tmp b z).1,kR,u.off,λv w s2 n=>?_⟩);obtain⟨o,b1,b2⟩:=n;obtain⟨y,t⟩:=xE k i s2 b1 b2.dom;show q v l w o y t b2
end
abbrev kU:=Ow×D
abbrev Fm:=List kU->Option (Kd×D×List (Option kU))
noncomputable def Ef(p:kU):Option Sl:=Pj ⟨Po,p.1,p.2⟩
noncomputable def BM(p:Option kU):Option Sl:=p.map λp=>⟨Po,p.1,p.2⟩
def u9(K:Md)(B:Fm):Sp:=λvs H Q _=>∃ks g q d outs,SE K g (ks.map Ef) (vs.map Pj) H/\B ks=Pj (q,d,outs)/\
 ∀v g' H' F,Evo g H g' H' F->SE K (g'.plus F) (outs.map BM) (vs.map Pj) H'->VR1 K H' g' F q d v F->Q v H'
set_option genInjectivity true in
inductive RA where
 |ref (i:Nat)|val (kd:Kd) (d:D)
def VRA(K:Md)(H:Hp)(g:Gh)(Ft:Pr)(Z:L2.St):List RA->List V->Pr->Prop
 |[],vs,F=>vs=[]/\∀b,¬F b
 |.ref i::r,vs,F=>∃y ys,vs=y::ys/\Z[i]?=Pj (Pj y)/\VRA K H g Ft Z r ys F
 |.val kd d::r,vs,F=>∃y ys F1 F2,vs=y::ys/\(∀b,F b↔F1 b\/F2 b)/\(∀b,F1 b->¬F2 b)/\VR1 K H g Ft kd d y F1/\VRA K H g Ft Z r ys F2
def gr(X:Cx)(f:Ro->Option (List RA×Ro))(es:List Pp):Prop:=∀Y ras Y',f Y=Pj (ras,Y')->∀g Z H Q,SE X.K g Y Z H->
 (∀vs g' H' F,Evo g H g' H' F->SE X.K (g'.plus F) Y' Z H'->VRA X.K H' g' F Z ras vs F->Q vs H')->wA X es Z H Q
section
variable {K:Md} {H H1 H2:Hp} {g g1 g2:Gh} {F1 F2:Pr} {Z:L2.St}
theorem VRA.evoR(b:Evo (g1.plus F1) H1 g2 H2 F2):∀{ras:List RA} {vs:List V} {F:Pr},VRA K H2 g2 F2 Z ras vs F->VRA K H2 (g2.minus F1) (λc=>F1 c\/F2 c) Z ras vs F
 |[],_,_,h=>h
 |.ref i::r,_,_,h=>by
  obtain⟨y,f,e,e2,a⟩:=h;show⟨y,f,e,e2,VRA.evoR b a⟩
 |.val kd d::r,_,_,h=>by
  obtain⟨y,f,j,g,e,k,l,m,a⟩:=h;show⟨y,f,j,g,e,k,l,m.evoR b,VRA.evoR b a⟩
theorem aW{g:Gh}{F:Pr}(h:∀b,¬F b):g.plus F=g:=by
 funext b;show bU (h b)
end
section
variable {X:Cx}
theorem BN:gr X (λY=>Pj ([],Y)) []:=by
 intro Y a c h g Z H Q b q;cases h;show kt de (q [] g H (λ_=>False) (.refl g H) ?_ ⟨rfl,λ_ z=>z⟩);rw[aW λ_ z=>z];show b
noncomputable def l8(i:Nat)(o:Option (Option Sl))(r:Option (List RA×Ro)):Option (List RA×Ro):=match o,r with
 |some (Pj _),Pj (ras,Y')=>Pj (.ref i::ras,Y')
 |_,_=>Pl
theorem Hw(O:am X U c){i:Nat}{fr:Ro->Option (List RA×Ro)}(a:e7 c x=Pj i)(n:gr X fr es):gr X (λY=>l8 i Y[i]? (fr Y)) (.Name x p::es):=by
 intro Y o u h g Z H Q l q;dsimp only[l8] at h;split at h
 ·ext z d y e1 e2;cases h;let b:SndE X (λY=>eG i Y[i]?) (.Name x p):=hV O a p;obtain⟨k,e,_⟩:=l.get e1
  -- the name gives that very value
  show kt (bf au cU (ai rfl)) ?_;unfold e7 at a;split at a
  ·ext j t;split at a
   ·ext b;cases a;simp only[Me,m5,NE] at b;show ao (qi (by rw[O.N];show aX t) (by rw[O.sc];show m4 b.1) b.2.1 b.2.2) ⟨k,e,?_⟩;show n Y d u e2 g Z H _ l λm s v F w f r=>q (k::m) s v F w f ⟨k,m,rfl,e,r⟩
   ·cases a
  ·cases a
 ·cases h
def tq(a:MR)(r:Ro->Option (List RA×Ro)):Option (List RA×Ro):=match a with
 |some (kd,d,Y1)=>if bA (dJ kd d)=Pm then Pl else(match r Y1 with|some (ras,Y2)=>Pj (.val (dJ kd d) d::ras,Y2)|none=>Pl)
 |none=>Pl
theorem xF{l:Ro->MR}(s:ae e=Pm)(B:bh X l e)(o:gr X fr es):gr X (λY=>tq (l Y) fr) (e::es):=by
 intro Y r D h g Z H Q F q;dsimp only[tq] at h;split at h
 ·ext z d k e1;split at h
  ·cases h
  ·ext w;split at h
   ·ext b I e2;cases h;show kt (bf au cU (ai s)) (B Y z d k e1 g Z H _ F λv A t n i f C=>o k b D e2 (A.plus n) Z t _ f λm K E y a j u=>?_);show q (v::m) _ E _ (i.trans a) (by rw[il a];show j) ⟨v,m,n,y,rfl,λc=>Iff.rfl,λc x p=>?_,(C.im f.mu).evo (by simpa using w) a,u.evoR a⟩;have:=(a.out c).mp (aV x);rw[(a.tmp c p).1] at this;cases this
   ·cases h
 ·cases h
end
noncomputable def cK:List RA->List Nat
 |[]=>[]
 |.ref i::r=>i::cK r
 |.val _ _::r=>cK r
def eJ(Y:Ro):List RA->Option (List kU)
 |[]=>Pj []
 |.ref i::r=>match Y[i]?,eJ Y r with
  |some (Pj ⟨Po,k,d⟩),Pj ks=>Pj ((k,d)::ks)
  |_,_=>Pl
 |.val kd d::r=>if bA kd=Pm then Pl else(eJ Y r).map ((.fz,d)::·)
noncomputable def cP:List RA->Ro->Ro->Ro
 |.ref i::r,o::os,Y=>cP r os (Y.set i o)
 |.val _ _::r,_::os,Y=>cP r os Y
 |_,_,Y=>Y
noncomputable def nj(ras:List RA)(i:Nat):Option Nat:=ras.findIdx? λa=>match a with|.ref j=>j==i|_=>Po
def Az(B:Option Fm)(a:Option (List RA×Ro)):MR:=match B,a with
 |some B,Pj (ras,Y)=>if(cK ras).Nodup then(match eJ Y ras with
  |some ks=>(match B ks with
   |some (kd,d,outs)=>if bA kd=Pm\/outs.length≠ras.length then Pl else Pj (kd,d,cP ras (outs.map BM) Y)
   |none=>Pl)
  |none=>Pl) else Pl
 |_,_=>Pl
section
theorem gI{Y:Ro}:∀{ras:List RA} {ks:List kU},eJ Y ras=Pj ks->ks.length=ras.length/\∀(j:Nat) a,ras[j]?=Pj a->∃k d,ks[j]?=Pj (k,d)/\(match a with|.ref i=>Y[i]?=Pj (Pj ⟨Po,k,d⟩)|.val kd d'=>k=.fz/\d=d'/\bA kd=Po)
 |[],ks,h=>by cases h;show⟨rfl,λj a e=>by simp at e⟩
 |.ref i::r,ks,h=>by
  unfold eJ at h;split at h
  ·ext k d b e1 e2;cases h;obtain⟨l,g⟩:=gI e2;show⟨by simp[l],λj a e=>?_⟩
   cases j with
   |zero=>simp at e;subst e;show⟨k,d,rfl,e1⟩
   |succ j=>simpa using g j a (by simpa using e)
  ·cases h
 |.val kd d::r,ks,h=>by
  unfold eJ at h;split at h
  ·cases h
  ·ext c;obtain⟨b,e,rfl⟩:=aY h;obtain⟨l,g⟩:=gI e;show⟨by simp[l],λj a e=>?_⟩
   cases j with
   |zero=>simp at e;subst e;show⟨.fz,d,rfl,rfl,rfl,by simpa using c⟩
   |succ j=>simpa using g j a (by simpa using e)
theorem iq:∀{ras:List RA} {i j:Nat},nj ras i=Pj j->ras[j]?=Pj (.ref i)
 |[],i,j,h=>by simp[nj] at h
 |a::r,i,j,h=>by
  unfold nj at h;rw[MV] at h
  cases a with
  |ref k=>
   by_cases e:k=i
   ·subst e;simp at h;subst h;rfl
   ·let c:(k==i)=Po:=by simpa using e
    simp only[c] at h;obtain⟨f,b,rfl⟩:=aY (by simpa using h);simpa using iq (by unfold nj;show b)
  |val g d=>
   simp only at h;obtain⟨f,b,rfl⟩:=aY (by simpa using h);simpa using iq (by unfold nj;show b)
theorem fw:∀{ras:List RA} {j i:Nat},ras[j]?=Pj (.ref i)->i∈cK ras
 |[],_,_,h=>by simp at h
 |a::r,0,i,h=>by simp at h;subst h;show MD
 |.ref k::r,j+1,i,h=>Mt _ (fw (by simpa using h))
 |.val kd d::r,j+1,i,h=>fw (ras:=r) (by simpa using h)
theorem rg:∀{ras:List RA} {j i:Nat},(cK ras).Nodup->ras[j]?=Pj (.ref i)->nj ras i=Pj j
 |[],_,_,_,h=>by simp at h
 |.ref k::r,0,i,_,h=>by simp at h;subst h;simp[nj,MV]
 |.val kd d::r,0,i,_,h=>by simp at h
 |.ref k::r,j+1,i,hn,h=>by
  let c:=fw (by simpa using h);let b:k∉cK r/\(cK r).Nodup:=Mw.mp hn
  let e:(k==i)=Po:=by
   simp only[beq_eq_false_iff_ne,ne_eq];intro z;subst z;show b.1 c
  let a:=rg b.2 (by simpa using h:r[j]?=Pj (.ref i));unfold nj at a⊢;rw[MV];simp only[e,a];rfl
 |.val kd d::r,j+1,i,hn,h=>by
  let a:=rg (ras:=r) hn (by simpa using h:r[j]?=Pj (.ref i));unfold nj at a⊢;rw[MV];simp only[a];rfl
theorem i9:∀{ras:List RA} {outs:Ro} {Y:Ro},(cP ras outs Y).length=Y.length
 |[],_,_=>rfl
 |.ref i::r,[],_=>rfl
 |.val _ _::r,[],_=>rfl
 |.ref i::r,o::os,Y=>by simp only[cP];rw[i9];simp
 |.val _ _::r,o::os,Y=>by simp only[cP];show i9
theorem ja:∀{ras:List RA} {outs:Ro} {Y:Ro},(cK ras).Nodup->outs.length=ras.length->∀(i:Nat) b,(cP ras outs Y)[i]?=Pj (Pj b)->(i∉cK ras/\Y[i]?=Pj (Pj b))\/∃(j:Nat),ras[j]?=Pj (RA.ref i)/\outs[j]?=Pj (Pj b)
 |[],outs,Y,_,_,i,b,h=>by cases outs<;>show .inl ⟨by simp[cK],h⟩
 |.ref k::r,[],Y,_,hl,i,b,h=>by simp at hl
 |.val kd d::r,[],Y,_,hl,i,b,h=>by simp at hl
 |.val kd d::r,o::os,Y,hn,hl,i,b,h=>by
  simp only[cP] at h;rcases ja (ras:=r) hn (by simpa using hl) i b h with⟨c,a⟩|⟨j,c,a⟩
  ·show .inl ⟨c,a⟩
  ·show .inr ⟨j+1,by simpa using c,by simpa using a⟩
 |.ref k::r,o::os,Y,hn,hl,i,b,h=>by
  simp only[cP] at h;let f:k∉cK r/\(cK r).Nodup:=Mw.mp hn;rcases ja f.2 (by simpa using hl) i b h with⟨c,a⟩|⟨j,c,a⟩
  ·by_cases e:i=k
   ·subst e
    let g:i<Y.length:=by
     have:=(Mg.mp a).1;simpa using this
    rw[MK g] at a;show .inr ⟨0,rfl,a⟩
   ·rw[MG (Ne.symm e)] at a;show .inl ⟨by simp only[cK,Mn,not_or];show⟨e,c⟩,a⟩
  ·show .inr ⟨j+1,by simpa using c,by simpa using a⟩
end
section
variable {K:Md} {H H1 H2:Hp} {g g1:Gh} {F:Pr} {Z:L2.St} {Y:Ro}
theorem VRA.get:∀{ras:List RA} {vs:List V} {F:Pr},VRA K H g Ft Z ras vs F->vs.length=ras.length/\∀(j:Nat) a,ras[j]?=Pj a->∃y,vs[j]?=Pj y/\(match a with|.ref i=>Z[i]?=Pj (Pj y)|.val kd d=>∃f:Pr,(∀b,f b->F b)/\VR1 K H g Ft kd d y f)
 |[],vs,F,h=>by obtain⟨rfl,_⟩:=h;show⟨rfl,λj a e=>by simp at e⟩
 |.ref i::r,vs,F,h=>by
  obtain⟨y,s,rfl,e,k⟩:=h;obtain⟨l,q⟩:=VRA.get k;show⟨by simp[l],λj a c=>?_⟩
  cases j with
  |zero=>simp at c;subst c;show⟨y,rfl,e⟩
  |succ j=>simpa using q j a (by simpa using c)
 |.val kd d::r,vs,F,h=>by
  obtain⟨y,s,n,u,rfl,m,v,t,k⟩:=h;obtain⟨l,q⟩:=VRA.get k;show⟨by simp[l],λj a c=>?_⟩
  cases j with
  |zero=>simp at c;subst c;show⟨y,rfl,n,λb z=>(m b).mpr (.inl z),t⟩
  |succ j=>
   obtain⟨o,e1,e2⟩:=q j a (by simpa using c);show⟨o,by simpa using e1,?_⟩
   cases a with
   |ref i=>show e2
   |val kd d=>obtain⟨f,p,f2⟩:=e2;show⟨f,λb z=>(m b).mpr (.inr (p b z)),f2⟩
theorem Hx{ks:List kU}{vs:List V}(x:(cK ras).Nodup)(C:eJ Y ras=Pj ks)(E:∀b,F b->g1 b=Pl)(w:SE K (g1.plus F) Y Z H1)(r:VRA K H1 g1 F Z ras vs F):SE K (g1.re (nj ras)) (ks.map Ef) (vs.map Pj) H1:=by
 obtain⟨u,N⟩:=gI C;obtain⟨D,I⟩:=r.get;let gS:∀b,Sg (g1.re (nj ras)) b->Sg (g1.plus F) b:=λb z=>(al b).mpr (.inl ((jO b).mp z));show⟨λj Q e=>?_,λb z=>w.mu b (gS b z),by simp[u,D]⟩;rw[Mj] at e
 cases l:ks[j]? with
 |none=>rw[l] at e;cases e
 |some p=>
  rw[l] at e;cases e;let B:j<ras.length:=by rw[<- u];show(Mg.mp l).1
  let q:ras[j]?=Pj ras[j]:=Ms B;obtain⟨k,d,g,m⟩:=N j _ q;rw[l] at g;cases g;obtain⟨y,t,h⟩:=I j _ q;generalize ras[j]=a at q m h
  cases a with
  |ref i=>
   let m:Y[i]?=Pj (Pj ⟨Po,k,d⟩):=m;let h:Z[i]?=Pj (Pj y):=h;obtain⟨v,L,e1,e2,e3⟩:=w.slot i _ m;rw[h] at e1;cases e1;show⟨y,L,by simp[t],λb z=>?_,e3.go (λ_ _ _ e=>e) λb o _ n z=>n (gS b z)⟩;unfold Gh.re;rw[bL (e2 b z)];change Pj (nj ras i)=_;rw[rg x q]
  |val f H=>
   obtain⟨rfl,rfl,A⟩:k=.fz/\d=H/\bA f=Po:=m;obtain⟨P,O,f2⟩:=h;show⟨y,λ_=>False,by simp[t],λb z=>z.elim,.fz ?_⟩;let s:∀b,Sg (g1.re (nj ras)) b->g1 b≠Pl:=λb z=>(jO b).mp z
   cases f with
   |sh=>show f2.2.weak λb z=>.inl (s b z)
   |fr c=>show Tr.rp (λb z=>⟨.inl (s b z),λM=>s b z (E b (O b M))⟩) f2
   |bo i c=>cases A
noncomputable def dr(g1 q:Gh)(ras:List RA):Gh:=λb=>match q b with
 |some (Pj j)=>(match ras[j]? with|some (.ref i)=>Pj (Pj i)|_=>Pl)
 |some Pl=>g1 b
 |none=>Pl
theorem AA{a:Gh}{ras:List RA}{j i:Nat}(h:a b=Pj (Pj j))(e:ras[j]?=Pj (.ref i)):dr g1 a ras b=Pj (Pj i):=by
 unfold dr;rw[h];dsimp only;rw[e]
theorem pe{a:Gh}(h:a b=Pj Pl):dr g1 a ras b=g1 b:=by unfold dr;rw[h]
theorem nk{a:Gh}(h:a b=Pl):dr g1 a ras b=Pl:=by unfold dr;rw[h]
theorem kW{a:Gh}{ras:List RA}(h:dr g1 a ras b=Pj x):(∃j i,a b=Pj (Pj j)/\ras[j]?=Pj (.ref i)/\x=Pj i)\/(a b=Pj Pl/\g1 b=Pj x):=by
 unfold dr at h;split at h
 ·ext j e;split at h
  ·ext i e2;cases h;show .inl ⟨j,i,e,e2,rfl⟩
  ·cases h
 ·ext e;show .inr ⟨e,h⟩
 ·cases h
theorem tu{m:Nat->Option Nat}(h:g.re m b=Pj (Pj j)):∃i,g b=Pj (Pj i)/\m i=Pj j:=by
 unfold Gh.re at h
 cases q:g b with
 |none=>simp[q] at h
 |some x=>
  cases x with
  |none=>simp[q] at h
  |some i=>simp[q] at h;show⟨i,rfl,h⟩
theorem Hy(h:g b=Pl):g.re m b=Pl:=by unfold Gh.re;rw[h]
theorem Kc(h:g b=Pj Pl):g.re m b=Pj Pl:=by unfold Gh.re;rw[h]
theorem Ke{m:Nat->Option Nat}(h:g b=Pj (Pj i)):g.re m b=Pj (m i):=by unfold Gh.re;rw[h]
theorem l9{ras:List RA}{l:Gh}{E:Ro}{V:L2.St}(hn:(cK ras).Nodup)(N:E.length=ras.length)(I:bA kd=Po)(a:Evo g H g1 H1 F)(X:SE K (g1.plus F) Y Z H1)(hZ:∀(j i:Nat) u w,ras[j]?=Pj (.ref i)->E[j]?=Pj (Pj u)->V[j]?=Pj (Pj w)->Z[i]?=Pj (Pj w))(m:Evo (g1.re (nj ras)) H1 l H2 Fr)(r:SE K (l.plus Fr) E V H2)(O:VR1 K H2 l Fr kd d v Fr) :
  Evo g H (dr g1 l ras) H2 Fr/\SE K ((dr g1 l ras).plus Fr) (cP ras E Y) Z H2/\VR1 K H2 (dr g1 l ras) Fr kd d v Fr:=by
 let D:∀c,H1 c=Pl->H c=Pl:=λc q=>by
  cases e:H c with
  |none=>rfl
  |some o=>obtain⟨o',R⟩:=a.dom c o e;rw[q] at R;cases R
 -- frozen ones stay so
 let A:∀b o,H1 b=Pj o->g1 b=Pl->dr g1 l ras b=Pl/\¬Fr b:=λb o e n=>by
  obtain⟨P,f2⟩:=m.froz e (Hy n);show⟨nk P,f2⟩
 let h:∀b i,g1 b=Pj (Pj i)->(∃j,g b=Pj (Pj j))\/H b=Pl:=λb i e=>a.new b i e
 let s:∀b j,l b=Pj (Pj j)->(∃k,g b=Pj (Pj k))\/H b=Pl:=λb j e=>by
  rcases m.new b j e with⟨k,q⟩|q
  ·obtain⟨i,f,_⟩:=tu q;show h b i f
  ·show .inr (D b q)
 let L:Evo g H (dr g1 l ras) H2 Fr:=by
  show⟨λb o n e=>?_,λb=>⟨λe=>?_,λe=>?_⟩,λb i e=>?_,λb z=>?_,λb o e=>?_⟩
  ·show m.keep b o (λj q=>?_) (a.keep b o n e);obtain⟨i,f,_⟩:=tu q;rcases a.new b i f with⟨k,p⟩|p
   ·show n k p
   ·rw[e] at p;cases p
  ·let e1:=(a.out b).mp e;let e2:=(m.out b).mp (Kc e1);rw[pe e2];show e1
  ·rcases kW e with⟨j,i,_,_,z⟩|⟨_,e1⟩
   ·cases z
   ·show(a.out b).mpr e1
  ·rcases kW e with⟨j,i',e1,_,_⟩|⟨_,e1⟩
   ·show s b j e1
   ·show h b i e1
  ·obtain⟨t1,t2⟩:=m.tmp b z;show⟨nk t1,?_⟩;rcases t2 with⟨j,q⟩|q
   ·obtain⟨i,f,_⟩:=tu q;show h b i f
   ·show .inr (D b q)
  ·obtain⟨o1,e1⟩:=a.dom b o e;show m.dom b o1 e1
 let t:∀b,Sg (dr g1 l ras) b->Sg l b:=λb z y=>z (nk y);show⟨L,⟨λi u e=>?_,λb z=>?_,by rw[i9];show X.len⟩,?_⟩
 ·rcases ja hn N i u e with⟨T,e1⟩|⟨j,U,S⟩
  ·-- a slot that was not eJ in
   obtain⟨w,Q,e2,e3,e4⟩:=X.slot i u e1
   let C:∀b,Q b->g1 b=Pj (Pj i)/\l b=Pj Pl:=λb z=>by
    let f:=bL (e3 b z);show⟨f,(m.out b).mp ?_⟩;rw[Ke f]
    cases p:nj ras i with
    |none=>rfl
    |some j=>show absurd (fw (iq p)) T
   show⟨w,Q,e2,λb z=>?_,e4.go (λb o B e=>m.keep b o (λj q=>?_) e) λb o e n z=>?_⟩
   ·obtain⟨l1,M⟩:=C b z;show bT (by rw[pe M];show l1) λy=>?_;rw[(m.tmp b y).1] at M;cases M
   ·obtain⟨k,f,p⟩:=tu q;rcases B with B|B
    ·show B ((al b).mpr (.inl (by rw[Sg,f];simp)))
    ·rw[(C b B).1] at f;cases f;show absurd (fw (iq p)) T
   ·let nF:g1 b=Pl:=by
     cases f:g1 b with
     |none=>rfl
     |some x=>show absurd ((al b).mpr (.inl (by rw[Sg,f];simp))) n
    obtain⟨P,f2⟩:=A b o e nF;rcases(al b).mp z with z|z
    ·show z P
    ·show f2 z
  ·-- one that was
   obtain⟨w,Fj,e2,e3,e4⟩:=r.slot j u S;show⟨w,Fj,hZ j i u w U S e2,λb z=>?_,e4.go (λ_ _ _ e=>e) λb o e n z=>?_⟩
   ·let f:=bL (e3 b z);show bT (AA f U) λy=>?_;rw[(m.tmp b y).1] at f;cases f
   ·rcases(al b).mp z with z|z
    ·show n ((al b).mpr (.inl (t b z)))
    ·show n ((al b).mpr (.inr z))
 ·rcases(al b).mp z with z|z
  ·show r.mu b ((al b).mpr (.inl (t b z)))
  ·show r.mu b ((al b).mpr (.inr z))
 ·let W:∀b o,H2 b=Pj o->¬Sx l Fr b->¬Sx (dr g1 l ras) Fr b:=λb o _ n z=>n (z.imp (t b) id)
  cases kd with
  |sh=>show⟨O.1,O.2.go λb o n e=>⟨e,W b o e n⟩⟩
  |fr k=>show Tr.go (λ_ _ _ e=>e) W O
  |bo i k=>cases I
theorem tw{Q:VK}(h:Az (Pj B) (Pj (ras,Y))=Pj (kd,d,Y2))(a:Evo g H g1 H1 F)(n:SE K (g1.plus F) Y Z H1)(r:VRA K H1 g1 F Z ras vs F)(q:∀v g' H' F',Evo g H g' H' F'->SE K (g'.plus F') Y2 Z H'->VR1 K H' g' F' kd d v F'->Q v H'):u9 K B vs H1 Q E:=by
 unfold Az at h;dsimp only at h;split at h
 ·ext l;split at h
  ·ext R x;split at h
   ·ext s T outs t;split at h
    ·cases h
    ·ext o;cases h
     let c:bA kd=Po:=by
      cases e:bA kd with
      |false=>rfl
      |true=>show absurd (.inl e) o
     let k:outs.length=ras.length:=Classical.byContradiction λz=>o (.inr z);show⟨R,g1.re (nj ras),kd,d,outs,Hx l x (λb z=>(a.tmp b z).1) n r,t,λv U O A C f P=>?_⟩;obtain⟨_,N⟩:=r.get
     obtain⟨M,L,I⟩:=l9 l (by rw[Mh];show k) c a n (λj i S w D _ p=>by
      obtain⟨y,u,m⟩:=N j _ D;let m:Z[i]?=Pj (Pj y):=m;rw[Mj,u] at p;cases p;show m) C f P
     show q v _ O A M L I
   ·cases h
  ·cases h
 ·cases h
end
noncomputable def clr(ps:List (Nat×D))(Y:Ro):Ro:=ps.foldl (λY p=>Y.set p.1 Pl) Y
noncomputable def xG(cap:List (Option Nat))(ps:List (Nat×D)):Bool:=ps.all λp=>match cap[p.1]? with|some Pl=>Pm|_=>Po
def gJ(cap:List (Option Nat))(tg:IT)(ft:Ro->Option (Bool×Ro))(B:Ro->MR)(d:D)(q:Ro):Option (Option KD×Ro):=match nZ tg d with
 |some ps=>if bY ps q=Pm/\xG cap ps=Pm then(match ft (setAll ps q) with
  |some (Pm,Yt)=>(match B Yt with|some (kd,d,Y1)=>Pj (Pj (dJ kd d,d),clr ps Y1)|none=>Pl)
  |some (Po,Yt)=>Pj (Pl,clr ps Yt)
  |none=>Pl) else Pl
 |none=>Pl
def aF(r:Ow)(f:D->Ro->Option (Option KD×Ro)):List D->Ro->Option (List D×Ro)
 |[],Y=>Pj ([],Y)
 |d::ds,Y=>match f d Y with
  |some (Pj kd,Y1)=>if bM r kd=Pm then(match aF r f ds Y1 with|some (ys,Y2)=>Pj (kd.2::ys,Y2)|none=>Pl) else Pl
  |some (Pl,Y1)=>aF r f ds Y1
  |none=>Pl
theorem gM:∀{a b:List D} {Y Y':Ro} {ys:List D},aF r f (a++b) Y=Pj (ys,Y')->∃x c y,aF r f a Y=Pj (x,c)/\aF r f b c=Pj (y,Y')/\ys=x++y
 |[],b,Y,Y',ys,h=>⟨[],Y,ys,rfl,h,rfl⟩
 |d::a,b,Y,Y',ys,h=>by
  rw[Ny] at h;unfold aF at h;split at h
  ·ext k c e1;split at h
   ·ext j;split at h
    ·ext m l e2;cases h;obtain⟨x,g,y,i,e,rfl⟩:=gM e2;show⟨k.2::x,g,y,by simp[aF,e1,i,j],e,rfl⟩
    ·cases h
   ·cases h
  ·ext c e1;obtain⟨x,g,y,i,e,rfl⟩:=gM h;show⟨x,g,y,by simp[aF,e1,i],e,rfl⟩
  ·cases h
theorem cG:∀{a:List D} {d:D} {x y:List D} {Y b c:Ro},aF r f a Y=Pj (x,b)->aF r f [d] b=Pj (y,c)->aF r f (a++[d]) Y=Pj (x++y,c)
 |[],d,x,y,Y,b,c,h,h1=>by cases h;show h1
 |e::a,d,x,y,Y,b,c,h,h1=>by
  unfold aF at h;rw[Ny];unfold aF;split at h
  ·ext l g e1;split at h
   ·ext i;split at h
    ·ext k j e2;cases h;rw[cG e2 h1];simp[i]
    ·cases h
   ·cases h
  ·ext g e1;show cG h h1
  ·cases h
theorem pf{f:D->Ro->Option (Option KD×Ro)}{ds ys:List D}(h:aF r f ds Y=Pj (ys,Y')){i:Nat}(e:ds[i]?=Pj d){x:List D}(j:aF r f (ds.take i) Y=Pj (x,Yi)) :
  (∃a,f d Yi=Pj (Pl,a)/\aF r f (ds.take (i+1)) Y=Pj (x,a))\/∃c a,f d Yi=Pj (Pj c,a)/\bM r c=Pm/\aF r f (ds.take (i+1)) Y=Pj (x++[c.2],a):=by
 let m:ds=ds.take i++(d::ds.drop (i+1)):=by
  obtain⟨o,rfl⟩:=Mg.mp e;rw[<- M0 o,OP]
 let n:ds.take (i+1)=ds.take i++[d]:=by rw[N2,e];rfl
 rw[m] at h;obtain⟨p,a,y,l,b,_⟩:=gM h;rw[j] at l;cases l;unfold aF at b;rw[n];split at b
 ·ext c g e1;split at b
  ·ext k;show .inr ⟨c,g,e1,k,cG j (by simp[aF,e1,k])⟩
  ·cases b
 ·ext g e1;show .inl ⟨g,e1,by simpa using cG j (y:=[]) (by simp[aF,e1])⟩
 ·cases b
theorem gN:∀{ds ys:List D} {Y Y':Ro},aF r f ds Y=Pj (ys,Y')->ys.length<=ds.length
 |[],ys,Y,Y',h=>by cases h;show Mi _
 |d::ds,ys,Y,Y',h=>by
  unfold aF at h;split at h
  ·ext e a e1;split at h
   ·split at h
    ·ext c b e2;cases h;have:=gN e2;simp;lia
    ·cases h
   ·cases h
  ·ext a e1;have:=gN h;simp;lia
  ·cases h
abbrev IR:=Option (List Nat×List D×Ro)
def jD(X:Cx)(f:Ro->IR)(tg iter:Pp):Prop:=∀Y bs ds q,f Y=Pj (bs,ds,q)->∀g Z H R,SE X.K g Y Z H->
 (∀J s g1 H1,Evo g H g1 H1 (λ_=>False)->SE X.K g1 q Z H1->i0 X.K J s ds->s.P X.K g1 H1->s.from g1 H1 bs->R J H1)->wI X tg iter Z H R
noncomputable def Je(a:Option (List Nat×List D))(Y:Ro):IR:=match a with|some (bs,ds)=>Pj (bs,ds,Y)|none=>Pl
theorem SndI.m{f:Ro->Option (List Nat×List D)}(h:SndI X f tg iter):jD X (λY=>Je (f Y) Y) tg iter:=by
 intro Y c l o a g Z H R b q;dsimp only[Je] at a;split at a
 ·ext d j e;cases a;show h Y c l e g Z H R b λJ s i s1 k sp n=>q J s g i (cc s1 (λ_ z=>z.elim) λ_ z=>z.elim) (b.same s1) k sp n.from_H
 ·cases a
noncomputable def jb(cap:List (Option Nat)):List RA:=cap.map λo=>match o with|some i=>.ref i|none=>.val .sh .non
def gO(r:Ow)(it:IR)(f:D->Ro->Option (Option KD×Ro))(cap:List (Option Nat)):MR:=match it with
 |some (bs,ds,Y)=>if bs=[]/\ds.length<=100000 then(match aF r f ds (aT Y cap) with|some (ys,Yc)=>if Yc.length=cap.length then Pj (.fr (.own [] r),.lst ys,cP (jb cap) Yc Y) else Pl|none=>Pl) else Pl
 |none=>Pl
theorem jc:∀cap:List (Option Nat),cK (jb cap)=cap.filterMap id
 |[]=>rfl
 |none::r=>by
  have:=jc r;simp only[jb,Mx,cK] at this⊢;simpa using this
 |some i::r=>by
  have:=jc r;simp only[jb,Mx,cK] at this⊢;simpa using this
theorem AB(cap:List (Option Nat))(i:Nat):nj (jb cap) i=i6 cap i:=by
 unfold nj i6 jb;rw[NQ];congr 1;funext o
 cases o with
 |none=>rfl
 |some k=>simp[Function.comp]
theorem SE.clr{H:Hp}:∀{ps:List (Nat×D)} {Y:Ro} {Z:L2.St},SE K g Y Z H->SE K g (clr ps Y) Z H
 |[],Y,Z,h=>h
 |p::ps,Y,Z,h=>by
  change SE K g (J.clr ps (Y.set p.1 Pl)) Z H;show SE.clr ⟨λi c e=>?_,h.mu,by simp[h.len]⟩;by_cases b:i=p.1
  ·subst b
   let a:p.1<Y.length:=by
    have:=(Mg.mp e).1;simpa using this
   rw[MK a] at e;cases e
  ·rw[MG (Ne.symm b)] at e;show h.slot i c e
theorem jW:∀{ps:List (Nat×D)} {vs:List (Nat×V)} {Z:L2.St} {j:Nat},RpP K H S ps vs->(∀p∈ps,p.1≠j)->(ig vs Z)[j]?=Z[j]?
 |[],vs,Z,j,h,_=>by rw[(h)];rfl
 |(i,d)::ps,vs,Z,j,h,hn=>by
  obtain⟨v,b,rfl,_,c⟩:=h;change(ig b (Z.set i (Pj v)))[j]?=_;rw[jW c λp a=>hn p (Mt _ a),MG (hn (i,d) MD)]
section
variable {X:Cx} {U:Tab} {c:Cz}
theorem Evo.drop{F F2:Pr}(a:Evo g H g' H' F)(h:∀b,F2 b->F b):Evo g H g' H' F2:=⟨a.keep,a.out,a.new,λb z=>a.tmp b (h b z),a.dom⟩
theorem SE.drop{g:Gh}{F F2:Pr}(c:SE K (g.plus F) Y Z H)(h:∀b,F2 b->F b)(f:∀b,F b->g b=Pl):SE K (g.plus F2) Y Z H:=by
 let a:∀b,Sg (g.plus F2) b->Sg (g.plus F) b:=λb z=>(al b).mpr (((al b).mp z).imp id (h b));show⟨λi j e=>?_,λb z=>c.mu b (a b z),c.len⟩;obtain⟨v,k,e1,e2,e3⟩:=c.slot i j e;show⟨v,k,e1,λb z=>?_,e3.go (λ_ _ _ e=>e) λb o _ n z=>n (a b z)⟩;let q:=bL (e2 b z);show bT q λd=>by rw[f b (h b d)] at q;cases q
theorem Evo.upd{H H':Hp}(a:Evo g H g' H' F)(d:H p=Pl):Evo g H g' (upd H' p o) F:=by
 show⟨λb c n e=>?_,a.out,a.new,a.tmp,λb c e=>?_⟩
 ·rw[ah (λz=>by rw[z,d] at e;cases e)];show a.keep b c n e
 ·obtain⟨f,e1⟩:=a.dom b c e;show⟨f,by rw[ah (λz=>by rw[z,d] at e;cases e)];show e1⟩
theorem xH(a:Evo g H g1 H1 (λ_=>False))(b:Evo g1 H1 g2 H2 F2):Evo g H g2 H2 F2:=by
 let t:=a.trans (by rw[aW λ_ z=>z];show b);let e1:g2.minus (λ_=>False)=g2:=by funext c;show bG λz=>z
 rw[e1] at t;show t.drop λc z=>.inr z
def kX(X:Cx)(f:Ro->Option (Bool×Ro))(ifs:List Pp):Prop:=∀Y b Y',f Y=Pj (b,Y')->∀g Z H Q,SE X.K g Y Z H->(∀g' H',Evo g H g' H' (λ_=>False)->SE X.K g' Y' Z H'->Q b H')->DW X ifs Z H Q
theorem Eg:kX X (λY=>Pj (Pm,Y)) []:=λY b c h g Z H Q a q=>by cases h;show nc sC (q g H (.refl g H) a)
theorem Eh{e:Pp}(h:ip X f e):kX X f [e]:=λY b a d g Z H Q c q=>nc (sD hJ) (h Y b a d g Z H Q c q)
theorem tz{K:Md}{g' h s:Gh}{H1 H2 k:Hp}{D:Ps}{a:Pr}{us:List V}{t:List J.D}{r:Ow}(m:Evo g' H1 h H2 (λb=>b=D\/a b))(A:¬a D)(w:H2 D=Pj (.lst us))(v:TrL K H2 (Sx h λb=>b=D\/a b) t [] r us a)(d:Evo (h.plus λb=>b=D\/a b) H2 s k (λ_=>False)) :
  ∃g,Evo g' H1 g k (λb=>b=D\/a b)/\(g.plus λb=>b=D\/a b)=s/\k D=Pj (.lst us)/\TrL K k (Sx g λb=>b=D\/a b) t [] r us a:=by
 let p:(h.plus λb=>b=D\/a b) D=Pj Pl:=aV (.inl rfl);let q:=(m.trans d).drop λb z=>.inl z;show⟨s.minus (λb=>b=D\/a b),q,?_,d.keep D _ (λi f=>by rw[p] at f;cases f) w,?_⟩
 ·let e:=il d;rw[aW λ_ z=>z] at e;let e2:(λc=>(c=D\/a c)\/False)=λb=>b=D\/a b:=by funext b;simp
  rw[e2] at e;show e
 ·show v.go (λb o j e=>?_) λb o e n z=>?_
  ·show d.keep b o (λi f=>?_) e;rcases j with j|j
   ·show j (.inl (by rw[bL f];simp))
   ·rw[aV (.inr j)] at f;cases f
  ·let l:¬(b=D\/a b):=λz=>n (.inr z)
   let u:(h.plus λb=>b=D\/a b) b=Pl:=by
    rw[bU l]
    cases f:h b with
    |none=>rfl
    |some x=>show absurd (.inl (by rw[f];simp)) n
   obtain⟨y,f2⟩:=d.froz e u;rcases z with z|z
   ·rw[bG l] at z;show z y
   ·show l z
abbrev Kf(K:Md)(f:List J.D->Ro->Option (List J.D×Ro))(cp:List (Option Nat))(Z1:L2.St)(r:Ow)(ds:List J.D)(g':Gh)(Y:Ro)(H1:Hp)(D:Ps):Nat->Nat->L2.St->Hp->Prop:=λi m Z' H'=>m=ds.length-i/\i<=ds.length/\∃(B:Gh) (q:Pr) (us:List V) (O:List J.D) (W:Ro),f (ds.take i) Y=Pj (O,W)/\Evo g' H1 B H' (λb=>b=D\/q b)/\¬q D/\SE K (B.plus λb=>b=D\/q b) W Z' H'/\
  (∀(j i:Nat),cp[j]?=Pj (Pj i)->Z'[j]?=Z1[j]?)/\H' D=Pj (.lst us)/\TrL K H' (Sx B λb=>b=D\/q b) O [] r us q
theorem tB(O:am X U c){fi:Ro->IR}(hck:a9 c scope=Pm)(hi:jD X fi tg iter)(gb:m9 ⟨eT scope c.sc,ac scope,e6 scope⟩ n tg=Pj t)(h5:∀C s H ex,kX (aj X (ac scope) scope C s H ex) ft ifs)(gs:∀C s H ex,bh (aj X (ac scope) scope C s H ex) fe elt)(h:gO r (fi Y) (gJ (aw c scope) t ft fe) (aw c scope)=Pj (kd,d,Y')){Z:L2.St}{Q:VK}(se:SE X.K g Y Z H)(q:∀v g' H' F,Evo g H g' H' F->SE X.K (g'.plus F) Y' Z H'->VR1 X.K H' g' F kd d v F->Q v H') :
  iT (wI X tg iter) (λv Z H Q=>∀C s H0 ex,wG (aj X (ac scope) scope C s H0 ex) tg v Z H Q) (λZ H Q=>∀C s H0 ex,DW (aj X (ac scope) scope C s H0 ex) ifs Z H Q) (λZ H Q=>∀C s H0 ex,wE (aj X (ac scope) scope C s H0 ex) elt Z H Q) (aw c scope) Z H Q:=by
 let hf:kK (aw c scope)=Pm:=by
  simp only[a9,Me] at hck;show hck.1.2
 unfold gO at h;split at h
 ·ext bs E Y0 gk;split at h
  ·ext M;obtain⟨rfl,M⟩:=M;split at h
   ·ext ys Ye hm;split at h
    ·ext ke;cases h;let CO:=cZ O hck;show hi Y [] E Y0 gk g Z H _ se λjj kb g1 H1 h4 h3 jt sp sf D hD=>?_;replace q:∀v g' H' F,Evo g1 H1 g' H' F->SE X.K (g'.plus F) (cP (jb (aw c scope)) Ye Y0) Z H'->VR1 X.K H' g' F (.fr (.own [] r)) (.lst ys) v F->Q v H':=λv g' H' F e s r=>q v g' H' F (xH h4 e) s r;clear se h4;generalize g1=g at *;generalize Y0=Y at *;let ha:SE X.K (g.re (i6 (aw c scope))) (aT Y (aw c scope)) (cz Z (aw c scope)) H1:=h3.cap hf;generalize h1:g.re (i6 (aw c scope))=g' at ha;let gS:∀b,Sg g' b↔Sg g b:=λb=>by rw[<- h1];show jO b
     generalize hY:aT Y (aw c scope)=Yc at ha hm
     show⟨Kf X.K (aF r (gJ (aw c scope) t ft fe)) (aw c scope) (cz Z (aw c scope)) r E g' Yc H1 D,
      ⟨E.length,by simp,ML _,g',λ_=>False,[],[],Yc,by simp[aF],?_,λz=>z,?_,λj i _=>rfl,ak,by unfold TrL;show⟨rfl,λ_ z=>z⟩⟩,?_⟩
     ·let gD:g' D=Pl:=dI ha.mu hD;show⟨λb o n e=>ag hD b o e,λ_=>Iff.rfl,λb i e=>.inl ⟨i,e⟩,λb z=>?_,λb o e=>⟨o,ag hD b o e⟩⟩;rcases z with z|z
      ·subst z;show⟨gD,.inr hD⟩
      ·show z.elim
     ·show ha.plus (ag hD) (λb z=>z.elim (λz=>z▸hD) λz=>z.elim) λb z=>z.elim (λz=>⟨.lst [],z▸ak,λxs h=>by cases h⟩) λz=>z.elim
     rintro i m Z' H' ⟨rfl,kp,gi,f,us,yi,Yi,W,u,B,hr,ho,gD,tr⟩
     let ks:∀b,(b=D\/f b)->gi b=Pl:=λb z=>(u.tmp b z).1
     let kk:kb.P X.K (gi.plus λb=>b=D\/f b) H':=by
      let fz:∀b o,H1 b=Pj o->¬Sg g b->H' b=Pj o/\¬Sg (gi.plus λb=>b=D\/f b) b:=λb o e n=>by
       let n':g' b=Pl:=by
        cases l:g' b with
        |none=>rfl
        |some x=>show absurd ((gS b).mp (by rw[Sg,l];simp)) n
       obtain⟨f1,f2⟩:=u.froz e n';show⟨u.keep b o (λi l=>by rw[n'] at l;cases l) e,λz=>?_⟩;rcases(al b).mp z with z|z
       ·show z f1
       ·show f2 z
      show Src.mono (λb o e n=>(fz b o e n).2) (λb o A e=>?_) (λa e=>sf.from_t e) sp;rcases A with A|A
      ·show(fz b o e A).1
      ·rcases sf.from_l A with sf|⟨i,g5,_⟩
       ·show(fz b o e (by rw[Sg,sf];simp)).1
       ·cases g5
     obtain⟨j1,j2⟩:=jt i _ H' kk hr.mu;by_cases T:i<E.length
     ·let hd:E[i]?=Pj E[i]:=Ms T;obtain⟨go,yl⟩:=j2 _ hd;show .inr ⟨go,λx H2 hy C s0 H0 ex=>?_⟩;obtain⟨s2,rx⟩:=yl x H2 hy;let st:=pf hm hd W
      let ht:∃o,gJ (aw c scope) t ft fe E[i] Yi=Pj o:=by
       rcases st with⟨Y1,e,_⟩|⟨kd,Y1,e,_⟩
       ·show⟨_,e⟩
       ·show⟨_,e⟩
      obtain⟨o0,S⟩:=ht;let R:=S;unfold gJ at R;split at R
      ·ext ps gc;split at R
       ·ext hz;obtain⟨hz,kc⟩:=hz
        let hv:∀(j i:Nat),(aw c scope)[j]?=Pj (Pj i)->∀p∈ps,p.1≠j:=λj i e p hp z=>by
         have:=Nx.mp kc p hp;rw[z,e] at this;cases this
        show sG (o6 (CO C s0 H0 ex) n gb) (ii gc rx λvs hh C1 hw h7 h6=>?_);let t1:=SE.setAll hh (hr.same s2);let h2:Evo g' H1 gi H2 (λb=>b=D\/f b):=⟨λb o n e=>s2 _ _ (u.keep b o n e),u.out,u.new,u.tmp,λb o e=>let ⟨o',l⟩:=u.dom b o e;⟨o',s2 _ _ l⟩⟩;let hx:TrL X.K H2 (Sx gi λb=>b=D\/f b) yi [] r us f:=tr.go (λb o _ e=>s2 _ _ e) λ_ _ _ n=>n;split at R
        ·ext Yt hT;show h5 C1 hw h7 h6 _ Pm Yt hT _ _ _ _ t1 λgt H3 hg I=>uT λC2 ka gv h9=>?_;obtain⟨L,hu,hn,hq,hj⟩:=tz h2 B (s2 _ _ gD) hx hg;rw[<- hn] at I
         let h0:us.length<=i:=by
          rw[tr.len];show MP (gN W) (by rw[MJ];lia)
         split at R
         ·ext ky y Y1 gl;cases R
          let V:bM r (dJ ky y,y)=Pm/\aF r (gJ (aw c scope) t ft fe) (E.take (i+1)) Yc=Pj (yi++[y],clr ps Y1):=by
           rcases st with⟨Y2,e,_⟩|⟨kd,Y2,e,e2,e3⟩
           ·rw[S] at e;cases e
           ·rw[S] at e;cases e;show⟨e2,e3⟩
          show gs C2 ka gv h9 _ ky y Y1 gl _ _ H3 _ I λvy g2 H4 Fy k hl r4=>?_;let g0:=VR1.im hl.mu r4;let kf:(L.plus λb=>b=D\/f b) D=Pj Pl:=aV (.inl rfl);let ga:H4 D=Pj (.lst us):=k.keep D _ (λi l=>by rw[kf] at l;cases l) hq
          let N:∀b,(b=D\/f b)->¬Fy b:=λb z z2=>by
           have:=(k.out b).mp (aV z);rw[(k.tmp b z2).1] at this;cases this
          let h8:=hu.trans k;let mm:MuOk H4 (Sx g2 Fy):=λb z=>hl.mu b ((al b).mpr z);obtain⟨F2,a1,a2⟩:=VR1.fit V.1 mm (λb z=>(k.tmp b z).1) (λb z=>z) g0;let g4:=h0;let kD:∀b o,b≠D->H4 b=Pj o->upd H4 D (.lst (us++[vy])) b=Pj o:=λb o n e=>by rw[ah n];show e
          let mD:∀b,(b=D\/f b)->(g2.minus λb=>b=D\/f b) b=Pl:=λb z=>ik z;let gd:∀b,((b=D\/f b)\/Fy b)->(g2.minus λb=>b=D\/f b) b=Pl:=λb z=>(h8.tmp b z).1;let hs:∀b,(b=D\/(f b\/F2 b))->((b=D\/f b)\/Fy b):=λb z=>z.elim (λz=>.inl (.inl z)) λz=>z.elim (λz=>.inl (.inr z)) λz=>.inr (a1 b z);show⟨us,ga,Nj g4 (Mo T (aK M)),E.length-(i+1),by lia,rfl,T,g2.minus (λb=>b=D\/f b),λb=>f b\/F2 b,us++[vy],yi++[y],clr ps Y1,V.2,(h8.drop hs).upd hD,λz=>z.elim B λz=>N D (.inl rfl) (a1 D z),?_,λj i e=>(jW hh (hv j i e)).trans (ho j i e),ak,?_⟩
          ·show SE.upd (SE.clr (SE.drop (by rw[il k];show hl) hs gd)) (aV (.inl rfl)) (λxs h=>by cases h)
          ·show TrL.snoc (hj.go (λb o A e=>?_) λb o e n z=>?_) ((a2 (Sx (g2.minus λb=>b=D\/f b) λb=>b=D\/(f b\/F2 b)) λb z=>?_).go (λb o A e=>kD b o (λz=>?_) e) λb o e n z=>n z) λb z1 z2=>N b (.inr z1) (a1 b z2)
           ·let nb:b≠D:=λz=>by
             subst z;show A.elim (λz=>z (.inr (.inl rfl))) B
            show kD b o nb (k.keep b o (λi l=>?_) e);rcases A with A|A
            ·show A (.inl (by rw[bL l];simp))
            ·rw[aV (.inr A)] at l;cases l
           ·let nb:¬(b=D\/f b):=λz=>n (.inr z)
            let gn:(L.plus λb=>b=D\/f b) b=Pl:=by
             rw[bU nb]
             cases l:L b with
             |none=>rfl
             |some x=>show absurd (.inl (by rw[l];simp)) n
            obtain⟨f1,f2⟩:=k.froz e gn;rcases z with z|z
            ·rw[bG nb] at z;show z f1
            ·rcases hs b z with z|z
             ·show nb z
             ·show f2 z
           ·rcases z with z|z
            ·by_cases A:b=D\/f b
             ·rw[ik A] at z;show absurd rfl z
             ·rw[bG A] at z;show .inr (.inl z)
            ·rcases z with z|z|z
             ·right;left;rw[(k.out b).mp (aV (.inl z))];simp
             ·right;left;rw[(k.out b).mp (aV (.inr z))];simp
             ·show .inr (.inr (.inl z))
           ·subst z;show A.elim (λz=>z (.inr (.inl rfl))) λz=>N b (.inl rfl) (a1 b z)
         ·cases R
        ·ext Yt hT;cases R
         let V:aF r (gJ (aw c scope) t ft fe) (E.take (i+1)) Yc=Pj (yi,clr ps Yt):=by
          rcases st with⟨Y1,e,e2⟩|⟨kd,Y1,e,_⟩
          ·rw[S] at e;cases e;show e2
          ·rw[S] at e;cases e
         show h5 C1 hw h7 h6 _ Po Yt hT _ _ _ _ t1 λgt H3 hg I=>uS ?_;obtain⟨L,hu,hn,hq,hj⟩:=tz h2 B (s2 _ _ gD) hx hg;rw[<- hn] at I;show⟨E.length-(i+1),by lia,rfl,T,L,f,us,yi,clr ps Yt,V,hu,B,SE.clr I,λj i e=>(jW hh (hv j i e)).trans (ho j i e),hq,hj⟩
        ·cases R
       ·cases R
      ·cases R
     ·let e:i=E.length:=by lia
      subst e;rw[Nk,hm] at W;cases W;show .inl ⟨j1 (Mi _),?_⟩;let gj:(cK (jb (aw c scope))).Nodup:=by rw[jc];simpa[kK] using hf
      let g3:g.re (nj (jb (aw c scope)))=g':=by
       rw[<- h1];congr 1;funext i;show AB _ _
      let rv:VR1 X.K H' gi (λb=>b=D\/f b) (.fr (.own [] r)) (.lst ys) (.ref D) (λb=>b=D\/f b):=by
       change Tr _ _ _ _ _ _ _;unfold Tr
       show⟨D,_,us,f,rfl,gD,rfl,λ_=>B,(λh=>nomatch h),λb=>⟨λz=>z.imp (λz=>⟨rfl,z⟩) id,λz=>z.imp (λz=>z.2) id⟩,tr⟩
      obtain⟨c1,c2,c3⟩:=l9 gj (by rw[ke];simp[jb]) rfl (.refl g H1) (by rw[aW λ_ z=>z];show h3)
       (λj i sl w ej eo ew=>by
        unfold jb at ej;rw[Mj] at ej
        cases l:(aw c scope)[j]? with
        |none=>rw[l] at ej;cases ej
        |some o=>
         rw[l] at ej
         cases o with
         |none=>cases ej
         |some i'=>
          cases ej;rw[ho j i l] at ew;unfold cz at ew;rw[Mj,l] at ew;let hc:(Z[i]?).join=Pj w:=by simpa using ew
          cases q2:Z[i]? with
          |none=>rw[q2] at hc;cases hc
          |some w'=>rw[q2] at hc;have:w'=Pj w:=hc;rw[this]) (by rw[g3];show u) hr rv
      show q _ _ H' _ c1 c2 c3
    ·cases h
   ·cases h
  ·cases h
 ·cases h
theorem AC(O:am X U c){p:Ro->IR}(hck:a9 c scope=Pm)(hns:dh iter=Pm)(hi:jD X p tg iter)(i:m9 ⟨eT scope c.sc,ac scope,e6 scope⟩ n tg=Pj t)(l:∀C s H ex,kX (aj X (ac scope) scope C s H ex) ft ifs)(j:∀C s H ex,bh (aj X (ac scope) scope C s H ex) fe elt) :
  bh X (λY=>gO r (p Y) (gJ (aw c scope) t ft fe) (aw c scope)) (.ListComp elt [⟨tg,iter,ifs,0⟩] scope pos):=by
 intro Y x d y h g Z H Q w q
 show ao (oH O.calm (df O hck) uX
  (λC s b ex a f k m v u o I r e=>uY a f k m v u o I r (e C s b ex)) (λC s b ex a f k m o I e=>e C s b ex a f I) (λC s b ex a f k m o I e=>e C s b ex a f I) (c7 hns)) (tB O hck hi i l j h w q)
end
def w2(X:Cx)(a b:Pp)(Z:L2.St)(H:Hp)(R:List V->Hp->Prop):Prop:=wE X a Z H λx H1=>wE X b Z H1 λy H2=>R [x,y] H2
def ph(X:Cx)(f:Ro->Option (List KD×Ro))(a b:Pp):Prop:=∀Y kds Y',f Y=Pj (kds,Y')->∀g Z H Q,SE X.K g Y Z H->
 (∀vs g' H' F,Evo g H g' H' F->SE X.K (g'.plus F) Y' Z H'->VRL X.K H' g' F kds vs F->Q vs H')->w2 X a b Z H Q
def Strict2(X:Cx)(f:List KD->Option KD)(a b q:Pp):Prop:=∀kds B d,f kds=Pj (B,d)->∀Z H Q,w2 X a b Z H (Lv X kds B d Q)->wE X q Z H Q
section
variable {X:Cx} {U:Tab} {c:Cz}
theorem Strict2.m{f:List KD->Option KD}{k:Ro->Option (List KD×Ro)}(h:Strict2 X f a b node)(t:ph X k a b):bh X (λY=>(k Y).bind λp=>(f p.1).map λq=>(q.1,q.2,p.2)) node:=by
 intro Y I d C c g Z H Q B q;dsimp only at c
 cases e:k Y with
 |none=>rw[e] at c;cases c
 |some p=>
  obtain⟨i,D⟩:=p;rw[e] at c;dsimp only[MZ] at c
  cases e2:f i with
  |none=>rw[e2] at c;cases c
  |some r=>
   rw[e2] at c;cases c;show h i r.1 r.2 e2 Z H Q (t Y i _ e g Z H _ B λE n y F l j w=>⟨n,lF y F,rf j λb z=>(l.tmp b z).1,kR,w.off,λv x s2 o=>?_⟩);obtain⟨s,b1,b2⟩:=o;obtain⟨A,u⟩:=xE l j s2 b1 b2.dom;show q v n x s A u b2
theorem VR.one{v:V}(h:VR K g H0 H kd d v):VRs K g H0 H [(kd,d)] [v]:=by
 obtain⟨F,a,c⟩:=h;show⟨F,a,v,[],F,λ_=>False,rfl,λb=>⟨.inl,λz=>z.elim id λz=>z.elim⟩,λ_ _ z=>z,c,rfl,λ_ z=>z⟩
theorem Ei{i:Ro->MR}{fb:Ro->Option KD}(y:bh X i a)(r:SndE X fb b):ph X (λY=>gq (i Y) λY=>ck (fb Y) (Pj [])) a b:=by
 intro Y kds n h g Z H Q F q;dsimp only[gq] at h;split at h
 ·ext u d I e1;split at h
  ·ext j e2;cases h;unfold ck at e2;split at e2
   ·ext x K A f;cases e2;cases f;obtain⟨k,l⟩:=x;show y Y u d n e1 g Z H _ F λv m o t e c C=>r n k l A (m.plus t) Z o _ c λw D s2 p=>?_;obtain⟨E,B,z,s⟩:=tj (kds:=[(k,l)]) (vs:=[w]) e c C s2 p.one;show q [v,w] m D E B z s
   ·cases e2
  ·cases h
 ·cases h
theorem AD{n fb:Ro->MR}(E:bh X n a)(u:bh X fb b):ph X (λY=>gH (n Y) λY=>gq (fb Y) λ_=>Pj []) a b:=by
 intro Y C M h g Z H Q N q;dsimp only[gH] at h;split at h
 ·ext B d m e1;split at h
  ·cases h
  ·ext e;split at h
   ·ext o R e2;cases h;unfold gq at e2;split at e2
    ·ext p r P e3;cases e2;show E Y B d m e1 g Z H _ N λv D t A f c L=>u m p r M e3 (D.plus A) Z t _ c λw O s k i l x=>?_;let j:VRL X.K s O k [(p,r)] [w] k:=⟨w,[],k,λ_=>False,rfl,λb=>⟨.inl,λz=>z.elim id λz=>z.elim⟩,λ_ _ z=>z,x,rfl,λ_ z=>z⟩;obtain⟨I,F,y⟩:=pb (by simpa using e) f (L.im c.mu) i l j;show q [v,w] _ s _ I F y
    ·cases e2
   ·cases h
 ·cases h
noncomputable def f2(f:KD->KD->Option KD):List KD->Option KD
 |[x,y]=>f x y
 |_=>Pl
def Jf:KD->KD->Option KD:=λx y=>vY (Pj x) (Pj y)
theorem Kg(O:am X U c)(C:cV b=Pm):Strict2 X (f2 Jf) a b (.Subscript a b pos):=by
 intro z E d h Z H Q M
 match z,h with
 |[x,y],h0=>
  let h:vY (Pj x) (Pj y)=Pj (E,d):=h0;clear h0;obtain⟨I,F⟩:=x;obtain⟨S,D⟩:=y
  let o:∀{R:V->V->Hp->Prop},(∀n l f g j,MuOk j (Sg g)->Same j f->VR X.K g j f I F n->VR X.K g j f S D l->(∀v A,Same f A->VR X.K g j A E d v->Q v A)->R n l f)->wE X a Z H λn B=>wE X b Z B λl f=>R n l f:=λk=>
   sM M λn B N=>sM N λl f ⟨g,j,m,s,r,q⟩=>by
    obtain⟨v,T,e,P,L⟩:=r.two;cases e;show k n l f g j m s P L q
  rcases sK h with⟨i,e,u⟩|⟨p,e,u⟩
  ·cases(show D=_ from e);show ao (su mR au au (bX C)) (o λn l f g j m s t w q=>?_);obtain rfl:=w.rd.int;show sL u t λv r=>q v f (Same.refl f) r
  ·cases(show F=_ from e);show ao (mU (by have:=O.tab.units;lia) au au (bX C)) (o λn l f g j m s t w q=>oQ u t w λv r=>q v f (Same.refl f) r)
theorem n_tup:StrictOk X (λkds=>hZq k (Pj kds)) es (.Tuple es n pos):=by
 intro kds l d h Z H Q e;dsimp only[hZq] at h;split at h
 ·split at h
  ·ext a;cases h;show ao (mO cU) (cw e λj i ⟨g,f,m,s1,c,q⟩=>⟨by rw[c.len];show aK a.2,λp b=>?_⟩);show q _ _ (ag b) (c.tupO a.1 m s1 b)
  ·cases h
 ·split at h
  ·ext a;cases h;show ao (mO cU) (cw e λj i ⟨g,f,m,s1,c,q⟩=>⟨by rw[c.len];show aK a.2,λp b=>?_⟩);show q _ _ (ag b) ((zW (m.same s1) b (c.sh a.1 m s1)).older s1)
  ·cases h
theorem Kh(O:am X U c){es:List Pp}{b:Ro->Option (List RA×Ro)}(o:U.fm x=Pj λK=>u9 K B)(u:f7 c.sc x=Pm)(s:ae e=Pm)(k:es.all ae=Pm)(z:gr X b (e::es)) :
  bh X (λY=>Az (Pj B) (b Y)) (.Call (.Name x p) (e::es) [] pos):=by
 intro Y M d R h g Z H Q C q;obtain⟨n,w,S,L,F,l,v,hk,r,f⟩:=O.tab.fm x _ o;dsimp only at h
 cases i:b Y with
 |none=>rw[i] at h;cases h
 |some y=>
  obtain⟨a,m⟩:=y;rw[i] at h;show ao (sg (E:=E0) F l (cC O u) v hk r .nil ki cU f (ai s) (bF k)) (z Y a m i g Z H _ C λI N D P t j A=>?_);rw[M5];show tw h t j A q
def va(i:Nat)(Y:Ro):MR:=match Y[i]? with
 |some (Pj ⟨Po,k,d⟩)=>if qN k=Pm then Pj (.sh,d,Y) else Pj (.fr k,d,Y.set i Pl)
 |_=>Pl
open Classical in
noncomputable def Gh.off(g:Gh)(i:Nat):Gh:=λb=>if g b=Pj (Pj i) then Pl else g b
theorem BO{g:Gh}(h:Sg (g.off i) b):Sg g b/\g b≠Pj (Pj i):=by
 by_cases n:g b=Pj (Pj i)
 ·show absurd (by unfold Gh.off;rw[if_pos n]) h
 ·show⟨λz=>h ?_,n⟩;unfold Gh.off;rw[if_neg n];show z
theorem xI{g:Gh}(h:g b≠Pj (Pj i)):g.off i b=g b:=by unfold Gh.off;rw[if_neg h]
theorem xJ{g:Gh}(h:g b=Pj (Pj i)):g.off i b=Pl:=by unfold Gh.off;rw[if_pos h]
theorem kY{g:Gh}(h:g.off i b=Pj x):g b=Pj x/\x≠Pj i:=by
 unfold Gh.off at h;split at h
 ·cases h
 ·ext n;show⟨h,λz=>n (by rw[h,z])⟩
theorem tD{g:Gh}{F:Pr}(a:∀b,F b->g b=Pj (Pj i)):Evo g H (g.off i) H F:=by
 show⟨λ_ _ _ e=>e,λb=>⟨λe=>?_,λe=>(kY e).1⟩,λb j e=>.inl ⟨j,(kY e).1⟩,λb z=>⟨xJ (a b z),.inl ⟨i,a b z⟩⟩,λ_ o e=>⟨o,e⟩⟩;rw[xI (by rw[e];simp)];show e
theorem xK{g:Gh}{F:Pr}{Y Y':Ro}{Z:L2.St}(h:SE K g Y Z H)(l:∀b,F b->g b=Pj (Pj i))(r:Y'.length=Y.length)(p:∀(j:Nat) a,Y'[j]?=Pj (Pj a)->(j≠i/\Y[j]?=Pj (Pj a))\/(∃v,Z[j]?=Pj (Pj v)/\a.k=.fz/\Rp K H (Sg ((g.off i).plus F)) a.d v)):SE K ((g.off i).plus F) Y' Z H:=by
 let c:∀b,Sg ((g.off i).plus F) b->Sg g b:=λb z=>((al b).mp z).elim (λz=>(BO z).1) λz=>by rw[Sg,l b z];simp
 show⟨λj a e=>?_,λb z=>h.mu b (c b z),by rw[r];show h.len⟩;rcases p j a e with⟨m,e1⟩|⟨v,e1,e2,e3⟩
 ·obtain⟨v,u,s,t,w⟩:=h.slot j a e1;show⟨v,u,s,λb z=>?_,w.go (λ_ _ _ e=>e) λb o _ n z=>n (c b z)⟩;let f:=t b z;show bT ?_ λq=>by rw[l b q] at f;cases f;show m rfl
  rw[xI (by rw[f];intro z;cases z;show m rfl)];show f
 ·obtain⟨x,k,d⟩:=a;let e2:k=.fz:=e2;subst e2;show⟨v,λ_=>False,e1,λb z=>z.elim,.fz e3⟩
theorem fX(O:am X U c){i:Nat}(a:e7 c x=Pj i)(pos:Pos){Z:L2.St}{Q:VK}(e:Z[i]?=Pj (Pj v))(q:Q v H):wE X (.Name x pos) Z H Q:=by
 unfold e7 at a;split at a
 ·ext j d;split at a
  ·ext b;cases a;simp only[Me,m5,NE] at b;show ao (qi (i:=i) (by rw[O.N];show aX d) (by rw[O.sc];show m4 b.1) b.2.1 b.2.2) ⟨v,e,q⟩
  ·cases a
 ·cases a
theorem Hz(O:am X U c)(p:e7 c x=Pj i)(pos:Pos):bh X (va i) (.Name x pos):=by
 intro Y s d w h g Z H Q m q;unfold va at h;split at h
 ·ext k t e;obtain⟨v,r,e1,e2,e3⟩:=m.slot i _ e;split at h
  ·ext hk;cases h;let l:=jS hk;subst l;show fX O p pos e1 (q v g H (λ_=>False) (.refl g H) (by rw[aW λ_ z=>z];show m) ⟨λ_ z=>z,?_⟩);show e3.fz_inv.2.weak λb z=>z.elim id λz=>z.elim
  ·cases h;show fX O p pos e1 (q v (g.off i) H r (tD e2) (xK m e2 (by simp) λj u e4=>?_) ?_)
   ·by_cases f:j=i
    ·subst f
     let a:j<Y.length:=by
      have:=(Mg.mp e4).1;simpa using this
     rw[MK a] at e4;cases e4
    ·rw[MG (Ne.symm f)] at e4;show .inl ⟨f,e4⟩
   ·change Tr _ _ _ _ _ _ _;show e3.go (λ_ _ _ e=>e) λb o _ n z=>n (z.elim (λz=>(BO z).1) λz=>by rw[Sg,e2 b z];simp)
 ·cases h
end
section
variable {K:Md} {H:Hp} {S:Pr}
theorem TrL.focus:∀{ds:List D} {es:List Ow} {r:Ow} {xs:List V} {F:Pr} {j:Nat} {d:D},TrL K H S ds es r xs F->ds[j]?=Pj d->∃(x:V) (n g:Pr),xs[j]?=Pj x/\(∀b,F b↔n b\/g b)/\(∀b,n b->¬g b)/\Tr K H S d (es.getD j r) x n/\
  ∀(k:Hp) (l:Pr) (m:D) (a:Pr),(∀b o,(¬S b\/g b)->H b=Pj o->k b=Pj o)->(∀b o,H b=Pj o->¬S b->¬l b)->Tr K k l m (es.getD j r) x a->(∀b,a b->¬g b)->TrL K k l (ds.set j m) es r xs (λb=>a b\/g b)
 |[],_,_,_,_,_,_,h,e=>by simp at e
 |d0::ds,es,r,xs,F,0,d,h,e=>by
  unfold TrL at h;obtain⟨y,s,u,C,rfl,A,q,E,w⟩:=h;simp at e;subst e
  show⟨y,u,C,rfl,A,q,by cases es<;>simpa using E,λk l m a p v t f=>?_⟩
  unfold TrL
  show⟨y,s,a,C,rfl,λb=>Iff.rfl,f,by cases es<;>simpa using t,w.go p v⟩
 |d0::ds,es,r,xs,F,j+1,d,h,e=>by
  unfold TrL at h;obtain⟨y,s,u,C,rfl,A,q,E,w⟩:=h
  obtain⟨x,n,g,e1,e2,e3,e4,L⟩:=TrL.focus w (by simpa using e)
  let I:es.tail.getD j r=es.getD (j+1) r:=by cases es<;>simp
  rw[I] at e4;show⟨x,n,λb=>u b\/g b,by simpa using e1,λb=>?_,λb i c=>?_,e4,λk l m a p v t f=>?_⟩
  ·rw[A b,e2 b];show⟨λz=>z.elim (λz=>.inr (.inl z)) λz=>z.imp id .inr,λz=>z.elim (λz=>.inr (.inl z)) λz=>z.imp id .inr⟩
  ·rcases c with c|c
   ·show q b c ((e2 b).mpr (.inl i))
   ·show e3 b i c
  ·change TrL K k l (d0::ds.set j m) es r (y::s) _;unfold TrL;show⟨y,s,u,λb=>a b\/g b,rfl,λb=>⟨λz=>z.elim (λz=>.inr (.inl z)) λz=>z.imp id .inr,λz=>z.elim (λz=>.inr (.inl z)) λz=>z.imp id .inr⟩,λb i c=>?_,E.go (λb o B e=>p b o (B.imp id .inl) e) v,L k l m a (λb o B e=>p b o (B.imp id .inr) e) v (by rw[I];show t) λb i c=>f b i (.inr c)⟩;rcases c with c|c
   ·show f b c (.inl i)
   ·show q b i ((e2 b).mpr (.inr c))
def FP(K:Md)(H:Hp)(S:Pr)(k:Ow)(v:V)(F:Pr)(W:Ow)(d1:D)(v1:V)(up:D->D):Prop:=∃(F1 O:Pr),(∀b,F b↔F1 b\/O b)/\(∀b,F1 b->¬O b)/\Tr K H S d1 W v1 F1/\
  ∀(H':Hp) (S':Pr) (B:D) (q:Pr),(∀b o,(¬S b\/O b)->H b=Pj o->H' b=Pj o)->(∀b o,H b=Pj o->¬S b->¬S' b)->Tr K H' S' B W v1 q->(∀b,q b->¬O b)->Tr K H' S' (up B) k v (λb=>q b\/O b)
theorem FP.root(h:Tr K H S d k v F):FP K H S k v F k d v id:=by
 show⟨F,λ_=>False,λb=>⟨.inl,λz=>z.elim id λz=>z.elim⟩,λ_ _ z=>z,h,λj f c a l g t i=>?_⟩;let e:(λb=>a b\/False)=a:=by funext b;show propext ⟨λz=>z.elim id λz=>z.elim,.inl⟩
 rw[e];show t
theorem FP.same(h:FP K H S k v F k1 d1 v1 up)(s:Same H H2):FP K H2 S k v F k1 d1 v1 up:=by
 obtain⟨f,r,l,d,j,i⟩:=h;show⟨f,r,l,d,j.go (λb o _ e=>s b o e) λ_ _ _ n=>n,λq u a c k1 m t p=>i q u a c (λb o g e=>k1 b o g (s b o e)) (λb o e n=>m b o (s b o e) n) t p⟩
theorem FP.step{es:List Ow}{ds:List D}{up:D->D}{j:Nat}(h:FP K H S k v F (.own es r) (.nd hd ds) v1 up)(Q:ds[j]?=Pj d):∃a o xs x,v1=.ref a/\H a=Pj o/\cR K o hd xs/\xs.length=ds.length/\xs[j]?=Pj x/\FP K H S k v F (es.getD j r) d x (λz=>up (.nd hd (ds.set j z))):=by
 obtain⟨Z,A,Y,w,L,R⟩:=h;unfold Tr at L;obtain⟨a,o,xs,F',rfl,s,N,I,E,p,t⟩:=L
 obtain⟨x,O,n,e1,e2,e3,e4,V⟩:=t.focus Q
 show⟨a,o,xs,x,rfl,s,N,t.len,e1,O,λb=>(hd.mu=Pm/\b=a)\/n b\/A b,λb=>?_,λb f c=>?_,e4,λu C m g q B P l=>?_⟩
 ·rw[Y b,p b,e2 b];show⟨λz=>z.elim (λz=>z.elim (λz=>.inr (.inl z)) λz=>z.imp id λz=>.inr (.inl z)) λz=>.inr (.inr (.inr z)),λz=>z.elim (λz=>.inl (.inr (.inl z))) λz=>z.elim (λz=>.inl (.inl z)) λz=>z.elim (λz=>.inl (.inr (.inr z))) .inr⟩
 ·rcases c with⟨i,rfl⟩|c|c
  ·show I i ((e2 b).mpr (.inl f))
  ·show e3 b f c
  ·show w b ((p b).mpr (.inr ((e2 b).mpr (.inl f)))) c
 ·let U:=V u C m g (λb o y e=>q b o (y.imp id λz=>.inr (.inl z)) e) B P λb f c=>l b f (.inr (.inl c))
  let X:u a=Pj o:=by
   cases i:hd.mu with
   |true=>show q a o (.inr (.inl ⟨i,rfl⟩)) s
   |false=>show q a o (.inl (E i)) s
  let T:Tr K u C (.nd hd (ds.set j m)) (.own es r) (.ref a) (λb=>(hd.mu=Pm/\b=a)\/(g b\/n b)):=by
   unfold Tr;show⟨a,o,xs,λb=>g b\/n b,rfl,X,N,λi z=>z.elim (λz=>l a z (.inl ⟨i,rfl⟩)) λz=>I i ((e2 a).mpr (.inr z)),λi=>B a o s (E i),λb=>Iff.rfl,U⟩
  let M:=R u C _ _ (λb o y e=>q b o (y.imp id λz=>.inr (.inr z)) e) B T λb f c=>by
   rcases f with⟨i,rfl⟩|f|f
   ·show w b ((p b).mpr (.inl ⟨i,rfl⟩)) c
   ·show l b f (.inr (.inr c))
   ·show w b ((p b).mpr (.inr ((e2 b).mpr (.inr f)))) c
  let W:(λb=>((hd.mu=Pm/\b=a)\/(g b\/n b))\/A b)=λb=>g b\/((hd.mu=Pm/\b=a)\/n b\/A b):=by
   funext b;show propext ⟨λz=>z.elim (λz=>z.elim (λz=>.inr (.inl z)) λz=>z.imp id λz=>.inr (.inl z)) λz=>.inr (.inr (.inr z)),λz=>z.elim (λz=>.inl (.inr (.inl z))) λz=>z.elim (λz=>.inl (.inl z)) λz=>z.elim (λz=>.inl (.inr (.inr z))) .inr⟩
  rw[W] at M;show M
end
def BQ(hd:Hd)(n:Nat)(x:D):Option Nat:=match hd with
 |.lst=>(match x with|.int z=>jx n z|_=>Pl)
 |.tup=>(match x with|.int z=>jx n z|_=>Pl)
 |.dic t ks=>(match iW x with|some k=>if hUq t k=Pm then aS ks k else Pl|none=>Pl)
 |.obj _ _=>Pl
def xL(p:Option (Ow×D×(D->D)))(x:Option KD):Option (Ow×D×(D->D)):=match p,x with
 |some (.own es r,.nd hd ds,up),Pj (_,dx)=>(match BQ hd ds.length dx with
  |some j=>(match ds[j]? with|some d=>Pj (es.getD j r,d,λz=>up (.nd hd (ds.set j z)))|none=>Pl)
  |none=>Pl)
 |_,_=>Pl
def tF(f:Str)(p:Option (Ow×D×(D->D))):Option (Ow×D×(D->D)):=match p with
 |some (.own es r,.nd (.obj c ns) ds,up)=>(match aZ f ns with
  |some j=>(match ds[j]? with|some d=>Pj (es.getD j r,d,λz=>up (.nd (.obj c ns) (ds.set j z)))|none=>Pl)
  |none=>Pl)
 |_=>Pl
noncomputable def gu(o:Option (Option Sl)):Option (Ow×D×(D->D)):=match o with
 |some (Pj ⟨Po,k,d⟩)=>Pj (k,d,id)
 |_=>Pl
def kZ(X:Cx)(i:Nat)(f:Ro->Option (Ow×D×(D->D)))(e:Pp):Prop:=∀Y q O up,f Y=Pj (q,O,up)->∀g Z H Q,SE X.K g Y Z H->
 (∀B H' v F k d,Same H H'->Y[i]?=Pj (Pj ⟨Po,k,d⟩)->Z[i]?=Pj (Pj v)->(∀b,F b->g b=Pj (Pj i))->FP X.K H' (Sg g) k v F q O B up->Q B H')->wE X e Z H Q
section
variable {X:Cx} {U:Tab} {c:Cz}
theorem Ej(O:am X U c){i:Nat}(j:e7 c x=Pj i)(pos:Pos):kZ X i (λY=>gu Y[i]?) (.Name x pos):=by
 intro Y a b l h g Z H Q f q;dsimp only[gu] at h;split at h
 ·ext k d e;cases h;obtain⟨v,F,e1,e2,e3⟩:=f.slot i _ e;show fX O j pos e1 (q v H v F a b (Same.refl H) e e1 e2 (.root e3))
 ·cases h
theorem Ek(O:am X U c){R:Ro->Option (Ow×D×(D->D))}{fb:Ro->Option KD}(N:kZ X i R a)(K:SndE X fb b)(L:cV b=Pm):kZ X i (λY=>xL (R Y) (fb Y)) (.Subscript a b pos):=by
 intro Y k1 d1 up h g Z H Q p q;dsimp only[xL] at h;split at h
 ·ext es r hd S hc kx W I P;split at h
  ·ext j f;split at h
   ·ext dj M;cases h
    cases hd with
    |lst=>
     show ao (su mR au au (bX L)) (N Y _ _ _ I g Z H _ p λT s v F k d s1 e1 e2 e3 e=>K Y _ _ P g Z s _ (p.same s1) λy C s2 u=>?_)
     cases W with
     |int z=>
      obtain rfl:=u.rd.int;obtain⟨A,o,E,x,rfl,w,B,l,n,m⟩:=(e.same s2).step M;cases(B);show .inl ⟨A,E,z,x,rfl,rfl,.of w,by unfold L2.qe;rw[l,(show jx S.length z=Pj j from f)];show n,q x C v F k d (s1.trans s2) e1 e2 e3 m⟩
     |_=>cases f
    |tup=>
     show ao (su mR au au (bX L)) (N Y _ _ _ I g Z H _ p λT s v F k d s1 e1 e2 e3 e=>K Y _ _ P g Z s _ (p.same s1) λy C s2 u=>?_)
     cases W with
     |int z=>
      obtain rfl:=u.rd.int;obtain⟨A,o,E,x,rfl,w,B,l,n,m⟩:=(e.same s2).step M;cases(B);show .inr (.inl ⟨A,E,z,x,rfl,rfl,.of w,by unfold L2.qe;rw[l,(show jx S.length z=Pj j from f)];show n,q x C v F k d (s1.trans s2) e1 e2 e3 m⟩)
     |_=>cases f
    |dic t ks=>
     simp only[BQ] at f;split at f
     ·ext kk hk;split at f
      ·ext hf;show ao (mU (by have:=O.tab.units;lia) au au (bX L)) (N Y _ _ _ I g Z H _ p λT s v F k d s1 e1 e2 e3 e=>K Y _ _ P g Z s _ (p.same s1) λy C s2 u=>?_);obtain⟨A,o,E,x,rfl,w,B,l,n,m⟩:=(e.same s2).step M;let V:=jU w B hk u.rd hf;rw[f,MZ,n] at V;show⟨A,x,rfl,V,q x C v F k d (s1.trans s2) e1 e2 e3 m⟩
      ·cases f
     ·cases f
    |obj c ns=>cases f
   ·cases h
  ·cases h
 ·cases h
end
section
variable {X:Cx}
theorem HA{n:Ro->Option (Ow×D×(D->D))}(w:attributeBase a f X.env (eval a X.env)=eval a X.env)(I:kZ X i n a):kZ X i (λY=>tF f (n Y)) (.Attribute a f pos):=by
 intro Y N R T h g Z H Q L q;dsimp only[tF] at h;split at h
 ·ext U r c ns O M t;split at h
  ·ext j p;split at h
   ·ext S y;cases h;show ao (wt au w) (I Y _ _ _ t g Z H _ L λP u v F k d s1 e1 e2 e3 b=>?_);obtain⟨B,o,V,x,rfl,z,K,l,m,e⟩:=b.step y;obtain⟨C,E,_,⟨A,s⟩,rfl,_⟩:=K;show⟨B,C,E,_,x,rfl,z,A,s f (Mu (aX p)),qS p m,q x u v F k d s1 e1 e2 e3 e⟩
   ·cases h
  ·cases h
 ·cases h
end
open Classical in
noncomputable def Gh.give(g:Gh)(F:Pr)(i:Nat):Gh:=λb=>if F b then Pj (Pj i) else g b
section
variable {K:Md} {H:Hp} {g:Gh} {F:Pr} {Y:Ro} {Z:L2.St}
theorem ir{F2:Pr}(h:F2 b):g.give F2 i b=Pj (Pj i):=by unfold Gh.give;rw[if_pos h]
theorem bB{F2:Pr}(h:¬F2 b):g.give F2 i b=g b:=by unfold Gh.give;rw[if_neg h]
theorem give_S{F2:Pr}:Sg (g.give F2 i) b↔Sg g b\/F2 b:=by
 by_cases h:F2 b
 ·show⟨λ_=>.inr h,λ_=>by rw[Sg,ir h];simp⟩
 ·show⟨λz=>.inl (by rw[Sg,bB h] at z;show z),λz=>z.elim (λz=>by rw[Sg,bB h];show z) λz=>absurd z h⟩
structure nl(K:Md)(H:Hp)(g:Gh)(F:Pr)(Y:Ro)(Z:L2.St)(i:Nat)(k:Ow)(es:List Ow)(r:Ow)(hd:Hd)(ds:List D)(up:D->D)(a:Addr)(o:HO)(xs:List V)(F':Pr):Prop where
 at_:H a=Pj o
 ok:cR K o hd xs
 kids:TrL K H (Sg (g.plus F)) ds es r xs F'
 lab:∀b,F' b->g b=Pj (Pj i)
 nin:¬F' a
 own:g a=Pj (Pj i)
 put:∀(o':HO) (hd':Hd) (ds':List D) (xs':List V) (F2 F3:Pr),hd'.mu=Pm->cR K o' hd' xs'->(∀xs,o'≠.tup xs)->(∀b,F2 b->F b)->(∀b,F3 b->F' b\/F2 b)->TrL K H (Sg (g.give F2 i)) ds' es r xs' F3->
  SE K (g.give F2 i) (Y.set i (Pj ⟨Po,k,up (.nd hd' ds')⟩)) Z (upd H a o')
theorem FP.node{i:Nat}{L:Pr}{hd:Hd}(V:SE K (g.plus F) Y Z H)(hg:∀b,F b->g b=Pl)(e:Y[i]?=Pj (Pj ⟨Po,k,d⟩))(hv:Z[i]?=Pj (Pj v))(lb:∀b,L b->(g.plus F) b=Pj (Pj i))(fp:FP K H (Sg (g.plus F)) k v L (.own es r) (.nd hd ds) v1 up)(B:hd.mu=Pm):∃a o xs F',v1=.ref a/\nl K H g F Y Z i k es r hd ds up a o xs F':=by
 obtain⟨F1,Fr,I,O,h3,h4⟩:=fp;unfold Tr at h3;obtain⟨a,o,xs,F',rfl,q1,q2,n1,n2,u,t⟩:=h3;let E:∀b,L b->g b=Pj (Pj i):=λb z=>bL (lb b z);let m:g a=Pj (Pj i):=E a ((I a).mpr (.inl ((u a).mpr (.inl ⟨B,rfl⟩))));let gF:∀b,F' b->g b=Pj (Pj i):=λb z=>E b ((I b).mpr (.inl ((u b).mpr (.inr z))));show⟨a,o,xs,F',rfl,q1,q2,t,gF,n1 B,m,λC U T R A W x S nt s2 N t'=>?_⟩;let s:∀b,Sg (g.give A i) b->Sg (g.plus F) b:=λb z=>(al b).mpr ((give_S.mp z).imp id (s2 b));let D:∀b f,b≠a->H b=Pj f->upd H a C b=Pj f:=λb f n e=>by rw[ah n];show e
 let l:∀b,A b->g b=Pl:=λb z=>hg b (s2 b z);let p:¬W a:=λz=>(N a z).elim (n1 B) λz=>by rw[l a z] at m;cases m
 show⟨λj sl y=>?_,λb z=>?_,by simp[V.len]⟩
 ·by_cases P:j=i
  ·subst P
   let M:j<Y.length:=by
    have:=(Mg.mp y).1;simpa using this
   rw[MK M] at y;cases y
   let tn:Tr K (upd H a C) (Sg (g.give A j)) (.nd U T) (.own es r) (.ref a) (λb=>b=a\/W b):=by
    unfold Tr;show⟨a,C,R,W,rfl,ak,S,λ_=>p,λh=>by (rw[x] at h;cases h),λb=>⟨λz=>z.imp (λz=>⟨x,z⟩) id,λz=>z.imp (λz=>z.2) id⟩,t'.go (λb f c e=>D b f (λz=>?_) e) λ_ _ _ n=>n⟩;subst z;rcases c with c|c
    ·show c (give_S.mpr (.inl (by rw[Sg,m];simp)))
    ·show p c
   show⟨v,_,hv,λb z=>?_,h4 (upd H a C) (Sg (g.give A j)) _ _ (λb f c e=>D b f (λz=>?_) e) (λb f _ n z=>n (s b z)) tn λb Q q=>?_⟩
   ·rcases z with(rfl|z)|z
    ·rw[bB (λz=>by rw[l b z] at m;cases m)];show m
    ·by_cases q:A b
     ·show ir q
     ·rw[bB q];show(N b z).elim (gF b) λz=>absurd z q
    ·have:=E b ((I b).mpr (.inr z));rw[bB (λz=>by rw[l b z] at this;cases this)];show this
   ·subst z;rcases c with c|c
    ·show c ((al b).mpr (.inl (by rw[Sg,m];simp)))
    ·show O b ((u b).mpr (.inl ⟨B,rfl⟩)) c
   ·rcases Q with rfl|Q
    ·show O b ((u b).mpr (.inl ⟨B,rfl⟩)) q
    ·rcases N b Q with z|z
     ·show O b ((u b).mpr (.inr z)) q
     ·have:=E b ((I b).mpr (.inr q));rw[l b z] at this;cases this
  ·rw[MG (Ne.symm P)] at y;obtain⟨w,X,e1,e2,e3⟩:=V.slot j sl y;let gj:∀b,X b->g b=Pj (Pj j):=λb z=>bL (e2 b z);show⟨w,X,e1,λb z=>?_,e3.go (λb f c e=>D b f (λz=>?_) e) λb f _ n z=>n (s b z)⟩
   ·have:=gj b z;rw[bB (λz=>by rw[l b z] at this;cases this)];show this
   ·subst z;rcases c with c|c
    ·show c ((al b).mpr (.inl (by rw[Sg,m];simp)))
    ·rw[gj b c] at m;cases m;show P rfl
 ·by_cases c:b=a
  ·show⟨C,by rw[c];show ak,nt⟩
  ·obtain⟨f,e2,n⟩:=V.mu b (s b z);show⟨f,D b f c e2,n⟩
theorem Evo.give{F2:Pr}(c:Evo g0 H0 g H F)(s2:∀b,F2 b->F b)(h:g a=Pj (Pj i)):Evo g0 H0 (g.give F2 i) (L2.upd H a o') (λ_=>False):=by
 let d:∀b,F2 b->g b=Pl:=λb z=>(c.tmp b (s2 b z)).1;show⟨λb o n e=>?_,λb=>⟨λe=>?_,λe=>?_⟩,λb j e=>?_,λ_ z=>z.elim,λb o e=>?_⟩
 ·rw[ah (λz=>?_)]
  ·show c.keep b o n e
  ·subst z;rcases c.new b i h with⟨j,q⟩|q
   ·show n j q
   ·rw[e] at q;cases q
 ·have:=(c.out b).mp e;rw[bB (λz=>by rw[d b z] at this;cases this)];show this
 ·by_cases z:F2 b
  ·rw[ir z] at e;cases e
  ·rw[bB z] at e;show(c.out b).mpr e
 ·by_cases z:F2 b
  ·show(c.tmp b (s2 b z)).2
  ·rw[bB z] at e;show c.new b j e
 ·by_cases f:b=a
  ·show⟨o',by rw[f];show ak⟩
  ·obtain⟨k,q⟩:=c.dom b o e;show⟨k,by rw[ah f];show q⟩
end
end J
namespace L2
open PyProof.Rows
section
variable {X:Cx}
def AE:V->List V->Hp->VK->Prop:=λx vs H Q=>∃l xs i y,x=.ref l/\vs=[.int i,y]/\H l=Pj (.lst xs)/\0<=i/\i<=100000/\xs.length<sizeLine/\Q .non (upd H l (.lst (xs.take i.toNat++y::xs.drop i.toNat)))
theorem FH:Dh X "list.insert" AE:=by
 intro d s Z H x D v A Q I g m h;obtain⟨l,B,i,y,rfl,rfl,f,w,C,o,q⟩:=h;cases g;obtain⟨p,c,rfl,⟨t,rfl⟩,j⟩:=m.two;obtain⟨z,a,n,r,u,e⟩:=I.lstM f
 let b:¬(!Builtin.List.listFitsIndex i)=Pm:=by
  have:Builtin.List.listFitsIndex i=Pm:=by
   unfold Builtin.List.listFitsIndex;simp only[Me,decide_eq_true_eq]
   lia
  rw[this];decide
 show call_meets F.slot_list_insert ⟨_,e,rfl⟩ F.entry_list_insert (F.args_list_insert_3 _ _ _) (AutoSeq1.list_insert_list_int_val_1 l a.toArray n i t c b (by rw[Mm];lia)) ⟨e,?_⟩;show⟨.non,_,I.lset (its':=a.take i.toNat++c::a.drop i.toNat) f e ?_ ((r.take _).append (.cons j (r.drop _))) ?_,rfl,q⟩
 ·change((a.toArray.extract 0 (if i<0 then(i+(a.toArray.size:Int)).toNat else min i.toNat a.toArray.size)).push c++a.toArray.extract (if i<0 then(i+(a.toArray.size:Int)).toNat else min i.toNat a.toArray.size))=_
  rw[if_neg (by lia)];let e1:a.take (min i.toNat a.toArray.size)=a.take i.toNat:=by rw[Mm,<- List.take_take,Nk]
  let e2:a.drop (min i.toNat a.toArray.size)=a.drop i.toNat:=by
   rw[Mm];by_cases h:i.toNat<=a.length
   ·rw[Nat.min_eq_left h]
   ·rw[Nat.min_eq_right (by lia),N8,List.drop_eq_nil_of_le (by lia)]
  rw[<- e1,<- e2];generalize min i.toNat a.toArray.size=k;apply Array.ext';simp[List.extract_eq_take_drop];show OM (by simp)
 ·rw[MF,MW,MJ,Oy]
  lia
end
end L2
namespace J
def k4(m:Str)(es:List Ow)(r:Ow)(ds:List D)(q:List KD):Option (D×List D):=
 if m="append" then(match q with|[x]=>if es.length<=ds.length/\bM r x=Pm/\ds.length<100000 then Pj (.non,ds++[x.2]) else Pl|_=>Pl)
 else if m="extend" then(match q with|[(k,.nd .lst ys)]=>if eY (.own es r)=Pm/\eA k ys=Pm/\bA k=Po/\ds.length+ys.length<=100000 then Pj (.non,ds++ys) else Pl|_=>Pl)
 else if m="pop" then(match q with
  |[]=>if eY (.own es r)=Pm then(ds[ds.length-1]?).map λd=>(d,ds.dropLast) else Pl
  |[(_,.int z)]=>if eY (.own es r)=Pm/\-(2^63)<=z/\z<2^63 then(match seqIndex? z ds.length with|some j=>(ds[j]?).map λd=>(d,ds.eraseIdx j)|none=>Pl) else Pl
  |_=>Pl)
 else Pl
def El(m:Str):V->List V->Hp->VK->Prop:=
 if m="append" then sA else if m="extend" then sB else if m="pop" then(λx vs H Q=>GA x vs H Q\/wC x vs H Q) else λ_ _ _ _=>False
section
variable {K:Md} {H:Hp} {g g0:Gh} {H0:Hp} {F F':Pr} {Y:Ro} {Z:L2.St} {i:Nat} {k:Ow} {es:List Ow} {r:Ow} {ds:List D} {up:D->D} {a:Ps} {o:HO} {xs:List V}
theorem iu:g.give (λ_=>False) i=g:=by funext b;show bB λz=>z
theorem TrL.snoc2:∀{ds:List D} {es:List Ow} {r:Ow} {us:List V} {F F2:Pr} {d:D} {v:V},es.length<=ds.length->TrL K H S ds es r us F->Tr K H S d r v F2->(∀b,F b->¬F2 b)->TrL K H S (ds++[d]) es r (us++[v]) (λb=>F b\/F2 b)
 |[],es,r,us,F,F2,d,v,hl,h,t,dj=>by
  have:es=[]:=N0.mp (Nat.le_zero.mp hl);subst this;show TrL.snoc h t dj
 |e::ds,es,r,us,F,F2,d,v,hl,h,t,dj=>by
  unfold TrL at h;obtain⟨y,j,g,k,rfl,f,c,m,l⟩:=h;change TrL K H S (e::(ds++[d])) es r (y::(j++[v])) _;unfold TrL
  show⟨y,j++[v],g,λb=>k b\/F2 b,rfl,λb=>?_,λb i a=>?_,m,TrL.snoc2 (by cases es<;>simp at hl⊢;lia) l t λb z=>dj b ((f b).mpr (.inr z))⟩
  ·change F b\/F2 b↔g b\/k b\/F2 b;rw[f b,or_assoc]
  ·rcases a with a|a
   ·show c b i a
   ·show dj b ((f b).mpr (.inl i)) a
theorem TrL.ofFlat:∀{ds:List D} {es:List Ow} {xs:List V},(∀e∈es,e=.fz)->RpL K H S ds xs->TrL K H S ds es .fz xs λ_=>False
 |[],_,_,_,h=>by unfold TrL;show⟨h.nil_inv,λ_ z=>z⟩
 |d::ds,es,_,he,h=>by
  obtain⟨y,c,rfl,r,t⟩:=h.cons_inv;unfold TrL
  show⟨y,c,_,_,rfl,λb=>⟨.inl,λz=>z.elim id id⟩,λ_ z=>z.elim,?_,TrL.ofFlat (λe q=>he e (by cases es with|nil=>cases q|cons a r=>show .tail _ q)) t⟩
  let e:es.headD .fz=.fz:=by
   cases es with
   |nil=>rfl
   |cons a r=>show he a (.head _)
  rw[e];show Tr.fz r
theorem iw{Q:VK}(h:k4 m es r ds as=Pj (d',ds'))(f:nl K H g F Y Z i k es r .lst ds up a o xs F')(ev:Evo g0 H0 g H F)(se:SE K (g.plus F) Y Z H)(N:VRL K H g F as vs F)(q:∀v g' H' O,Evo g0 H0 g' H' O->SE K (g'.plus O) (Y.set i (Pj ⟨Po,k,up (.lst ds')⟩)) Z H'->VR1 K H' g' O .sh d' v O->Q v H'):El m (.ref a) vs H Q:=by
 let ho:o=.lst xs:=f.ok;subst ho;let R:∀b,F b->g b=Pl:=λb z=>(ev.tmp b z).1;let mm:MuOk H (Sx g F):=λb z=>se.mu b ((al b).mpr z);let sx:∀b,Sg (g.plus F) b↔Sx g F b:=λb=>al b
 -- behind the change
 let u:∀{c:List V} {F2 F3:Pr} {v:V},(∀b,F2 b->F b)->(∀b,F3 b->F' b\/F2 b)->TrL K H (Sg (g.give F2 i)) ds' es r c F3->Rp K (upd H a (.lst c)) (Sg (g.give F2 i)) d' v->Q v (upd H a (.lst c)):=λ{c F2 F3 v} s2 s3 t L=>by
  show q v (g.give F2 i) _ (λ_=>False) (ev.give s2 f.own) ?_ ⟨λ_ z=>z,L.weak λb z=>z.elim id λz=>z.elim⟩;rw[aW λ_ z=>z];show f.put (.lst c) .lst ds' c F2 F3 rfl rfl (λ_ h=>by cases h) s2 s3 t
 let X:∀{F2:Pr},(∀b,F2 b->F b)->∀b o,H b=Pj o->¬Sg (g.plus F) b->¬Sg (g.give F2 i) b:=λs2 b o _ n z=>n ((al b).mpr ((give_S.mp z).imp id (s2 b)))
 let s:eY (.own es r)=Pm->(∀e∈es,e=.fz)/\r=.fz/\RpL K H (Sg g) ds xs:=λT=>by
  obtain⟨A,w⟩:=sH T;show⟨A,w,?_⟩;have:=f.kids;rw[w] at this;show(this.flat A).2.weak λb z=>(al b).mpr (.inl z)
 let I:∀{d:D} {v:V} {c:List V},Rp K H (Sg g) d v->Rp K (upd H a (.lst c)) (Sg g) d v:=λr=>r.go λb o n e=>⟨by rw[ah (λz=>n (by rw[z,Sg,f.own];simp))];show e,n⟩;unfold k4 at h;unfold El;split at h
 ·ext U;rw[if_pos U];split at h
  ·ext x;split at h
   ·ext p;cases h;obtain⟨y,ys,F1,ha,rfl,E,dj,r1,rfl,hn⟩:=N;let e1:∀b,F b↔F1 b:=λb=>⟨λz=>((E b).mp z).elim id λz=>absurd z (hn b),λz=>(E b).mpr (.inl z)⟩;obtain⟨F2,P,a2⟩:=VR1.fit p.2.1 mm (λb z=>R b ((e1 b).mpr z)) (λb z=>(e1 b).mpr z) r1;show⟨a,xs,y,rfl,rfl,f.at_,by rw[f.kids.len];show Mo p.2.2 (aK (Mi _)),?_⟩;show u (F2:=F2) (F3:=λb=>F' b\/F2 b) (λb z=>(e1 b).mpr (P b z)) (λb z=>z) (TrL.snoc2 p.1 (f.kids.go (λ_ _ _ e=>e) (X λb z=>(e1 b).mpr (P b z))) (a2 _ λb z=>?_) λb z1 z2=>?_) (by unfold Rp;rfl)
    ·rcases give_S.mp z with z|z
     ·show .inr (.inl z)
     ·show .inr (.inr (.inl z))
    ·have:=f.lab b z1;rw[R b ((e1 b).mpr (P b z2))] at this;cases this
   ·cases h
  ·cases h
 ·ext U;rw[if_neg U];split at h
  ·ext B;rw[if_pos B];split at h
   ·ext kk ys;split at h
    ·ext p;cases h;obtain⟨A,w,l⟩:=s p.1;subst w;obtain⟨v,rfl,L⟩:=N.off.one;obtain⟨b,o,zs,rfl,gb,qb,rb⟩:=L.items p.2.1 (rf se R) kR;cases(show o=_ from qb);show⟨a,b,xs,zs,rfl,rfl,f.at_,gb,by rw[l.len,rb.len];show aK p.2.2.2,?_⟩;show u (F2:=λ_=>False) (F3:=λ_=>False) (λ_ z=>z.elim) (λ_ z=>z.elim) (by rw[iu];show .ofFlat A (l.append rb)) (by unfold Rp;rfl)
    ·cases h
   ·cases h
  ·ext B;rw[if_neg B];split at h
   ·ext S;rw[if_pos S];split at h
    ·split at h
     ·ext T;obtain⟨A,w,l⟩:=s T;subst w;obtain⟨rfl,_⟩:=N;obtain⟨dd,C,e⟩:=aY h;cases e;obtain⟨y,M,W⟩:=l.getD C;rw[<- l.len] at M;show .inl ⟨a,xs,y,rfl,rfl,f.at_,M,?_⟩
      show u (F2:=λ_=>False) (F3:=λ_=>False) (λ_ z=>z.elim) (λ_ z=>z.elim) (by
       rw[iu,OQ,OQ,l.len];show .ofFlat A (l.take _)) (by rw[iu];show I W)
     ·cases h
    ·ext kz z;split at h
     ·ext p;obtain⟨A,w,l⟩:=s p.1;subst w;obtain⟨v,rfl,L⟩:=N.off.one;obtain rfl:=L.rd.int;split at h
      ·ext j hj;obtain⟨dd,C,e⟩:=aY h;cases e;obtain⟨y,M,W⟩:=l.getD C;show .inr ⟨a,xs,z,j,y,rfl,rfl,f.at_,p.2.1,p.2.2,by rw[l.len];show hj,M,?_⟩;show u (F2:=λ_=>False) (F3:=λ_=>False) (λ_ z=>z.elim) (λ_ z=>z.elim) (by rw[iu];show .ofFlat A (l.erase _)) (by rw[iu];show I W)
      ·cases h
     ·cases h
    ·cases h
   ·cases h
end
noncomputable def mNames:List Str:=["append","extend","pop"]
def fx(m:Str)(i:Nat)(p:Option (Ow×D×(D->D)))(q:Option (List KD))(Y:Ro):MR:=match p,q with
 |some (.own es r,.nd .lst ds,up),Pj q=>(match k4 m es r ds q,Y[i]? with
  |some (d',ds'),Pj (Pj ⟨Po,k,_⟩)=>Pj (.sh,d',Y.set i (Pj ⟨Po,k,up (.lst ds')⟩))
  |_,_=>Pl)
 |_,_=>Pl
section
variable {X:Cx} {U:Tab} {c:Cz}
theorem nq(e:m∈mNames):∃id,Slot "list" m id/\typeOf (.builtin id)=pure (.type "method_descriptor")/\FB X id (El m):=by
 simp only[mNames,Mn,Mv,or_false] at e;rcases e with rfl|rfl|rfl
 ·show⟨_,PySem.F.slot_list_append,PySem.F.type_list_append,lS⟩
 ·show⟨_,PySem.F.slot_list_extend,PySem.F.type_list_extend,uP⟩
 ·show⟨_,PySem.F.slot_list_pop,PySem.F.type_list_pop,?_⟩;intro a s Z H x f v b Q I d c h;rcases h with h|h
  ·show Di a s Z H x f v b Q I d c h
  ·show wD a s Z H x f v b Q I d c h
theorem Em{ap cp:Pos}{f:Ro->Option (Ow×D×(D->D))}(E:m∈mNames)(B:kZ X i f b)(y:dG b=Pm)(u:(ap.endLine==cp.line)=Pm):bh X (λY=>fx m i (f Y) (Pj []) Y) (.Call (.Attribute b m ap) [] [] cp):=by
 intro Y U d Y' h g Z H Q s q;dsimp only[fx] at h;split at h
 ·ext es r O W T t M;cases M;split at h
  ·ext V I k S L j;cases h;obtain⟨A,s1,s2,w⟩:=nq (X:=X) E;show ao (qG PySem.F.plainAttrs_list s1 s2 w au (cX y) u) (B Y _ _ _ t g Z H _ s λP x v F k0 R p e1 e2 e3 N=>?_);rw[j] at e1;cases e1;let c:SE X.K (g.plus λ_=>False) Y Z x:=by rw[aW λ_ z=>z];show s.same p
   let l:g.plus (λ_=>False)=g:=aW λ_ z=>z;obtain⟨a,o,n,F',rfl,e⟩:=FP.node (F:=λ_=>False) c (λ_ z=>z.elim) j e2 (by rw[l];show e3) (by rw[l];show N) rfl;let C:o=.lst n:=e.ok;subst C;show⟨.inl ⟨rfl,n,.of e.at_⟩,iw L e (cc p (λ_ z=>z.elim) λ_ z=>z.elim) c ⟨rfl,λ_ z=>z⟩ q⟩
  ·cases h
 ·cases h
theorem AF(h:ae e=Pm)(h':ae e'=Pm):((backTo cp (Py [e,e'] env)).all (λx=>!x.1)&&(backToKw cp (keywordEach [] env)).all (λx=>x.1.isSome)
      && decide ([e,e'].length+([]:List Keyword).length+(if([]:List Keyword).isEmpty then 0 else 1)<30))=Pm:=by
  rw[ai h,ai h'];rfl
theorem Ki{ap cp:Pos}{T:Ro->Option (Ow×D×(D->D))}{P:Ro->Option (List KD)}(hm:m∈mNames)(hp:kZ X i T b)(ha:jL X P [e,e'])(x:dG b=Pm)(N:ae e=Pm)(l:ae e'=Pm)(V:(ap.endLine==cp.line)=Pm):bh X (λY=>fx m i (T Y) (P Y) Y) (.Call (.Attribute b m ap) [e,e'] [] cp):=by
 intro Y kd d Y' h g Z H Q s q;dsimp only[fx] at h;split at h
 ·ext es r ds up as ep ea;split at h
  ·ext d' hd k dd em y;cases h;obtain⟨hc,s1,s2,W⟩:=nq (X:=X) hm;show ao (wB PySem.F.plainAttrs_list s1 s2 W au cU (cX x) (AF N l) V (ai N) (by rw[ai l];rfl)) (hp Y _ _ _ ep g Z H _ s λO L v F k0 d0 j e1 e2 e3 U=>?_);rw[y] at e1;cases e1;let C:g.plus (λ_=>False)=g:=aW λ_ z=>z
   let sq:∃p,SqL X.K L (match O with|.ref a=>a|_=>0) p/\∃a,O=.ref a:=by
    obtain⟨a,o,p,F',rfl,u⟩:=FP.node (F:=λ_=>False) (by rw[C];show s.same j) (λ_ z=>z.elim) y e2 (by rw[C];show e3) (by rw[C];show U) rfl;let ho:o=.lst p:=u.ok;subst ho;show⟨p,.of u.at_,a,rfl⟩
   obtain⟨M,I,a0,rfl⟩:=sq;show⟨.inl ⟨rfl,M,I⟩,ha Y as ea g Z L _ (s.same j) λys H2 c r2=>?_⟩;obtain⟨t,w,R⟩:=r2;let S:=(s.same j).plus c w R.dom;let f:∀b,t b->g b=Pl:=λb z=>dI (s.same j).mu (w b z)
   let f3:FP X.K H2 (Sg (g.plus t)) k v F (.own es r) (.lst ds) (.ref a0) up:=by
    obtain⟨F1,Fr,q1,q2,q3,q4⟩:=U;let E:∀b o,L b=Pj o->¬Sg g b->¬Sg (g.plus t) b:=λb o e n z=>((al b).mp z).elim n λz=>by rw[w b z] at e;cases e
    show⟨F1,Fr,q1,q2,q3.go (λb o _ e=>c b o e) E,λH' S' A B t1 t2 t3 t4=>q4 H' S' A B (λb o x e=>t1 b o (x.imp (λn=>E b o e n) id) (c b o e)) (λb o e n=>t2 b o (c b o e) (E b o e n)) t3 t4⟩
   obtain⟨a,o,p,F',e4,u⟩:=FP.node (F:=t) S f y e2 (λb z=>bT (e3 b z) λz2=>by have:=e3 b z;rw[f b z2] at this;cases this) f3 rfl;cases e4;show iw em u (cc (j.trans c) (λb z=>j.free (w b z)) f) S R q
  ·cases h
 ·cases h
theorem En{b e:Pp}{ap cp:Pos}{fp:Ro->Option (Ow×D×(D->D))}{U:Ro->Option KD}(hm:m∈mNames)(hp:kZ X i fp b)(ha:SndE X U e)(B:dG b=Pm)(A:ae e=Pm)(hl:(ap.endLine==cp.line)=Pm):bh X (λY=>fx m i (fp Y) (ck (U Y) (Pj [])) Y) (.Call (.Attribute b m ap) [e] [] cp):=by
 intro Y kd d Y' h g Z H Q s q;dsimp only[fx] at h;split at h
 ·ext es r ds up as ep t;split at h
  ·ext d' hf k dd em C;cases h;obtain⟨hc,s1,s2,s3⟩:=nq (X:=X) hm;show ao (wB PySem.F.plainAttrs_list s1 s2 s3 au (bf au de (ai A)) (cX B) (xi A) hl (ai A) rfl) (hp Y _ _ _ ep g Z H _ s λT O v F k0 d0 j e1 e2 e3 S=>?_);rw[C] at e1;cases e1;unfold ck at t;split at t
   ·ext x he ex R;cases R;cases t;obtain⟨kx,dx⟩:=x;let L:g.plus (λ_=>False)=g:=aW λ_ z=>z
    let sq:∃p,SqL X.K O (match T with|.ref a=>a|_=>0) p/\∃a,T=.ref a:=by
     obtain⟨a,o,p,F',rfl,u⟩:=FP.node (F:=λ_=>False) (by rw[L];show s.same j) (λ_ z=>z.elim) C e2 (by rw[L];show e3) (by rw[L];show S) rfl;let ho:o=.lst p:=u.ok;subst ho;show⟨p,.of u.at_,a,rfl⟩
    obtain⟨P,N,a0,rfl⟩:=sq;show⟨.inl ⟨rfl,P,N⟩,ha Y kx dx ex g Z O _ (s.same j) λy H2 c r2=>?_⟩;obtain⟨l,w,V⟩:=r2;let W:=(s.same j).plus c w V.dom;let f:∀b,l b->g b=Pl:=λb z=>dI (s.same j).mu (w b z);let hd:=S.same c
    let f3:FP X.K H2 (Sg (g.plus l)) k v F (.own es r) (.lst ds) (.ref a0) up:=by
     obtain⟨F1,Fr,q1,q2,q3,q4⟩:=S;let M:∀b o,O b=Pj o->¬Sg g b->¬Sg (g.plus l) b:=λb o e n z=>((al b).mp z).elim n λz=>by rw[w b z] at e;cases e
     show⟨F1,Fr,q1,q2,q3.go (λb o _ e=>c b o e) M,λH' S' E I t1 t2 t3 t4=>q4 H' S' E I (λb o B e=>t1 b o (B.imp (λn=>M b o e n) id) (c b o e)) (λb o e n=>t2 b o (c b o e) (M b o e n)) t3 t4⟩
    obtain⟨a,o,p,F',e4,u⟩:=FP.node (F:=l) W f C e2 (λb z=>bT (e3 b z) λz2=>by have:=e3 b z;rw[f b z2] at this;cases this) f3 rfl;cases e4;show iw em u (cc (j.trans c) (λb z=>j.free (w b z)) f) W ⟨y,[],l,λ_=>False,rfl,λb=>⟨.inl,λz=>z.elim id λz=>z.elim⟩,λ_ _ z=>z,V,rfl,λ_ z=>z⟩ q
   ·cases t
  ·cases h
 ·cases h
def pi(m:Str)(i:Nat)(o:Option (Option Sl))(a:MR):MR:=match o,a with
 |some (Pj ⟨Po,.own _ _,.nd .lst _⟩),Pj (kd,d,Y1)=>fx m i (gu Y1[i]?) (Pj [(dJ kd d,d)]) Y1
 |_,_=>Pl
theorem Eo(O:am X U c){i:Nat}{e:Pp}{ap cp:Pos}{C:Ro->MR}(V:m∈mNames)(hc:e7 c x=Pj i)(ha:bh X C e)(P:dG (.Name x p)=Pm)(s:ae e=Pm)(M:(ap.endLine==cp.line)=Pm):bh X (λY=>pi m i Y[i]? (C Y)) (.Call (.Attribute (.Name x p) m ap) [e] [] cp):=by
 intro Y kd d Y' h g Z H Q K q;dsimp only[pi] at h;split at h
 ·ext hd r0 he L dx B R ex;obtain⟨S,s1,s2,N⟩:=nq (X:=X) V;obtain⟨v,F,e1,e2,e3⟩:=K.slot i _ R;let n:=e3;unfold Tr at n;obtain⟨a0,o0,l,hg,rfl,A,t,_⟩:=n;let t:o0=.lst l:=t;subst t;show ao (wB PySem.F.plainAttrs_list s1 s2 N au (bf au de (ai s)) (cX P) (xi s) M (ai s) rfl) (fX O hc p e1 ⟨.inl ⟨rfl,l,.of A⟩,ha Y L dx B ex g Z H _ K λy A H1 E u f r1=>?_⟩);unfold fx at h;split at h
  ·ext es r ds up as D W;cases W;split at h
   ·ext d' hf k T em j;cases h;have:gu B[i]?=Pj (k,T,id):=by rw[j];rfl
    rw[this] at D;cases D;obtain⟨w,Fi,I,w2,w3⟩:=f.slot i _ j;rw[e1] at I;cases I;obtain⟨a,o,xs,F',e4,nd⟩:=FP.node (F:=E) f (λb z=>(u.tmp b z).1) j e1 w2 (.root w3) rfl;cases e4;show iw em nd u f ⟨y,[],E,λ_=>False,rfl,λb=>⟨.inl,λz=>z.elim id λz=>z.elim⟩,λ_ _ z=>z,r1.im f.mu,rfl,λ_ z=>z⟩ q
   ·cases h
  ·cases h
 ·cases h
end
abbrev jX:Pr:=λ_=>False
def L3(i:Nat)(Y:Ro):Ro:=match Y[i]? with
 |some (Pj ⟨Po,.own _ _,.nd hd ds⟩)=>if hd.mu=Pm then Y.set i (Pj ⟨Po,.own [] .fz,.nd hd ds⟩) else Y
 |_=>Y
inductive BP where
 |nm (i:Nat)
 |ix (b:BP) (e:IE)
 |fld (b:BP) (f:Str)
noncomputable def BP.slot:BP->Nat
 |.nm i=>i
 |.ix b _=>b.slot
 |.fld b _=>b.slot
def pj(U:Nat->Option Fn):BP->Ro->Option (Ow×D×(D->D))
 |.nm i,Y=>gu Y[i]?
 |.ix b e,Y=>xL (pj U b Y) (aa U e Y)
 |.fld b f,Y=>tF f (pj U b Y)
mutual
inductive ME where
 |p (e:IE)
 |mv (i:Nat)
 |fz (i:Nat)
 |io (f:Nat) (as:MAs)
 |fn (f:Nat) (as:lx)
 |blt (x:Str) (as:lx)
 |tup (k:Ow) (as:lx)
 |lst (k:Ow) (as:lx)
 |bin (op:PJ) (as:lx)
 |cmp (op:PU) (as:lx)
 |ix (as:lx)
 |slh (as:lx)
 |ifx (t:MT) (a b:ME)
 |comp (r:Ow) (cap:List (Option Nat)) (tg:IT) (it:MI) (ts:MO) (elt:ME)
 |mut (m:Str) (b:BP) (as:fU)
 |mutM (m:Str) (i:Nat) (a:ME)
 |mutMs (m:Str) (i:Nat) (as:lx)
 |sdf (i:Nat) (k b:IE)
inductive MI where
 |p (it:II)
 |e (a:ME)
 |enm (a:ME)
 |rng (a:ME)
inductive MAs where
 |nil
 |ref (i:Nat) (r:MAs)
 |val (a:ME) (r:MAs)
inductive lx where
 |fin (a:ME) (r:fU)
 |cons (a:ME) (r:lx)
inductive MT where
 |p (e:IE)
 |cmp (op:PU) (as:lx)
 |not (t:MT)
 |bool (op:BoolOp) (ts:Jg)
 |tru (a:ME)
 |vw (is:List Nat) (e:IE)
inductive Jg where
 |one (t:MT)
 |cons (t:MT) (r:Jg)
inductive MO where
 |non
 |som (t:MT)
end
noncomputable def oS(f:List KD->Option KD)(a:Option (List KD×Ro)):MR:=match a with
 |some (kds,Y)=>(match f kds with|some (kd,d)=>Pj (kd,d,Y)|none=>Pl)
 |none=>Pl
def HB(op:PU)(a:Option (List KD×Ro)):Option (Bool×Ro):=match a with
 |some ([x,y],Y)=>(match cA op x.2 y.2 with|some b=>Pj (b,Y)|none=>Pl)
 |_=>Pl
noncomputable def Jh(a:Option KD)(Y:Ro):MR:=match a with|some (kd,d)=>Pj (kd,d,Y)|none=>Pl
noncomputable def Kj(a:Option Bool)(Y:Ro):Option (Bool×Ro):=match a with|some b=>Pj (b,Y)|none=>Pl
def Ep(op:BoolOp)(a:Option (Bool×Ro))(r:Ro->Option (Bool×Ro)):Option (Bool×Ro):=match a with
 |some (x,Y)=>if(op==.And)=x then r Y else Pj (x,Y)
 |none=>Pl
structure GG where
 fn:Nat->Option Fn
 fm:Nat->Option Fm
mutual
def aQ(U:GG):ME->Ro->MR
 |.p e,Y=>Jh (aa U.fn e Y) Y
 |.mv i,Y=>va i Y
 |.fz i,Y=>Pl
 |.io f as,Y=>Az (U.fm f) (cL U as Y)
 |.fn f as,Y=>Pl
 |.blt x as,Y=>oS (eI x) (bI U as Y)
 |.tup k as,Y=>oS (λkds=>hZq k (Pj kds)) (bI U as Y)
 |.lst k as,Y=>Pl
 |.bin op as,Y=>Pl
 |.cmp op as,Y=>Pl
 |.ix as,Y=>oS (f2 Jf) (bI U as Y)
 |.slh as,Y=>Pl
 |.ifx t a b,Y=>Pl
 |.comp r cap tg it ts elt,Y=>gO r (c4 U it Y) (gJ cap tg (nr U ts) (aQ U elt)) cap
 |.mut m b as,Y=>fx m b.slot (pj U.fn b Y) (aP U.fn as Y) Y
 |.mutM m i a,Y=>pi m i Y[i]? (aQ U a Y)
 |.mutMs m i as,Y=>Pl
 |.sdf i k b,Y=>Pl
def c4(U:GG):MI->Ro->IR
 |.p it,Y=>Je (dC U.fn it Y) Y
 |.e a,Y=>Pl
 |.enm a,Y=>Pl
 |.rng a,Y=>Pl
def cL(U:GG):MAs->Ro->Option (List RA×Ro)
 |.nil,Y=>Pj ([],Y)
 |.ref i r,Y=>l8 i Y[i]? (cL U r Y)
 |.val a r,Y=>tq (aQ U a Y) (cL U r)
def bI(U:GG):lx->Ro->Option (List KD×Ro)
 |.fin a r,Y=>gq (aQ U a Y) (aP U.fn r)
 |.cons a r,Y=>gH (aQ U a Y) (bI U r)
def bH(U:GG):MT->Ro->Option (Bool×Ro)
 |.p e,Y=>Kj (aE U.fn e Y) Y
 |.vw is e,Y=>Pl
 |.cmp op as,Y=>Pl
 |.not t,Y=>Pl
 |.bool op ts,Y=>Pl
 |.tru a,Y=>Pl
def BR(U:GG)(op:BoolOp):Jg->Ro->Option (Bool×Ro)
 |.one t,Y=>bH U t Y
 |.cons t r,Y=>Ep op (bH U t Y) (BR U op r)
def nr(U:GG):MO->Ro->Option (Bool×Ro)
 |.non,Y=>Pj (Pm,Y)
 |.som t,Y=>bH U t Y
end
section
theorem xM{U:GG}:aQ U (.p e) Y=Jh (aa U.fn e Y) Y:=rfl
theorem Er:aQ U (.mv i) Y=va i Y:=rfl
theorem rh{U:GG}:aQ U (.io f as) Y=Az (U.fm f) (cL U as Y):=rfl
theorem AG:aQ U (.blt x as) Y=oS (eI x) (bI U as Y):=rfl
theorem AH:aQ U (.tup k as) Y=oS (λkds=>hZq k (Pj kds)) (bI U as Y):=rfl
theorem Es:aQ U (.ix as) Y=oS (f2 Jf) (bI U as Y):=rfl
theorem pp:aQ U (.comp r cap tg it ts elt) Y=gO r (c4 U it Y) (gJ cap tg (nr U ts) (aQ U elt)) cap:=rfl
theorem iy{U:GG}:aQ U (.mut m b as) Y=fx m b.slot (pj U.fn b Y) (aP U.fn as Y) Y:=rfl
theorem xN:aQ U (.mutM m i a) Y=pi m i Y[i]? (aQ U a Y):=rfl
end
theorem f8{f:Ro->MR}(h:∀Y,f Y=Pl):bh X f e:=λY c d b a=>by rw[h] at a;cases a
theorem pq{f:Ro->Option (Bool×Ro)}(h:∀Y,f Y=Pl):ip X f e:=λY b d a=>by rw[h] at a;cases a
theorem tG{f:Ro->IR}(h:∀Y,f Y=Pl):jD X f tg e:=λY b d c a=>by rw[h] at a;cases a
def n4(f:Pp->Option ME)(g:Pp->Option IE):List Pp->Option lx
 |[]=>Pl
 |e::es=>if ae e then(match dH g es with
  |some r=>(f e).map λa=>.fin a r
  |none=>(match f e,n4 f g es with|some a,Pj r=>Pj (.cons a r)|_,_=>Pl)) else Pl
def BS(c:Cz)(f:Pp->Option ME):List Bool->List Pp->Option MAs
 |_,[]=>Pj .nil
 |true::fl,.Name x _::es=>(match e7 c x,BS c f fl es with|some i,Pj r=>Pj (.ref i r)|_,_=>Pl)
 |fl,e::es=>if ae e then(match f e,BS c f fl.tail es with|some a,Pj r=>Pj (.val a r)|_,_=>Pl) else Pl
def xO(c:Cz)(f:Pp->Option ME)(it:Option II)(tg iter:Pp):Option MI:=match it with
 |some it=>Pj (.p it)
 |none=>match iter with
  |.Call (.Name x _) [a] [] _=>
   if x="range" then(if f7 c.sc "range" && ae a then(f a).map .rng else Pl)
   else if x="enumerate" then(if f7 c.sc "enumerate" && ae a&&kH tg then(f a).map .enm else Pl)
   else(f iter).map .e
  |_=>(f iter).map .e
noncomputable def Kl(f:Pp->Option MT):List Pp->Option Jg
 |[]=>Pl
 |[e]=>(f e).map .one
 |e::es=>match f e,Kl f es with|some a,Pj r=>Pj (.cons a r)|_,_=>Pl
def BU(c:Cz)(f:Pp->Option IE):Nat->Pp->Option BP
 |0,_=>Pl
 |n+1,e=>match e with
  |.Name x _=>(e7 c x).map .nm
  |.Subscript a b _=>if cV b then(match BU c f n a,f b with|some p,Pj e=>Pj (.ix p e)|_,_=>Pl) else Pl
  |.Attribute a z _=>if dG a then(BU c f n a).map λp=>.fld p z else Pl
  |_=>Pl
def Ji(m:Str)(b:Pp)(ap cp:Pos):Bool:=mNames.contains m&&dG b&&(ap.endLine==cp.line)
def Km(fns:Nms)(c:Cz)(x:Str)(p:Pos):Option ME:=match fns.md p.line p.col with
 |none=>Pl
 |some Pm=>(e7 c x).map .mv
 |some Po=>(e7 c x).map .fz
def Kn(fns:Nms)(c:Cz)(q:Pp->Option ME)(B:Pp->Option IE)(x:Str)(W:List Pp):Option ME:=match W with
 |[]=>Pl
 |a::es=>if f7 c.sc x&&(a::es).all ae then(match aZ x fns.fns with
  |some i=>(match fns.io i with
   |some O=>(BS c q O (a::es)).map (.io i)
   |none=>(n4 q B (a::es)).map (.fn i))
  |none=>(n4 q B (a::es)).map (.blt x)) else Pl
def Jj(c:Cz)(O:Pp->Option ME)(q:Pp->Option IE)(b:Pp)(m:Str)(ap cp:Pos)(W:List Pp):Option ME:=match W with
 |[]=>if Ji m b ap cp then(BU c q 6 b).map λp=>.mut m p .nil else Pl
 |e::es=>match es with
  |_::_=>Pl
  |[]=>if Ji m b ap cp&&ae e then(match q e with
   |some B=>(BU c q 6 b).map λp=>.mut m p (.cons B .nil)
   |none=>(match b with|.Name x _=>(match e7 c x,O e with|some i,Pj a=>Pj (.mutM m i a)|_,_=>Pl)|_=>Pl)) else Pl
def Ko(fns:Nms)(c:Cz)(q:Pp->Option ME)(O:Pp->Option IE)(g:Pp)(B:List Pp)(ks:List Keyword)(cp:Pos):Option ME:=match ks with
 |_::_=>Pl
 |[]=>match g with
  |.Name x _=>Kn fns c q O x B
  |.Attribute b m ap=>Jj c q O b m ap cp B
  |_=>Pl
def vb{α:Type}(k:PU->lx->α)(q:Pp->Option ME)(B:Pp->Option IE)(a:Pp)(ops:List PU)(bs:List Pp):Option α:=match ops with
 |[]=>Pl
 |op::ops=>match ops with
  |_::_=>Pl
  |[]=>match bs with
   |[]=>Pl
   |b::bs=>match bs with
    |_::_=>Pl
    |[]=>if PR op b then Pl else(n4 q B [a,b]).map (k op)
noncomputable def jY(f:Pp->Option MT):List Pp->Option MO
 |[]=>Pj .non
 |[e]=>(f e).map .som
 |_=>Pl
def vc(fns:Nms)(c:Cz)(B:Cz->Pp->Option ME)(W:Cz->Pp->Option IE)(O:Cz->Pp->Option MT)(elt:Pp)(q:List Comprehension)(scope:PH)(p:Pos):Option ME:=match q with
 |[]=>Pl
 |g::q=>match q with
  |_::_=>Pl
  |[]=>if g.is_async=0 then(if dh g.iter&&a9 c scope then(match m9 ⟨eT scope c.sc,ac scope,e6 scope⟩ 4 g.target,xO c (B c) (DZ c (W c) g.target g.iter) g.target g.iter,jY (O ⟨eT scope c.sc,ac scope,e6 scope⟩) g.ifs,B ⟨eT scope c.sc,ac scope,e6 scope⟩ elt with
    |some t,Pj it,Pj ts,Pj el=>Pj (.comp ((fns.an p.line p.col).getD .fz) (aw c scope) t it ts el)|_,_,_,_=>Pl) else Pl) else Pl
noncomputable def Et:Pp->Option Pp
 |.Slice Pl (Pj hi) Pl _=>Pj hi
 |_=>Pl
theorem AI(h:Et b=Pj hi):∃p,b=.Slice Pl (Pj hi) Pl p:=by
 unfold Et at h;split at h
 ·cases h;show⟨_,rfl⟩
 ·cases h
mutual
def cM(fns:Nms):Nat->Cz->Pp->Option ME
 |0,_,_=>Pl
 |n+1,c,e=>match cE fns n c e with
  |some q=>Pj (.p q)
  |none=>match e with
   |.Name x p=>Km fns c x p
   |.Call g as ks cp=>Ko fns c (cM fns n c) (cE fns n c) g as ks cp
   |.Tuple es _ p=>(n4 (cM fns n c) (cE fns n c) es).map (.tup (fns.kT p))
   |.List es p=>(n4 (cM fns n c) (cE fns n c) es).map (.lst (fns.kL p))
   |.BinOp a op b _=>(n4 (cM fns n c) (cE fns n c) [a,b]).map (.bin op)
   |.Compare a ops bs _=>vb ME.cmp (cM fns n c) (cE fns n c) a ops bs
   |.Subscript a b _=>if cV b then(n4 (cM fns n c) (cE fns n c) [a,b]).map .ix else(match Et b with|some hi=>(n4 (cM fns n c) (cE fns n c) [a,hi]).map .slh|none=>Pl)
   |.IfExp t a b _=>match vZ fns n c t,cM fns n c a,cM fns n c b with|some t,Pj a,Pj b=>Pj (.ifx t a b)|_,_,_=>Pl
   |.ListComp elt gs scope p=>vc fns c (cM fns n) (cE fns n) (vZ fns n) elt gs scope p
   |_=>Pl
def vZ(fns:Nms):Nat->Cz->Pp->Option MT
 |0,_,_=>Pl
 |n+1,c,e=>match cT fns n c e with
  |some q=>(match fns.vw e.pos.line e.pos.col with|[]=>Pj (.p q)|i::is=>Pj (.vw (i::is) q))
  |none=>match e with
   |.Compare a ops bs _=>vb MT.cmp (cM fns n c) (cE fns n c) a ops bs
   |.UnaryOp op a _=>(match op with|.Not=>(vZ fns n c a).map .not|_=>Pl)
   |.BoolOp op es _=>(Kl (vZ fns n c) es).map (.bool op)
   |.Call f as ks p=>(cM fns n c (.Call f as ks p)).map .tru
   |.Subscript a b p=>(cM fns n c (.Subscript a b p)).map .tru
   |.Name x p=>(cM fns n c (.Name x p)).map .tru
   |.Constant k j p=>(cM fns n c (.Constant k j p)).map .tru
   |_=>Pl
end
def lG(fns:Nms)(U:GG):Str->Option (Md->Sp):=λx=>(aZ x fns.fns).bind λi=>(U.fm i).map λB=>λK=>u9 K B
abbrev a8(fns:Nms)(U:GG):Tab:=bR fns U.fn (lG fns U)
section
variable {X:Cx} {c:Cz} (fns:Nms) (U:GG)
theorem rj(O:am X (bR fns U.fn fm) c){f:Pp->Option ME}{n:Pp->Option IE}(j:∀e a,f e=Pj a->bh X (aQ U a) e)(s:∀e q,n e=Pj q->SndE X (aa U.fn q) e)(h:xO c f (DZ c n tg iter) tg iter=Pj it):jD X (c4 U it) tg iter:=by
 let o:∀{it:MI},(f iter).map MI.e=Pj it->jD X (c4 U it) tg iter:=λh=>by
  obtain⟨a,i,rfl⟩:=aY h
  first|(show tG λY=>?_;rw[c4];done)|(rw[show c4 U (.e a)=λY=>oIt m7 (aQ U a Y) by funext Y;rw[c4]];show s_imE (j _ _ i))
 unfold xO at h;split at h
 ·ext d l;cases h
  first|(show tG λY=>?_;rw[c4];done)|(rw[show c4 U (.p d)=λY=>Je (dC U.fn d Y) Y by funext Y;rw[c4]];show(sY fns U.fn O s l).m)
 ·split at h
  ·rename_i x p a r _;split at h
   ·ext k;subst k;split at h
    ·ext b;rw[Me] at b;obtain⟨g,i,rfl⟩:=aY h
     first|(show tG λY=>?_;rw[c4];done)|(rw[show c4 U (.rng g)=λY=>oIt (lE (Pj (.sh,.int 0))) (aQ U g Y) by funext Y;rw[c4]];show s_imR O b.1 b.2 (j _ _ i))
    ·cases h
   ·split at h
    ·ext k;subst k;split at h
     ·ext b;rw[Me,Me] at b;obtain⟨g,i,rfl⟩:=aY h
      first|(show tG λY=>?_;rw[c4];done)|(rw[show c4 U (.enm g)=λY=>oIt oX (aQ U g Y) by funext Y;rw[c4]];show s_imEnm O b.1.1 b.1.2 b.2 (j _ _ i))
     ·cases h
    ·show o h
  ·show o h
theorem dL(f:List KD->Option KD)(a:Ro->Option (List KD×Ro)):(λY=>oS f (a Y))=λY=>(a Y).bind λp=>(f p.1).map λq=>(q.1,q.2,p.2):=by
 funext Y;unfold oS
 cases a Y with
 |none=>rfl
 |some p=>
  obtain⟨b,c⟩:=p;dsimp only[MZ]
  cases f b with
  |none=>rfl
  |some q=>rfl
theorem rm(h:SndE X (aa U.fn ie) e):bh X (aQ U (.p ie)) e:=by
 have:=h.m
 rw[show(λY=>(aa U.fn ie Y).map λp=>(p.1,p.2,Y))=aQ U (.p ie) by funext Y;rw[xM];unfold Jh;cases aa U.fn ie Y<;>rfl] at this
 show this
theorem pt{f:Pp->Option ME}{g:Pp->Option IE}(i:∀e a,f e=Pj a->bh X (aQ U a) e)(k:∀e a,g e=Pj a->SndE X (aa U.fn a) e):∀{es:List Pp} {b:lx},n4 f g es=Pj b->pc X (bI U b) es
 |[],b,h=>by cases h
 |e::es,b,h=>by
  unfold n4 at h;split at h
  ·ext j;split at h
   ·ext r c;obtain⟨a,d,rfl⟩:=aY h
    rw[show bI U (.fin a r)=λY=>gq (aQ U a Y) (aP U.fn r) by funext Y;conv=>lhs;rw[bI]]
    show Ee j (i _ _ d) (fW U.fn k c).1
   ·split at h
    ·ext a r d c;cases h
     rw[show bI U (.cons a r)=λY=>gH (aQ U a Y) (bI U r) by funext Y;conv=>lhs;rw[bI]]
     show Ay j (i _ _ d) (pt i k c)
    ·cases h
  ·cases h
theorem pv{f:Pp->Option ME}{g:Pp->Option IE}(k:∀e a,f e=Pj a->bh X (aQ U a) e)(n:∀e a,g e=Pj a->SndE X (aa U.fn a) e){a b:Pp}(h:n4 f g [a,b]=Pj as):ph X (bI U as) a b:=by
 unfold n4 at h;split at h
 ·ext s;split at h
  ·ext r c;obtain⟨j,m,rfl⟩:=aY h;unfold dH dH at c;split at c
   ·split at c
    ·ext i p l d;cases c;cases d
     rw[show bI U (.fin j (.cons i .nil))=λY=>gq (aQ U j Y) λY=>ck (aa U.fn i Y) (Pj []) by
      funext Y;simp only[bI,aP]
      try rfl]
     show Ei (k _ _ m) (n _ _ l)
    ·cases c
   ·cases c
  ·split at h
   ·ext j r m c;cases h;unfold n4 at c;split at c
    ·split at c
     ·ext p d;cases d;obtain⟨i,o,rfl⟩:=aY c
      rw[show bI U (.cons j (.fin i .nil))=λY=>gH (aQ U j Y) λY=>gq (aQ U i Y) λ_=>Pj [] by
       funext Y;simp only[bI,aP]
       try rfl]
      show AD (k _ _ m) (k _ _ o)
     ·ext q;show absurd q (by simp[dH])
    ·cases c
   ·cases h
 ·cases h
theorem Eu(O:am X Ut c){f:Pp->Option ME}(k:∀e a,f e=Pj a->bh X (aQ U a) e):∀{j:List Bool} {es:List Pp} {b:MAs},BS c f j es=Pj b->gr X (cL U b) es
 |j,[],b,h=>by
  have:b=.nil:=by
   unfold BS at h;cases h;rfl
  subst this;rw[show cL U .nil=λY=>Pj ([],Y) by funext Y;rw[cL]];show BN
 |j,e::es,b,h=>by
  let m:∀{d:List Bool} {b:MAs},(if ae e then(match f e,BS c f d es with|some a,Pj r=>Pj (MAs.val a r)|_,_=>Pl) else Pl)=Pj b->gr X (cL U b) (e::es):=λh=>by
   split at h
   ·ext n;split at h
    ·ext a r o g;cases h
     rw[show cL U (.val a r)=λY=>tq (aQ U a Y) (cL U r) by funext Y;conv=>lhs;rw[cL]]
     show xF n (k _ _ o) (Eu O k g)
    ·cases h
   ·cases h
  unfold BS at h;split at h
  ·ext q;cases q
  ·ext d x p l q;cases q;split at h
   ·ext i r s g;cases h
    rw[show cL U (.ref i r)=λY=>l8 i Y[i]? (cL U r Y) by funext Y;conv=>lhs;rw[cL]]
    show Hw O s (Eu O k g)
   ·cases h
  ·ext d t l q;cases q;show m h
theorem bC(a:Evo g H g1 H1 (λ_=>False))(b:Evo g1 H1 g2 H2 F2):Evo g H g2 H2 F2:=by
 let t:=a.trans (F1:=λ_=>False) (g2:=g2) (H2:=H2) (F2:=F2) (by rw[aW λ_ z=>z];show b);let e1:g2.minus (λ_=>False)=g2:=by funext c;show bG λz=>z
 rw[e1] at t;show t.drop λc z=>.inr z
theorem vd(O:am X Ut c){f:Pp->Option IE}(d:∀e a,f e=Pj a->SndE X (aa U.fn a) e):∀(n:Nat) {e:Pp} {b:BP},BU c f n e=Pj b->kZ X b.slot (pj U.fn b) e
 |0,e,b,h=>by cases h
 |n+1,e,b,h=>by
  unfold BU at h;split at h
  ·ext x p;obtain⟨i,m,rfl⟩:=aY h;show Ej O m p
  ·ext a o p;split at h
   ·ext l;split at h
    ·ext q r g j;cases h;show Ek O (vd O d n g) (d _ _ j) l
    ·cases h
   ·cases h
  ·ext a z p;split at h
   ·ext k;obtain⟨q,g,rfl⟩:=aY h;show HA (cX k) (vd O d n g)
   ·cases h
  ·cases h
theorem xP{ap cp:Pos}(h:Ji m b ap cp=Pm):m∈mNames/\dG b=Pm/\(ap.endLine==cp.line)=Pm:=by
 simp only[Ji,Me] at h;show⟨by simpa using h.1.1,h.1.2,h.2⟩
theorem Kp(O:am X (a8 fns U) c)(h:Km fns c x p=Pj a):bh X (aQ U a) (.Name x p):=by
 unfold Km at h;split at h
 ·cases h
 ·obtain⟨i,b,rfl⟩:=aY h
  first|(show f8 λ_=>rfl)|(rw[show aQ U (.mv i)=va i from funext λ_=>rfl];show Hz O b p)
 ·obtain⟨i,b,rfl⟩:=aY h
  first|(show f8 λ_=>rfl)|(rw[show aQ U (.fz i)=oFrz i from funext λ_=>rfl];show s_frz O b p)
theorem HC(O:am X (a8 fns U) c){g:Pp->Option ME}(k:∀e a,g e=Pj a->bh X (aQ U a) e){es:List Pp}{a:ME}(h:(BS c g fl (a'::es)).map (.io i)=Pj a)(h1:f7 c.sc x=Pm)(h2:ae a'=Pm)(l:es.all ae=Pm)(hi:aZ x fns.fns=Pj i):bh X (aQ U a) (.Call (.Name x p) (a'::es) [] pos):=by
 obtain⟨j,m,rfl⟩:=aY h
 first
  |(show f8 λ_=>rfl)
  |(cases b:U.fm i with
   |none=>
    intro Y n d o f;rw[rh,b] at f;cases f
   |some B=>
    rw[show aQ U (.io i j)=λY=>Az (Pj B) (cL U j Y) by funext Y;rw[rh,b]];show Kh O (B:=B) ?_ h1 h2 l (Eu U O k m);change lG fns U x=_;unfold lG;rw[hi,MZ,b];rfl)
theorem Kq(O:am X (a8 fns U) c){o:Pp->Option ME}{r:Pp->Option IE}(g:∀e a,o e=Pj a->bh X (aQ U a) e)(q:∀e k,r e=Pj k->SndE X (aa U.fn k) e){a:ME}(h:Kn fns c o r x as=Pj a):bh X (aQ U a) (.Call (.Name x p) as [] pos):=by
 cases as with
 |nil=>cases h
 |cons u s=>
  dsimp only[Kn] at h;split at h
  ·ext b;rw[Me,No,Me] at b;split at h
   ·ext i n;split at h
    ·ext v t;show HC fns U O g h b.1 b.2.1 b.2.2 n
    ·obtain⟨as,j,rfl⟩:=aY h
     first
     |(show f8 λ_=>rfl)
     |cases f:U.fn i with
      |none=>
       intro Y w d y l;rw[evM_fn,f] at l;cases l
      |some B=>
       rw[show aQ U (.fn i as)=λY=>oS (zf B) (bI U as Y) by funext Y;rw[evM_fn,f],dL];show(n_fn O (B:=B) ?_ b.1 b.2.1 b.2.2).m (pt U g q j);change(aZ x fns.fns).bind U.fn=_;rw[n];show f
   ·obtain⟨as,j,rfl⟩:=aY h
    first|(show f8 λ_=>rfl)|(rw[show aQ U (.blt x as)=λY=>oS (eI x) (bI U as Y) by show funext λ_=>rfl,dL];show(oV O x u s p pos (cC O b.1) b.2.1 b.2.2).m (pt U g q j))
  ·cases h
theorem Kr(O:am X (a8 fns U) c){q:Pp->Option ME}{r:Pp->Option IE}(t:∀e a,q e=Pj a->bh X (aQ U a) e)(k:∀e l,r e=Pj l->SndE X (aa U.fn l) e){a:ME}(h:Jj c q r b m ap cp as=Pj a):bh X (aQ U a) (.Call (.Attribute b m ap) as [] cp):=by
 cases as with
 |nil=>
  dsimp only[Jj] at h;split at h
  ·ext hk;obtain⟨g,d,f⟩:=xP hk;obtain⟨p,j,rfl⟩:=aY h
   first|(show f8 λ_=>rfl)|(rw[show ∀m,aQ U (.mut m p .nil)=λY=>fx m p.slot (pj U.fn p Y) (Pj []) Y by intro m;funext Y;rw[iy,aP]];show Em g (vd U O k _ j) d f)
  ·cases h
 |cons e u=>cases u with
  |cons _ _=>cases h
  |nil=>
   dsimp only[Jj] at h;split at h
   ·ext hk;rw[Me] at hk;obtain⟨g,d,f⟩:=xP hk.1;split at h
    ·ext o s;obtain⟨p,j,rfl⟩:=aY h
     first|(show f8 λ_=>rfl)|(rw[show ∀m,aQ U (.mut m p (.cons o .nil))=λY=>fx m p.slot (pj U.fn p Y) (ck (aa U.fn o Y) (Pj [])) Y by intro m;funext Y;rw[iy,aP,aP]];show En g (vd U O k _ j) (k _ _ s) d hk.2 f)
    ·split at h
     ·split at h
      ·ext i n w v;cases h
       first|(show f8 λ_=>rfl)|(rw[show ∀m,aQ U (.mutM m i n)=λY=>pi m i Y[i]? (aQ U n Y) by intro m;show funext λ_=>rfl];show Eo O g w (t _ _ v) d hk.2 f)
      ·cases h
     ·cases h
   ·cases h
theorem Ks(O:am X (a8 fns U) c){d:Pp->Option ME}{j:Pp->Option IE}(b:∀e a,d e=Pj a->bh X (aQ U a) e)(i:∀e f,j e=Pj f->SndE X (aa U.fn f) e){a:ME}(h:Ko fns c d j g as ks pos=Pj a):bh X (aQ U a) (.Call g as ks pos):=by
 cases ks with
 |cons _ _=>cases h
 |nil=>
  dsimp only[Ko] at h;split at h
  ·show Kq fns U O b i h
  ·show Kr fns U O b i h
  ·cases h
theorem tH{α:Type}{k:PU->lx->α}{d:Pp->Option ME}{e:Pp->Option IE}{a:Pp}{ops:List PU}{bs:List Pp}{r:α}(h:vb k d e a ops bs=Pj r):∃op b c,ops=[op]/\bs=[b]/\PR op b=Po/\n4 d e [a,b]=Pj c/\r=k op c:=by
 cases ops with
 |nil=>cases h
 |cons op ops=>cases ops with
  |cons _ _=>cases h
  |nil=>cases bs with
   |nil=>cases h
   |cons b bs=>cases bs with
    |cons _ _=>cases h
    |nil=>
     dsimp only[vb] at h;split at h
     ·cases h
     ·ext g;obtain⟨c,f,rfl⟩:=aY h;show⟨op,b,c,rfl,rfl,by simpa using g,f,rfl⟩
theorem tI{k:Cz->Pp->Option ME}{m:Cz->Pp->Option IE}{l:Cz->Pp->Option MT}{p:Pos}(h:vc fns c k m l elt gs scope p=Pj a):∃tg iter ifs t it b d,gs=[⟨tg,iter,ifs,0⟩]/\dh iter=Pm/\a9 c scope=Pm/\m9 ⟨eT scope c.sc,ac scope,e6 scope⟩ 4 tg=Pj t/\xO c (k c) (DZ c (m c) tg iter) tg iter=Pj it/\jY (l ⟨eT scope c.sc,ac scope,e6 scope⟩) ifs=Pj b/\k ⟨eT scope c.sc,ac scope,e6 scope⟩ elt=Pj d/\a=.comp ((fns.an p.line p.col).getD .fz) (aw c scope) t it b d:=by
 cases gs with
 |nil=>cases h
 |cons g gs=>cases gs with
  |cons _ _=>cases h
  |nil=>
   dsimp only[vc] at h;split at h
   ·ext o;split at h
    ·ext e;rw[Me] at e;split at h
     ·ext t it b d n i j f;cases h
      cases g with
      |mk tg iter ifs q=>
       subst o;show⟨tg,iter,ifs,t,it,b,d,rfl,e.1,e.2,n,i,j,f,rfl⟩
     ·cases h
    ·cases h
   ·cases h
theorem Ev(O:am X Ut c){op:PU}{x b:Pp}(d:PR op b=Po)(h:ph X (bI U as) x b):ip X (bH U (.cmp op as)) (.Compare x [op] [b] p):=by
  first
    |(show pq λY=>?_;rw[bH];done)
    | (have:=t_cmpM (pos:=p) O d h
       let e:bH U (.cmp op as)=λY=>((bI U as Y).bind λp=>(match p.1 with|[x,y]=>(cA op x.2 y.2).map λb=>(b,p.2)|_=>Pl)):=by
         funext Y;rw[bH];unfold HB
         cases bI U as Y with
         |none=>rfl
         |some p=>
           obtain⟨a,f⟩:=p;dsimp only[MZ]
           match a with
           |[]=>rfl
           |[_]=>rfl
           |[x,y]=>dsimp only;cases cA op x.2 y.2<;>rfl
           |_::_::_::_=>rfl
       rw[e];show this)
theorem gG{f:Pp->Option ME}(d:∀e a,f e=Pj a->bh X (aQ U a) e){e:Pp}(h:(f e).map MT.tru=Pj t)(i:∀b,isTrue e X.env b=(do let v <- b;standAt e.pos;holding [v] (truthy v))):ip X (bH U t) e:=by
 obtain⟨c,g,rfl⟩:=aY h
 first|(show pq λY=>?_;rw[bH];done)|(rw[show bH U (.tru c)=λY=>oTTru (aQ U c Y) by funext Y;conv=>lhs;rw[bH]];show t_truM (d _ _ g) i)
theorem pw{f:Pp->Option MT}(c:∀e t,f e=Pj t->ip X (bH U t) e)(h:jY f o=Pj io):kX X (nr U io) o:=by
 unfold jY at h;split at h
 ·cases h;let e:nr U .non=λY=>Pj (Pm,Y):=by funext Y;rw[nr]
  rw[e];show Eg
 ·obtain⟨a,b,rfl⟩:=aY h;let e:nr U (.som a)=bH U a:=by funext Y;rw[nr]
  rw[e];show Eh (c _ _ b)
 ·cases h
theorem iz:∀n:Nat,(∀X c,am X (a8 fns U) c->∀e a,cM fns n c e=Pj a->bh X (aQ U a) e)/\(∀X c,am X (a8 fns U) c->∀e t,vZ fns n c e=Pj t->ip X (bH U t) e)
 |0=>⟨λX c O e a h=>by (cases(show(Pl:Option ME)=Pj a from h)),λX c O e a h=>by (cases(show(Pl:Option MT)=Pj a from h))⟩
 |n+1=>by
  obtain⟨L,D⟩:=iz n;let v:=cF (fm:=lG fns U) fns U.fn n;show⟨λX c O e a h=>?_,λX c O e a h=>?_⟩
  ·let z:=v.1 X c O;let o:=L X c O;let T:=D X c O
   replace h:(match cE fns n c e with|some w=>Pj (ME.p w)|none=>_)=Pj a:=h
   split at h
   ·ext w P;cases h;show rm U (z _ _ P)
   ·cases e with
    |Name x p=>show Kp fns U O h
    |Call g d ks hl=>show Ks fns U O o z h
    |Tuple R k p=>
     obtain⟨d,u,rfl⟩:=aY (show(n4 (cM fns n c) (cE fns n c) R).map (.tup (fns.kT p))=Pj a from h)
     first|(show f8 λ_=>rfl)|(rw[show ∀k,aQ U (.tup k d)=λY=>oS (λF=>hZq k (Pj F)) (bI U d Y) by intro k;show funext λ_=>rfl,dL];show n_tup.m (pt U o z u))
    |List R p=>
     obtain⟨d,u,rfl⟩:=aY (show(n4 (cM fns n c) (cE fns n c) R).map (.lst (fns.kL p))=Pj a from h)
     first|(show f8 λ_=>rfl)|(rw[show ∀k,aQ U (.lst k d)=λY=>oS (λF=>m6 k (Pj F)) (bI U d Y) by intro k;show funext λ_=>rfl,dL];show n_lst.m (pt U o z u))
    |BinOp x l y p=>
     obtain⟨d,u,rfl⟩:=aY (show(n4 (cM fns n c) (cE fns n c) [x,y]).map (.bin l)=Pj a from h)
     first|(show f8 λ_=>rfl)|(rw[show ∀l,aQ U (.bin l d)=λY=>oS (f2 (f6 l)) (bI U d Y) by intro k;show funext λ_=>rfl,dL];show n_bin.m (pv U o z u))
    |Compare x K W p=>
     obtain⟨l,b,d,rfl,rfl,hm,u,rfl⟩:=tH (show vb ME.cmp (cM fns n c) (cE fns n c) x K W=Pj a from h)
     first|(show f8 λ_=>rfl)|(rw[show ∀l,aQ U (.cmp l d)=λY=>oS (f2 λx y=>bV (cA l x.2 y.2)) (bI U d Y) by intro k;show funext λ_=>rfl,dL];show(n_cmp O hm).m (pv U o z u))
    |Subscript x b p=>
     dsimp only at h;split at h
     ·ext hp;obtain⟨d,u,rfl⟩:=aY h
      first|(show f8 λ_=>rfl)|(rw[show aQ U (.ix d)=λY=>oS (f2 Jf) (bI U d Y) by show funext λ_=>rfl,dL];show(Kg O hp).m (pv U o z u))
     ·split at h
      ·ext P hf;obtain⟨p2,rfl⟩:=AI hf;obtain⟨d,u,rfl⟩:=aY h
       first|(show f8 λ_=>rfl)|(rw[show aQ U (.slh d)=λY=>oS (f2 fSlh) (bI U d Y) by show funext λ_=>rfl,dL];show n_slh.m (pv U o z u))
      ·cases h
    |IfExp t x b p=>
     dsimp only at h;split at h
     ·ext t' a' b' B u hb;cases h
      first|(show f8 λ_=>rfl)|(rw[show aQ U (.ifx t' a' b')=λY=>oIfM (bH U t' Y) (aQ U a') (aQ U b') by show funext λ_=>rfl];show s_ifM (T _ _ B) (o _ _ u) (o _ _ hb))
     ·cases h
    |ListComp hg gs E p=>
     obtain⟨tg,hj,hn,t,it,S,el,rfl,hd,M,B,hh,hc,he,rfl⟩:=tI fns (show vc fns c (cM fns n) (cE fns n) (vZ fns n) hg gs E p=Pj a from h);let CO:=cZ O M
     first|(show f8 λ_=>rfl)|(rw[show ∀r A,aQ U (.comp r A t it S el)=λY=>gO r (c4 U it Y) (gJ A t (nr U S) (aQ U el)) A by intro r A;show funext λ_=>rfl];show AC O M hd (rj fns U O o z hh) B (λC s H ex=>pw U (D _ _ (CO C s H ex)) hc) (λC s H ex=>L _ _ (CO C s H ex) _ _ he))
    |_=>cases h
  ·let z:=v.1 X c O;let o:=L X c O;let T:=D X c O
   replace h:(match cT fns n c e with|some w=>(match fns.vw e.pos.line e.pos.col with|[]=>Pj (MT.p w)|i::V=>Pj (MT.vw (i::V) w))|none=>_)=Pj a:=h
   split at h
   ·ext w P;split at h
    ·cases h;have:=(v.2 X c O _ _ P).m
     rw[show(λY=>(aE U.fn w Y).map λp=>(p,Y))=bH U (.p w) by funext Y;rw[bH];unfold Kj;cases aE U.fn w Y<;>rfl] at this
     show this
    ·rename_i i V _;cases h
     first|(show pq λY=>?_;rw[bH];done)|(rw[show bH U (.vw (i::V) w)=λY=>Kj (aE U.fn w (frzN (i::V) Y)) Y by funext Y;rw[bH]];show t_vw (v.2 X c O _ _ P))
   ·cases e with
    |Compare x K W p=>
     obtain⟨l,b,d,rfl,rfl,hm,u,rfl⟩:=tH (show vb MT.cmp (cM fns n c) (cE fns n c) x K W=Pj a from h);show Ev U O hm (pv U o z u)
    |UnaryOp l x p=>cases l with
     |Not=>
      obtain⟨t,B,rfl⟩:=aY (show(vZ fns n c x).map .not=Pj a from h)
      first|(show pq λY=>?_;rw[bH];done)|(rw[show bH U (.not t)=λY=>match bH U t Y with|some (b,Y')=>Pj (!b,Y')|none=>Pl by funext Y;conv=>lhs;rw[bH]];show t_notM (T _ _ B))
     |_=>cases h
    |BoolOp l R p=>
     obtain⟨S,B,rfl⟩:=aY (show(Kl (vZ fns n c) R).map (.bool l)=Pj a from h)
     first|(show pq λY=>?_;rw[bH];done)|(rw[show ∀l,bH U (.bool l S)=BR U l S by intro l;funext Y;conv=>lhs;rw[bH]];show λY b Y' h g Z H Q se q=>λN s I=>w_boolM U T _ _ B Y b Y' h g Z H Q se q _ N s I)
    |Call f d ks p=>show gG U o (show(cM fns n c (.Call f d ks p)).map .tru=Pj a from h) (λ_=>rfl)
    |Subscript x b p=>show gG U o (show(cM fns n c (.Subscript x b p)).map .tru=Pj a from h) (λ_=>rfl)
    |Name x p=>show gG U o (show(cM fns n c (.Name x p)).map .tru=Pj a from h) (λ_=>rfl)
    |Constant k j p=>show gG U o (show(cM fns n c (.Constant k j p)).map .tru=Pj a from h) (λ_=>rfl)
    |_=>cases h
end
inductive Res where
 |nx (Y:Ro)|rt (kd:Kd) (d:D) (Y:Ro)|ct (Y:Ro)|bk (Y:Ro)
def PinOk(pn:List Nat)(Z Z':L2.St):Prop:=∀i∈pn,Z'[i]?=Z[i]?
def EndM(K:Md)(pn:List Nat)(g:Gh)(H:Hp)(Z:L2.St)(q:iO):Res->Prop
 |.nx Y'=>∀Z' g' H',Evo g H g' H' jX->SE K g' Y' Z' H'->PinOk pn Z Z'->q.nx Z' H'
 |.rt kd d Y'=>∀v Z' g' H' F,Evo g H g' H' F->SE K (g'.plus F) Y' Z' H'->PinOk pn Z Z'->VR1 K H' g' F kd d v F->q.rt v H'
 |.ct Y'=>∀Z' g' H',Evo g H g' H' jX->SE K g' Y' Z' H'->PinOk pn Z Z'->q.ct Z' H'
 |.bk Y'=>∀Z' g' H',Evo g H g' H' jX->SE K g' Y' Z' H'->PinOk pn Z Z'->q.bk Z' H'
def BV(X:Cx)(st:List Pz):TS:=λq Z H=>∀pins s,Inv X pins Z H s->Pv (Pw X.prog X.w) X.A (execs st X.env) (SP X pins q) X.xe s
def Jk(X:Cx)(st:Pz):TS:=λq Z H=>∀pins s,Inv X pins Z H s->Pv (Pw X.prog X.w) X.A (exec st X.env) (SP X pins q) X.xe s
theorem fy:PSs X st (BV X st):=λa s Z H D I h=>h a s I
theorem HD:PS X st (Jk X st):=λa s Z H D I h=>h a s I
theorem ce{t:TS}(p:PS X st t)(h:t Dn Z H):Jk X st Dn Z H:=λa s I=>p a s Z H Dn I h
theorem rn{t:TS}(p:PSs X st t)(h:t Dn Z H):BV X st Dn Z H:=λa s I=>p a s Z H Dn I h
def du(X:Cx)(pn:List Nat)(f:Ro->Option Res)(st:Pz):Prop:=∀Y r,f Y=Pj r->∀g Z H q,SE X.K g Y Z H->EndM X.K pn g H Z q r->Jk X st q Z H
def a6(X:Cx)(pn:List Nat)(f:Ro->Option Res)(st:List Pz):Prop:=∀Y r,f Y=Pj r->∀g Z H q,SE X.K g Y Z H->EndM X.K pn g H Z q r->BV X st q Z H
section
variable {K:Md} {H H' H1:Hp} {g g' g1:Gh} {F F1 F2:Pr} {Y:Ro} {Z Z' Z1:L2.St} {pn:List Nat}
theorem PinOk.refl:PinOk pn Z Z:=λ_ _=>rfl
theorem PinOk.trans(a:PinOk pn Z Z1)(b:PinOk pn Z1 Z2):PinOk pn Z Z2:=λi h=>(b i h).trans (a i h)
theorem PinOk.set(h:i∉pn):PinOk pn Z (Z.set i v):=λj a=>MG λz=>h (by rw[z];show a)
theorem EndM.from(h:EndM K pn g H Z Dn r)(f:Evo g H g1 H1 jX)(pk:PinOk pn Z Z1):EndM K pn g1 H1 Z1 Dn r:=by
 cases r with
 |nx i=>show λb a c e s p=>h b a c (bC f e) s (pk.trans p)
 |rt j d i=>show λv b a c F e s p r=>h v b a c F (bC f e) s (pk.trans p) r
 |ct i=>show λb a c e s p=>h b a c (bC f e) s (pk.trans p)
 |bk i=>show λb a c e s p=>h b a c (bC f e) s (pk.trans p)
theorem HE{S:Pr}(a:Evo g H g1 H1 F)(m:SE K (g1.plus F) Y Z H1)(c:∀b,F b↔F1 b\/F2 b)(u:∀b,F1 b->¬F2 b)(A:∀b,Sx g1 F b->S b)(t:Tr K H1 S d k v F1) :
  Evo g H (g1.give F1 i) H1 F2/\SE K ((g1.give F1 i).plus F2) (Y.set i (Pj ⟨Po,k,d⟩)) (Z.set i (Pj v)) H1/\∀b,Sx (g1.give F1 i) F2 b↔Sx g1 F b:=by
 let C:∀b,F1 b->g1 b=Pl:=λb z=>(a.tmp b ((c b).mpr (.inl z))).1
 let p:∀b,Sx (g1.give F1 i) F2 b↔Sx g1 F b:=λb=>by
  unfold Sx;rw[c b];constructor
  ·rintro (z|z)
   ·show(give_S.mp z).imp id .inl
   ·show .inr (.inr z)
  ·rintro (z|z|z)
   ·show .inl (give_S.mpr (.inl z))
   ·show .inl (give_S.mpr (.inr z))
   ·show .inr z
 let s:∀b,Sg ((g1.give F1 i).plus F2) b↔Sx g1 F b:=λb=>(al b).trans (p b);let l:∀b,Sg ((g1.give F1 i).plus F2) b->Sg (g1.plus F) b:=λb z=>(al b).mpr ((s b).mp z);show⟨⟨a.keep,λb=>⟨λe=>?_,λe=>?_⟩,λb j e=>?_,λb z=>?_,a.dom⟩,⟨λj B e=>?_,λb z=>m.mu b (l b z),by simp[m.len]⟩,p⟩
 ·have:=(a.out b).mp e;rw[bB (λz=>by rw[C b z] at this;cases this)];show this
 ·by_cases z:F1 b
  ·rw[ir z] at e;cases e
  ·rw[bB z] at e;show(a.out b).mpr e
 ·by_cases z:F1 b
  ·show(a.tmp b ((c b).mpr (.inl z))).2
  ·rw[bB z] at e;show a.new b j e
 ·have:=a.tmp b ((c b).mpr (.inr z));show⟨by rw[bB λD=>u b D z];show this.1,this.2⟩
 ·by_cases r:j=i
  ·subst r
   let h:j<Y.length:=by
    have:=(Mg.mp e).1;simpa using this
   rw[MK h] at e;cases e;show⟨v,F1,MK (by rw[<- m.len];show h),λb z=>bT (ir z) (u b z),t.go (λ_ _ _ e=>e) λb o _ n z=>n (A b ((s b).mp z))⟩
  ·rw[MG (Ne.symm r)] at e⊢;obtain⟨w,y,e1,e2,e3⟩:=m.slot j B e;show⟨w,y,e1,λb z=>?_,e3.go (λ_ _ _ e=>e) λb o _ n z=>n (l b z)⟩;let q:=bL (e2 b z);let x:¬F b:=λf=>by rw[(a.tmp b f).1] at q;cases q
   show bT ?_ λf=>x ((c b).mpr (.inr f));rw[bB λf=>x ((c b).mpr (.inl f))];show q
noncomputable def FI:Kd->Ow
 |.fr k=>k
 |_=>.fz
theorem VR1.tr(a:bA kd=Po)(h:VR1 K H g F kd d v F):Tr K H (Sx g F) d (FI kd) v F:=by
 cases kd with
 |sh=>
  let e:F=jX:=by funext b;show propext ⟨h.1 b,λz=>z.elim⟩
  rw[show FI .sh=.fz from rfl];have:=Tr.fz h.2;rw[e] at this⊢;show this
 |fr k=>show h
 |bo i k=>cases a
end
noncomputable def fA:Pp->Bool
 |.ListComp ..|.SetComp ..|.DictComp ..=>Po
 |_=>Pm
theorem jZ(h:fA e=Pm):swapsWith e t n env=pure Po:=by
 cases e<;>first|rfl|cases h
noncomputable def xQ:Pp->Bool
 |.Tuple ..=>Po
 |_=>Pm
theorem k5:swapsWithSole [.Tuple es k tp] e n env=pure Po:=by
 cases e<;>rfl
theorem px(h:xQ e=Pm):swappedStores [.Tuple es k tp] e env=pure Pl:=by
 cases e<;>first|rfl|cases h
def fB(pn:List Nat)(i:Nat)(a:MR):Option Res:=match a with
 |some (kd,d,Y1)=>if bA (dJ kd d)=Pm\/i∈pn then Pl else Pj (.nx (Y1.set i (Pj ⟨Po,FI (dJ kd d),d⟩)))
 |none=>Pl
section
variable {X:Cx} {U:Tab} {c:Cz} {pn:List Nat}
theorem iA{g g1:Gh}{Z:L2.St}{f:iO}(h:fB pn i (Pj (kd,d,Y1))=Pj r)(q:EndM K pn g H Z f r)(m:Evo g H g1 H1 F)(j:SE K (g1.plus F) Y1 Z H1)(k:VR1 K H1 g1 F kd d v F):f.nx (Z.set i (Pj v)) H1:=by
 unfold fB at h;dsimp only at h;split at h
 ·cases h
 ·ext c;cases h;rw[not_or] at c;let a:=k.im j.mu;obtain⟨l,e,_⟩:=HE m j (λb=>⟨.inl,λz=>z.elim id λz=>z.elim⟩) (λ_ _ z=>z) (λ_ z=>z) (a.tr (by simpa using c.1));show q _ _ H1 l (by rw[aW λ_ z=>z] at e;show e) (PinOk.set c.2)
theorem tJ(O:am X U c){f:Ro->MR}(m:lB c x=Pm)(hi:aZ x c.N=Pj i)(k:fA e=Pm)(n:bh X f e):du X pn (λY=>fB pn i (f Y)) (.Assign [.Name x p] e pos):=by
 intro Y r h g Z H A u q;let l:=iY O m
 cases a:f Y with
 |none=>dsimp only at h;rw[a] at h;cases h
 |some w=>
  obtain⟨o,d,j⟩:=w;dsimp only at h;rw[a] at h;show ce (qk (by rw[O.N];show O.nd) (by rw[O.N];show aX hi) l.1 au (jZ k) l.2) (n Y o d j a g Z H _ u λv z y F t b s=>iA h q t b s)
def Ew:List Nat->wc
 |[]=>CU
 |i::is=>we (gY i) (Ew is)
noncomputable def rq:List Nat->List D->List Ow->Ow->Ro->Ro
 |i::is,d::ds,es,r,Y=>rq is ds es.tail r (Y.set i (Pj ⟨Po,es.headD r,d⟩))
 |_,_,_,_,Y=>Y
theorem k6{H H1:Hp}{Q:L2.St->Hp->Prop}:∀{a:List Nat} {ds:List D} {es:List Ow} {r:Ow} {vs:List V} {g1:Gh} {F S:Pr} {Y:Ro} {Z:L2.St},a.length=ds.length->(∀i∈a,i∉pn)->Evo g H g1 H1 F->SE K (g1.plus F) Y Z H1->(∀b,Sx g1 F b->S b)->TrL K H1 S ds es r vs F->PinOk pn Z0 Z->
  (∀f c,Evo g H f H1 jX->SE K f (rq a ds es r Y) c H1->PinOk pn Z0 c->Q c H1)->Ew a vs Z H1 Q
 |[],[],es,r,vs,g1,F,S,Y,Z,hl,hp,ev,se,hS,t,pk,q=>by
  unfold TrL at t;let e:F=jX:=by funext b;show propext ⟨t.2 b,λz=>z.elim⟩
  subst e;show⟨t.1,q g1 Z ev (by rw[aW λ_ z=>z] at se;show se) pk⟩
 |[],_::_,_,_,_,_,_,_,_,_,hl,_,_,_,_,_,_,_=>by simp at hl
 |_::_,[],_,_,_,_,_,_,_,_,hl,_,_,_,_,_,_,_=>by simp at hl
 |i::a,d::ds,es,r,vs,g1,F,S,Y,Z,hl,hp,ev,se,hS,t,pk,q=>by
  unfold TrL at t;obtain⟨y,u,w,v,rfl,k,s,m,l⟩:=t;obtain⟨p,o,h⟩:=HE ev se k s hS m;show⟨y,u,rfl,k6 (by simpa using hl) (λj n=>hp j (Mt _ n)) p o (λb z=>hS b ((h b).mp z)) l (pk.trans (PinOk.set (hp i MD))) q⟩
def jd(q:Kd)(ds:List D):Option (List Ow×Ow):=match q with
 |.sh=>Pj ([],.fz)
 |.fr (.own es r)=>Pj (es,r)
 |.fr .fz=>Pj ([],.fz)
 |.bo _ _=>if zU ds=Pm then Pj ([],.fz) else Pl
theorem VR1.parts{H:Hp}{F:Pr}(u:hd=.tup\/hd=.lst)(hk:jd kd ds=Pj (es,r))(m:MuOk H (Sx g F))(h:VR1 K H g F kd (.nd hd ds) v F):∃a o xs F',v=.ref a/\H a=Pj o/\cR K o hd xs/\(∀b,F' b->F b)/\TrL K H (Sx g F) ds es r xs F':=by
 let l:∀{d:List D} {xs:List V},RpL K H (Sx g F) d xs->TrL K H (Sx g F) d [] .fz xs jX:=λh=>.ofFlat (λe z=>by cases z) h
 cases kd with
 |sh=>
  cases hk;obtain⟨a,o,xs,rfl,_,c,f,j⟩:=h.2.nd;show⟨a,o,xs,jX,rfl,c,f,λ_ z=>z.elim,l j⟩
 |fr k=>
  cases k with
  |fz=>
   cases hk;obtain⟨a,o,xs,rfl,_,c,f,j⟩:=(Tr.fz_inv h).2.nd;show⟨a,o,xs,jX,rfl,c,f,λ_ z=>z.elim,l j⟩
  |own q w=>
   cases hk;let n:Tr K H (Sx g F) (.nd hd ds) (.own es r) v F:=h;unfold Tr at n;obtain⟨a,o,xs,F',rfl,c,f,_,_,p,t⟩:=n;show⟨a,o,xs,F',rfl,c,f,λb z=>(p b).mpr (.inr z),t⟩
 |bo i k=>
  simp only[jd] at hk;split at hk
  ·ext s;cases hk;obtain⟨a,o,xs,rfl,_,c,f,j⟩:=h.rd.nd;show⟨a,o,xs,jX,rfl,c,f,λ_ z=>z.elim,l (j.im m s)⟩
  ·cases hk
def xR(pn:List Nat)(q:List Nat)(a:MR):Option Res:=match a with
 |some (kd,.nd .tup ds,Y1)=>(match jd kd ds with|some (es,r)=>if q.length=ds.length/\(q.all λi=>!pn.contains i)=Pm then Pj (.nx (rq q ds es r Y1)) else Pl|none=>Pl)
 |some (kd,.nd .lst ds,Y1)=>(match jd kd ds with|some (es,r)=>if q.length=ds.length/\(q.all λi=>!pn.contains i)=Pm then Pj (.nx (rq q ds es r Y1)) else Pl|none=>Pl)
 |_=>Pl
def xS(c:Cz):List Pp->Option (List Nat)
 |[]=>Pj []
 |.Name x _::r=>if lB c x then(match aZ x c.N,xS c r with|some i,Pj is=>Pj (i::is)|_,_=>Pl) else Pl
 |_=>Pl
theorem tK(O:am X U c):∀{es:List Pp} {a:List Nat},xS c es=Pj a->CS X es (Ew a)/\(PM es X.env).length=a.length/\(PM es X.env).findIdx? (·.1)=Pl
 |[],a,h=>by cases h;show⟨r9,rfl,rfl⟩
 |e::es,a,h=>by
  cases e with
  |Name x p=>
   unfold xS at h;split at h
   ·ext g;split at h
    ·ext i d f b;cases h;let l:=iY O g;obtain⟨m,j,k⟩:=tK O b;show⟨og (r6 (by rw[O.N];show O.nd) (by rw[O.N];show aX f) l.1 l.2) m,?_,?_⟩
     ·change(PM es X.env).length+1=_;rw[j];rfl
     ·change((Po,assign (.Name x p) X.env)::PM es X.env).findIdx? (·.1)=Pl;rw[MV];simp[k]
    ·cases h
   ·cases h
  |_=>cases h
theorem HF(O:am X U c){f:Ro->MR}(I:bh X f e)(h1:xS c es=Pj is)(D:xQ e=Pm):du X pn (λY=>xR pn is (f Y)) (.Assign [.Tuple es k tp] e pos):=by
 intro Y r h g Z H W L q;obtain⟨K,m,E⟩:=tK O h1
 let n:(is.all λi=>!pn.contains i)=Pm->∀i∈is,i∉pn:=λh i P=>by
  have:=Nx.mp h i P;simpa using this
 dsimp only[xR] at h;split at h
 ·ext R N M u;split at h
  ·ext T Q hk;split at h
   ·ext j;cases h;show ce (qj au (wf O.calm K m E) k5 (px D)) (I Y _ _ _ u g Z H _ L λv S s F p d B=>?_);obtain⟨a,o,C,V,rfl,A,x,l,t⟩:=B.parts (.inl rfl) hk λb z=>d.mu b ((al b).mpr z);cases(x);show⟨a,C,rfl,.of A,by rw[t.len,j.1],k6 j.1 (n j.2) (p.drop l) (d.drop l λb z=>(p.tmp b z).1) (λb z=>z.imp id (l b)) t PinOk.refl λm y e2 s2 w=>q y m s e2 s2 w⟩
   ·cases h
  ·cases h
 ·ext R N M u;split at h
  ·ext T Q hk;split at h
   ·ext j;cases h;show ce (qj au (Dt O.calm K m E) k5 (px D)) (I Y _ _ _ u g Z H _ L λv S s F p d B=>?_);obtain⟨a,o,C,V,rfl,A,x,l,t⟩:=B.parts (.inr rfl) hk λb z=>d.mu b ((al b).mpr z);cases(x);show⟨a,C,rfl,.of A,by rw[t.len,j.1],k6 j.1 (n j.2) (p.drop l) (d.drop l λb z=>(p.tmp b z).1) (λb z=>z.imp id (l b)) t PinOk.refl λm y e2 s2 w=>q y m s e2 s2 w⟩
   ·cases h
  ·cases h
 ·cases h
def pA(a:MR):Option Res:=match a with
 |some (kd,d,Y1)=>if bA (dJ kd d)=Pm then Pl else Pj (.rt (dJ kd d) d Y1)
 |none=>Pl
theorem BW{f:Ro->MR}(b:bh X f e):du X pn (λY=>pA (f Y)) (.Return (Pj e) pos):=by
 intro Y r h g Z H p m q;dsimp only[pA] at h;split at h
 ·ext o d n j;split at h
  ·cases h
  ·cases h;show ce (CQ au) (b Y _ _ _ j g Z H _ m λv i c F l a k=>q v Z i c F l a PinOk.refl (k.im a.mu))
 ·cases h
noncomputable def rz(a:MR):Option Res:=match a with
 |some (_,_,Y1)=>Pj (.nx Y1)
 |none=>Pl
theorem xT{f:Ro->MR}(i:fA e=Pm)(j:bh X f e):du X pn (λY=>rz (f Y)) (.Expr e pos):=by
 intro Y r h g Z H t n q;dsimp only[rz] at h;split at h
 ·ext p d o m;cases h;show ce (zr au (jZ i)) (j Y _ _ _ m g Z H _ n λv l k F c a s=>q Z l k (c.drop λ_ z=>z.elim) ?_ PinOk.refl);have:=a.drop (F2:=jX) (λ_ z=>z.elim) λb z=>(c.tmp b z).1;rw[aW λ_ z=>z] at this;show this
 ·cases h
theorem HG:du X pn (λY=>Pj (.nx Y)) (.Expr (.Constant (.str x) j pos) pos'):=by
 intro Y r h g Z H b a q;cases h;show ce CP (q Z g H (.refl g H) a PinOk.refl)
noncomputable def xU(t:Option (Bool×Ro))(a b:Ro->Option Res):Option Res:=match t with
 |some (Pm,Y)=>a Y
 |some (Po,Y)=>b Y
 |none=>Pl
theorem HI{ft:Ro->Option (Bool×Ro)}(k:ip X ft t)(o:a6 X pn fa a)(n:a6 X pn fb b):du X pn (λY=>xU (ft Y) fa fb) (.If t a b pos):=by
 intro Y r h g Z H l m q;dsimp only[xU] at h;split at h
 ·ext d e;show ce (Bz hJ fy fy) (k Y _ _ e g Z H _ m λi f j c=>uT (o d r h i Z f l c (q.from j PinOk.refl)))
 ·ext d e;show ce (Bz hJ fy fy) (k Y _ _ e g Z H _ m λi f j c=>uS (n d r h i Z f l c (q.from j PinOk.refl)))
 ·cases h
noncomputable def ca(a:Option Res)(b:Ro->Option Res):Option Res:=match a with
 |some (.nx Y)=>b Y
 |r=>r
theorem HJ:a6 X pn (λY=>Pj (.nx Y)) []:=by
 intro Y r h g Z H b a q;cases h;show rn zn (q Z g H (.refl g H) a PinOk.refl)
theorem Ex{f fb:Ro->Option Res}(b:du X pn f s)(m:a6 X pn fb st):a6 X pn (λY=>ca (f Y) fb) (s::st):=by
 intro Y r h g Z H p c q;dsimp only at h;show rn (wb HD fy) ?_
 cases e:f Y with
 |none=>rw[e] at h;cases h
 |some j=>
  rw[e] at h
  cases j with
  |nx a=>show b Y _ e g Z H _ c λn l k o i pk=>m a r h l n k p i (q.from o pk)
  |rt t d a=>cases h;show b Y _ e g Z H _ c q
  |ct a=>cases h;show b Y _ e g Z H _ c q
  |bk a=>cases h;show b Y _ e g Z H _ c q
theorem Ey:du X pn (λY=>Pj (.nx Y)) (.Pass pos):=by
 intro Y r h g Z H b a q;cases h;show ce zq (q Z g H (.refl g H) a PinOk.refl)
end
open Classical in
noncomputable def Gh.lend(g:Gh)(bs:List Nat):Gh:=λb=>if ∃i∈bs,g b=Pj (Pj i) then Pj Pl else g b
open Classical in
noncomputable def Gh.unlend(g' g:Gh)(bs:List Nat):Gh:=λb=>if ∃i∈bs,g b=Pj (Pj i) then g b else g' b
noncomputable def clrN:List Nat->Ro->Ro
 |[],Y=>Y
 |i::is,Y=>clrN is (Y.set i Pl)
noncomputable def zg:List Nat->Ro->Ro->Ro
 |[],_,Y'=>Y'
 |i::is,Y,Y'=>zg is Y (Y'.set i (Y[i]?).join)
section
variable {K:Md} {H H' H1:Hp} {g g' g1:Gh} {F:Pr} {Y Y':Ro} {Z Z':L2.St} {bs:List Nat}
theorem rA(b:Ps):Sg (g.lend bs) b↔Sg g b:=by
 unfold Gh.lend Sg;dsimp only;by_cases h:∃i∈bs,g b=Pj (Pj i)
 ·rw[if_pos h];obtain⟨i,_,e⟩:=h;simp[e]
 ·rw[if_neg h]
theorem j0(h:g.lend bs b=Pj (Pj j)):g b=Pj (Pj j)/\j∉bs:=by
 unfold Gh.lend at h;split at h
 ·cases h
 ·ext n;show⟨h,λz=>n ⟨j,z,h⟩⟩
theorem tL(hi:i∈bs)(h:g b=Pj (Pj i)):g.lend bs b=Pj Pl:=by
 unfold Gh.lend;rw[if_pos ⟨i,hi,h⟩]
theorem j3(h:∀i∈bs,g b≠Pj (Pj i)):g.lend bs b=g b:=by
 unfold Gh.lend;rw[if_neg λ⟨i,a,e⟩=>h i a e]
theorem k7:∀{a:List Nat} {Y:Ro},(clrN a Y).length=Y.length
 |[],_=>rfl
 |i::a,Y=>by unfold clrN;rw[k7];simp
theorem je:∀{d:List Nat} {Y:Ro} {j:Nat} {e:Sl},(clrN d Y)[j]?=Pj (Pj e)->Y[j]?=Pj (Pj e)/\j∉d
 |[],_,_,_,h=>⟨h,by simp⟩
 |i::d,Y,j,e,h=>by
  unfold clrN at h;obtain⟨a,f⟩:=je h
  let b:j≠i:=λz=>by
   subst z
   let c:j<Y.length:=by
    have:=(Mg.mp a).1;simpa using this
   rw[MK c] at a;cases a
  rw[MG (Ne.symm b)] at a;show⟨a,by simp[b,f]⟩
theorem tM:∀{a:List Nat} {Y Y':Ro},(zg a Y Y').length=Y'.length
 |[],_,_=>rfl
 |i::a,Y,Y'=>by unfold zg;rw[tM];simp
theorem pB:∀{c:List Nat} {Y Y':Ro} {j:Nat} {b:Sl},(zg c Y Y')[j]?=Pj (Pj b)->(j∈c/\Y[j]?=Pj (Pj b))\/(j∉c/\Y'[j]?=Pj (Pj b))
 |[],_,_,_,_,h=>.inr ⟨by simp,h⟩
 |i::c,Y,Y',j,b,h=>by
  unfold zg at h;rcases pB h with⟨e,a⟩|⟨e,a⟩
  ·show .inl ⟨Mt _ e,a⟩
  ·by_cases d:j=i
   ·subst d
    let f:j<Y'.length:=by
     have:=(Mg.mp a).1;simpa using this
    rw[MK f] at a;show .inl ⟨MD,?_⟩;have:(Y[j]?).join=Pj b:=by simpa using a
    cases q:Y[j]? with
    |none=>rw[q] at this;cases this
    |some o=>rw[q] at this;have:o=Pj b:=this;rw[this]
   ·rw[MG (Ne.symm d)] at a;show .inr ⟨by simp[d,e],a⟩
theorem SE.clrN(h:SE K g Y Z H)(a:List Nat):SE K g (clrN a Y) Z H:=⟨λi b e=>h.slot i b (je e).1,h.mu,by rw[k7];show h.len⟩
theorem SE.lend(h:SE K g Y Z H)(bs:List Nat):SE K (g.lend bs) (J.clrN bs Y) Z H:=by
 show⟨λi c e=>?_,λb z=>h.mu b ((rA b).mp z),by rw[k7];show h.len⟩;obtain⟨e1,a⟩:=je e;obtain⟨v,F,d,k,l⟩:=h.slot i c e1;show⟨v,F,d,λb z=>?_,l.go (λ_ _ _ e=>e) λb o _ n z=>n ((rA b).mp z)⟩;have:=k b z;rw[j3 λj f e=>by rw[this] at e;cases e;show a f];show this
theorem ma(h:∃i∈bs,g b=Pj (Pj i)):g'.unlend g bs b=g b:=by unfold Gh.unlend;rw[if_pos h]
theorem c8(h:¬∃i∈bs,g b=Pj (Pj i)):g'.unlend g bs b=g' b:=by unfold Gh.unlend;rw[if_neg h]
theorem jE(h:SE K g Y Z H)(a:Evo (g.lend bs) H g' H' F)(A:SE K (g'.plus F) Y' Z' H')(pk:PinOk bs Z Z') :
  Evo g H (g'.unlend g bs) H' F/\SE K ((g'.unlend g bs).plus F) (zg bs Y Y') Z' H'/\∀b,Sg (g'.unlend g bs) b->Sg g' b:=by
 let s:∀b,(∃i∈bs,g b=Pj (Pj i))->g' b=Pj Pl:=λb ⟨i,p,e⟩=>(a.out b).mp (tL p e)
 let d:∀b,Sg (g'.unlend g bs) b->Sg g' b:=λb z=>by
  by_cases q:∃i∈bs,g b=Pj (Pj i)
  ·rw[Sg,s b q];simp
  ·rw[Sg,c8 q] at z;show z
 let c:∀b,Sg ((g'.unlend g bs).plus F) b->Sg (g'.plus F) b:=λb z=>(al b).mpr (((al b).mp z).imp (d b) id);let f:∀b,F b->¬∃i∈bs,g b=Pj (Pj i):=λb z q=>by have:=s b q;rw[(a.tmp b z).1] at this;cases this
 show⟨⟨λb o n e=>a.keep b o (λi q=>n i (j0 q).1) e,λb=>⟨λe=>?_,λe=>?_⟩,λb j e=>?_,λb z=>?_,a.dom⟩,⟨λj C e=>?_,λb z=>A.mu b (c b z),by rw[tM];show A.len⟩,d⟩
 ·let n:¬∃i∈bs,g b=Pj (Pj i):=λ⟨i,_,q⟩=>by rw[e] at q;cases q
  rw[c8 n];show(a.out b).mp (by rw[j3 λi p q=>n ⟨i,p,q⟩];show e)
 ·by_cases q:∃i∈bs,g b=Pj (Pj i)
  ·rw[ma q] at e;show e
  ·rw[c8 q] at e;have:=(a.out b).mpr e;rw[j3 λi p z=>q ⟨i,p,z⟩] at this;show this
 ·by_cases q:∃i∈bs,g b=Pj (Pj i)
  ·obtain⟨i,_,q⟩:=q;show .inl ⟨i,q⟩
  ·rw[c8 q] at e;show(a.new b j e).imp (λ⟨j,z⟩=>⟨j,(j0 z).1⟩) id
 ·let t:=a.tmp b z;show⟨by rw[c8 (f b z)];show t.1,t.2.imp (λ⟨j,z⟩=>⟨j,(j0 z).1⟩) id⟩
 ·rcases pB e with⟨r,e1⟩|⟨r,e1⟩
  ·obtain⟨v,u,w,m,y⟩:=h.slot j C e1;show⟨v,u,by rw[pk j r];show w,λb z=>?_,y.go (λb o l e=>a.keep b o (λi q=>?_) e) λb o e n z=>?_⟩
   ·have:∃i∈bs,g b=Pj (Pj i):=⟨j,r,m b z⟩;show bT (by rw[ma this];show m b z) λk=>f b k this
   ·obtain⟨q,D⟩:=j0 q;rcases l with l|l
    ·show l (by rw[Sg,q];simp)
    ·rw[m b l] at q;cases q;show D r
   ·let B:g b=Pl:=by
     cases q:g b with
     |none=>rfl
     |some x=>show absurd (by rw[Sg,q];simp) n
    obtain⟨E,f2⟩:=a.froz e (by rw[j3 λi _ z=>by rw[B] at z;cases z];show B);rcases(al b).mp z with z|z
    ·show d b z E
    ·show f2 z
  ·obtain⟨v,u,w,m,y⟩:=A.slot j C e1;show⟨v,u,w,λb z=>?_,y.go (λ_ _ _ e=>e) λb o _ n z=>n (c b z)⟩;let q:=bL (m b z);show bT ?_ λk=>by rw[(a.tmp b k).1] at q;cases q
   rw[c8 λk=>by rw[s b k] at q;cases q];show q
theorem VR1.unlend(f:bA kd=Po)(a:∀b,Sg g b->Sg g' b)(h:VR1 K H g' F kd d v F):VR1 K H g F kd d v F:=by
 let c:∀b,Sx g F b->Sx g' F b:=λb z=>z.imp (a b) id
 cases kd with
 |sh=>show⟨h.1,h.2.weak c⟩
 |fr k=>show Tr.go (λ_ _ _ e=>e) (λb o _ n z=>n (c b z)) h
 |bo i k=>cases f
theorem AJ{s:Src}(m:s.P K g H1)(c:s.from g H bs)(h:Evo (g.lend bs) H1 gi Hi jX):s.P K gi Hi:=by
 let f:∀b o,H1 b=Pj o->¬Sg g b->Hi b=Pj o/\¬Sg gi b:=λb o e n=>by
  let k:g.lend bs b=Pl:=by
   cases q:g.lend bs b with
   |none=>rfl
   |some x=>show absurd ((rA b).mp (by rw[Sg,q];simp)) n
  obtain⟨p,f2⟩:=h.froz e k;show⟨h.keep b o (λi q=>by rw[k] at q;cases q) e,λz=>z p⟩
 show Src.mono (g:=g) (H:=H1) (λb o e n=>(f b o e n).2) (λb o d e=>?_) (λa e=>c.from_t e) m;rcases d with d|d
 ·show(f b o e d).1
 ·rcases c.from_l d with c|⟨i,l,c⟩
  ·show(f b o e (by rw[Sg,c];simp)).1
  ·show h.keep b o (λj q=>by rw[tL l c] at q;cases q) e
end
def gw(pn fg:List Nat)(tg:IT)(fb:Ro->Option Res):List D->Ro->Option Res
 |[],Y=>Pj (.nx (clrN fg Y))
 |d::ds,Y=>match nZ tg d with
  |some ps=>if(ps.all λp=>!pn.contains p.1)=Pm then(match fb (setAll ps (clrN fg Y)) with
   |some (.nx Y2)=>gw pn fg tg fb ds Y2
   |some (.ct Y2)=>gw pn fg tg fb ds Y2
   |some (.bk Y2)=>Pj (.nx (clrN fg Y2))
   |some (.rt k d Y2)=>Pj (.rt k d Y2)
   |none=>Pl) else Pl
  |none=>Pl
def BX(J:It)(g:TG)(tb:TS):TS:=λD Z H1=>∃W:Nat->Nat->L2.St->Hp->Prop,(∃m,W 0 m Z H1)/\∀i m Z H,W i m Z H->
 (J.stop i H/\D.nx Z H)\/(J.go i H/\∃N:L2.St->Hp->Prop,(∀Z' H',N Z' H'->∃q,q<m/\W (i+1) q Z' H')/\∀x H',J.yld i H x H'->g x Z H' λB H2=>tb { D with nx:=N,ct:=N,bk:=D.nx } B H2)
section
variable {X:Cx} {U:Tab} {c:Cz} {pn:List Nat}
theorem xV{ps:List (Nat×D)}(h:RpP K H S ps vs)(b:(ps.all λp=>!pn.contains p.1)=Pm):PinOk pn Z (ig vs Z):=λi c=>jW h λp a z=>by
 have:=Nx.mp b p a;rw[z] at this;simp[c] at this
theorem pC(O:am X U c)(ha:m9 c n tg=Pj t)(S:a6 X pn fb body){A:Src}{g g0:Gh}(se:SE X.K (g.lend bs) Y Z H1)(jt:i0 X.K jj A ds)(sp:A.P X.K g H1)(sf:A.from g H bs)(h:gw pn fg t fb ds Y=Pj r)(q:EndM X.K pn (g.lend bs) H1 Z Dn r) :
  BX jj (wG X tg) (BV X body) Dn Z H1:=by
 show⟨λi m F R=>m=ds.length-i/\i<=ds.length/\∃E o,SE X.K o E F R/\Evo (g.lend bs) H1 o R jX/\PinOk pn Z F/\gw pn fg t fb (ds.drop i) E=Pj r,
  ⟨ds.length,by simp,ML _,Y,g.lend bs,se,.refl _ _,PinOk.refl,by simpa using h⟩,?_⟩
 rintro i m F R ⟨rfl,hc,E,o,C,D,N,a⟩
 obtain⟨j1,j2⟩:=jt i o R (AJ sp sf D) C.mu;by_cases s:i<ds.length
 ·let hd:ds[i]?=Pj ds[i]:=Ms s;obtain⟨go,yl⟩:=j2 _ hd;rw[M0 s] at a;unfold gw at a;split at a
  ·ext ps T;split at a
   ·ext V;show .inr ⟨go,λW p=>ds.length-(i+1)=ds.length-(i+1)/\i+1<=ds.length/\∃E o,SE X.K o E W p/\Evo (g.lend bs) H1 o p jX/\PinOk pn Z W/\gw pn fg t fb (ds.drop (i+1)) E=Pj r,λW p hN=>⟨ds.length-(i+1),by lia,hN⟩,λx p hy=>?_⟩;obtain⟨s2,rx⟩:=yl x p hy;show sG (o6 O n ha) (ii T rx λvs Q=>?_);let w:=SE.setAll Q ((C.clrN fg).same s2);let u:Evo (g.lend bs) H1 o p jX:=bC D (cc s2 (λ_ z=>z.elim) λ_ z=>z.elim);let y:=N.trans (xV (Z:=F) Q V);split at a
    ·ext M b;show S _ _ b o _ p _ w λL B I j l f=>⟨rfl,s,M,B,l,bC u j,y.trans f,a⟩
    ·ext M b;show S _ _ b o _ p _ w λL B I j l f=>⟨rfl,s,M,B,l,bC u j,y.trans f,a⟩
    ·ext M b;cases a;show S _ _ b o _ p _ w λL B I j l f=>q L B I (bC u j) (l.clrN fg) (y.trans f)
    ·ext k d M b;cases a;show S _ _ b o _ p _ w λv L B I F4 j l f r4=>q v L B I F4 (bC u j) l (y.trans f) r4
    ·cases a
   ·cases a
  ·cases a
 ·let e:i=ds.length:=by lia
  subst e;rw[N8] at a;cases a;show .inl ⟨j1 (Mi _),q F o R D (C.clrN fg) N⟩
def xW(bs:List Nat)(Y:Ro)(r:Option Res):Option Res:=match r with
 |some (.nx Y')=>Pj (.nx (zg bs Y Y'))
 |some (.rt k d Y')=>if bA k=Pm then Pl else Pj (.rt k d (zg bs Y Y'))
 |_=>Pl
def me(pn fg:List Nat)(tg:IT)(fb:List Nat->Ro->Option Res)(it:IR):Option Res:=match it with
 |some (bs,ds,Y)=>xW bs Y (gw (pn++bs) fg tg (fb (pn++bs)) ds (clrN bs Y))
 |none=>Pl
theorem PinOk.left{a b:List Nat}(h:PinOk (a++b) Z Z'):PinOk a Z Z':=λi c=>h i (NH _ c)
theorem PinOk.right{a b:List Nat}(h:PinOk (a++b) Z Z'):PinOk b Z Z':=λi c=>h i (Mq _ c)
theorem xX(O:am X U c)(N:PassesOwn (Pw X.prog X.w) X.A X.env X.xe){E:Ro->IR}{fb:List Nat->Ro->Option Res}(e:m9 c n tg=Pj t)(hi:jD X E tg iter)(x:∀pn,a6 X pn (fb pn) body)(P:dh iter=Pm) :
  du X pn (λY=>me pn fg t fb (E Y)) (.For tg iter body [] pos):=by
 intro Y r h g Z H W se q;dsimp only[me] at h;split at h
 ·ext i M K j;show ce (C0 N O.calm uX uY fy (c7 P)) (hi Y i M K j g Z H _ se λR I C L l a B sp y=>?_);let D:=q.from l PinOk.refl;change BX R (wG X tg) (BV X body) W Z L;unfold xW at h;split at h
  ·ext V p;cases h;show pC (g0:=C) O e (x _) (a.lend i) B sp y p λm S u o b pk=>?_;obtain⟨s,f,_⟩:=jE (F:=jX) a o (by rw[aW λ_ z=>z];show b) pk.right;show D m _ u s (by rw[aW λ_ z=>z] at f;show f) pk.left
  ·ext k d V p;split at h
   ·cases h
   ·ext hk;cases h;show pC (g0:=C) O e (x _) (a.lend i) B sp y p λv m S u F o b pk T=>?_;obtain⟨s,f,Q⟩:=jE a o b pk.right;show D v m _ u F s f pk.left (T.unlend (by simpa using hk) Q)
  ·cases h
 ·cases h
def jf(fg:List Nat)(ft:Ro->Option (Bool×Ro))(fb:Ro->Option Res):Nat->Ro->Option Res
 |0,_=>Pl
 |n+1,Y=>match ft (clrN fg Y) with
  |some (Po,Y1)=>Pj (.nx Y1)
  |some (Pm,Y1)=>(match fb Y1 with
   |some (.nx Y2)=>jf fg ft fb n Y2
   |some (.ct Y2)=>jf fg ft fb n Y2
   |some (.bk Y2)=>Pj (.nx (clrN fg Y2))
   |some (.rt k d Y2)=>Pj (.rt k d Y2)
   |none=>Pl)
  |none=>Pl
theorem HK(U:PassesOwn (Pw X.prog X.w) X.A X.env X.xe)(P:ip X ft t)(L:a6 X pn fb body)(n:Nat):du X pn (jf fg ft fb n) (.While t body [] pos):=by
 intro Y r h g Z H Dn V q;show ce (wg U hJ fy) ⟨λm o I=>∃N F,SE X.K F N o I/\Evo g H F I jX/\PinOk pn Z o/\jf fg ft fb m N=Pj r,⟨n,Y,g,V,.refl g H,PinOk.refl,h⟩,?_⟩
 rintro m o I ⟨N,F,D,E,l,j⟩
 cases m with
 |zero=>cases j
 |succ m=>
  unfold jf at j;split at j
  ·ext R e;cases j
   show P _ _ _ e F o I _ (D.clrN fg) λz y u i=>by
    rw[if_neg (by decide)];show q o z y (bC E u) i l
  ·ext R e;show P _ _ _ e F o I _ (D.clrN fg) λz y u i=>?_;rw[if_pos rfl];show⟨λM O=>∃s Q,SE X.K Q s M O/\Evo g H Q O jX/\PinOk pn Z M/\jf fg ft fb m s=Pj r,λM O W=>⟨m,Nw m,W⟩,?_⟩;let p:=bC E u;split at j
   ·ext s a;show L _ _ a z o y _ i λC x B c f b=>⟨s,x,f,bC p c,l.trans b,j⟩
   ·ext s a;show L _ _ a z o y _ i λC x B c f b=>⟨s,x,f,bC p c,l.trans b,j⟩
   ·ext s a;cases j;show L _ _ a z o y _ i λC x B c f b=>q C x B (bC p c) (f.clrN fg) (l.trans b)
   ·ext k d s a;cases j;show L _ _ a z o y _ i λv C x B S c f b T=>q v C x B S (bC p c) f (l.trans b) T
   ·cases j
  ·cases j
noncomputable def Ku(op:PJ)(i j:Int):Option D:=match op with
 |.Add=>Pj (.int (i+j))
 |.BitAnd=>Pj (.int (Builtin.bitAnd i j))
 |.BitOr=>Pj (.int (Builtin.bitOr i j))
 |_=>Pl
def AK(op:PJ)(x y:D):Option D:=match x with
 |.int i=>(match y with|.int j=>Ku op i j|_=>Pl)
 |_=>Pl
noncomputable def jF:D->Option V
 |.int i=>Pj (.int i)
 |.str x=>Pj (.str x)
 |.bl b=>Pj (.bl b)
 |.non=>Pj .non
 |_=>Pl
theorem xY(h:jF d=Pj v):Rp K H S d v:=by
 cases d<;>first|(cases h;unfold Rp;rfl)|cases h
theorem pF(h:jF d=Pj v)(r:Rp K H S d u):u=v:=by
 cases d<;>first|(cases h;unfold Rp at r;show r)|cases h
theorem ve(h:AK op x y=Pj z):∃u v w,jF x=Pj u/\jF y=Pj v/\jF z=Pj w:=by
 cases x with
 |int i=>cases y with
  |int j=>cases op<;>first|(cases h;show⟨_,_,_,rfl,rfl,rfl⟩)|(obtain⟨_,e⟩:=uZ h;cases e;show⟨_,_,_,rfl,rfl,rfl⟩)|cases h
  |_=>cases h
 |_=>cases h
def Kv(op:PJ):V->V->Hp->VK->Prop:=λx y H Q=>∃dx q B u,jF dx=Pj x/\jF q=Pj y/\AK op dx q=Pj B/\jF B=Pj u/\Q u H
theorem Ez(op:PJ):Lq X op (Kv op):=by
 intro a s Z H x y v u Q I d f h;obtain⟨l,k,m,w,e,g,b,c,q⟩:=h
 cases l with
 |int i=>cases k with
  |int j=>cases op with
   |Add=>cases b;cases e;cases g;cases c;show zx a s Z H _ _ v u Q I d f ⟨_,_,rfl,rfl,q⟩
   |BitAnd=>cases b;cases e;cases g;cases c;show zy a s Z H _ _ v u Q I d f ⟨_,_,rfl,rfl,q⟩
   |BitOr=>cases b;cases e;cases g;cases c;show Dc a s Z H _ _ v u Q I d f ⟨_,_,rfl,rfl,q⟩
   |_=>cases b
  |_=>cases b
 |_=>cases b
def xZ(pn:List Nat)(i:Nat)(op:PJ)(o:Option (Option Sl))(a:MR):Option Res:=match o,a with
 |some (Pj s),Pj (ky,dy,Y1)=>if i∈pn then Pl else(match AK op s.d dy with|some dz=>Pj (.nx (Y1.set i (Pj (FE dz))))|none=>Pl)
 |_,_=>Pl
theorem HL(O:am X U c){f:Ro->MR}{i:Nat}(u:lB c x=Pm)(hi:aZ x c.N=Pj i)(K:bh X f e):du X pn (λY=>xZ pn i op Y[i]? (f Y)) (.AugAssign (.Name x p) op e pos):=by
 intro Y r h g Z H W s q;let l:=iY O u;dsimp only[xZ] at h;split at h
 ·ext R ky S P I B;split at h
  ·cases h
  ·ext C;split at h
   ·ext E k;cases h;obtain⟨Q,T,A,o,m,n⟩:=ve k;obtain⟨v,V,e1,e2,e3⟩:=s.slot i _ I;let D:=pF o e3.rd;subst D;show ce (CW (i:=i) (by rw[O.N];show O.nd) (by rw[O.N];show aX hi) l.1 au (Ez op) l.2) ⟨_,e1,K Y _ _ _ B g Z H _ s λy L w F a j M=>?_⟩;let t:=pF m M.rd;subst t;show⟨_,_,E,A,o,m,k,n,?_⟩;let d:=j.drop (F2:=jX) (λ_ z=>z.elim) λb z=>(a.tmp b z).1;rw[aW λ_ z=>z] at d;show q _ L w (a.drop λ_ z=>z.elim) (d.set i (xY n)) (PinOk.set C)
   ·cases h
 ·cases h
end
theorem mf(b:List Pz)(env:Env):∀a:List Pz,execs (a++b) env=(execs a env >>= λf=>match f with|.next=>execs b env|f=>pure f)
 |[]=>by
  change execs b env=((pure .next:Sem Flow) >>= _)
  rw[pure_bind]
 |st::a=>by
  change execs (st::(a++b)) env=_;rw[execs_cons,execs_cons,bind_assoc];congr 1;funext f
  cases f with
  |next=>show mf b env a
  |_=>rw[pure_bind]
theorem AL{a b:List Pz}{Z:L2.St}(h:BV X a { Dn with nx:=λZ H=>BV X b Dn Z H } Z H):BV X (a++b) Dn Z H:=by
 intro c s I;rw[mf];show Pq (a5 (h c s I) λf s1 q=>?_)
 cases f with
 |next=>
  obtain⟨e,g,d,q⟩:=q;show q c s1 d
 |_=>show Pu q
theorem nu{κ:Type}[DecidableEq κ]:∀(kvs:List (κ×V)) (k:κ) (j:Nat),(kvs.map (·.1)).Nodup->kvs.findIdx? (λkv=>decide (kv.1=k))=Pj j->(kvs.map (λkv=>if kv.1=k then(kv.1,v) else kv)).map (·.2)=(kvs.map (·.2)).set j v
 |[],k,j,_,h=>by simp at h
 |(a,b)::r,k,j,hn,h=>by
  rw[MV] at h;rw[Mx,Mw] at hn;by_cases e:a=k
  ·subst e;simp at h;subst h
   have:r.map (λkv=>if kv.1=a then(kv.1,v) else kv)=r:=by
    conv=>rhs;rw[<- List.map_id r]
    show Oe λkv hk=>?_;rw[if_neg λz=>hn.1 (Na.mpr ⟨kv,hk,z⟩)];rfl
   simp[this]
  ·simp only[e,decide_false] at h;obtain⟨d,c,rfl⟩:=aY (by simpa using h);have:=nu (v:=v) r k d hn.2 c;simp only[Mx,e,if_false,On,this]
theorem tN{κ:Type}[DecidableEq κ](kvs:List (κ×V))(k:κ):(kvs.map (λkv=>if kv.1=k then(kv.1,v) else kv)).map (·.1)=kvs.map (·.1):=by
 rw[MB];show Oe λkv _=>?_;simp only[Function.comp]
 split<;>rfl
theorem cH{κ:Type}[DecidableEq κ]{kvs:List (κ×V)}{k:κ}:(kvs.any λkv=>decide (kv.1=k))=(kvs.findIdx? λkv=>decide (kv.1=k)).isSome:=by
 rw[List.findIdx?_isSome]
theorem jg{α β:Type}{f:α->β}:∀{l:List α},(l.map f).Nodup->l.Nodup
 |[],_=>.nil
 |a::l,h=>by
  rw[Mx,Mw] at h;show Mw.mpr ⟨λz=>h.1 (List.mem_map_of_mem z),jg h.2⟩
theorem tO{H:Hp}{ks:List DK}{xs:List V}{k:DK}{y v:V}(g:H a=Pj o)(q:cR K o (.dic t ks) xs)(h:iW d=Pj k)(r:Rp K H S d y)(hk:hUq t k=Pm)(w:xs.length<sizeLine) :
  (∀j,aS ks k=Pj j->ks.Nodup->∃s:Nat->HO,DPut H a y v (λe=>upd H a (s e))/\∀e,(∀xs,s e≠.tup xs)/\cR K (s e) (.dic t ks) (xs.set j v))/\(aS ks k=Pl->∃s:Nat->HO,DPut H a y v (λe=>upd H a (s e))/\∀e,(∀xs,s e≠.tup xs)/\cR K (s e) (.dic t (ks++[k])) (xs++[v])):=by
 rcases q with⟨rfl,c,rfl,e1,e2⟩|⟨m,rfl,c,C,rfl,e1,e2⟩
 ·rcases mZ h r with⟨x,rfl,rfl⟩|⟨i,b,rfl,rfl,B⟩
  ·let e3:aS ks (.inl x)=c.findIdx? λz=>decide (z.1=x):=by
    unfold aS;rw[e1,NQ];congr 1;funext p;simp[Sum.inl.injEq]
   let A:c.length<sizeLine:=by rw[e2] at w;simpa using w
   let u:=DPut.k (k:=x) (v:=v) g A;show⟨λj f l=>⟨λ_=>.dK (cy c x v),u,λ_=>⟨(λxs h=>by cases h),.inl ⟨rfl,_,rfl,?_,?_⟩⟩⟩,λf=>⟨λ_=>.dK (cy c x v),u,λ_=>⟨(λxs h=>by cases h),.inl ⟨rfl,_,rfl,?_,?_⟩⟩⟩⟩
   ·rw[e3] at f;unfold cy;rw[cH,f,if_pos (by rfl),e1];have:=congrArg (N7 (Sum.inl:aJ->DK)) (tN (v:=v) c x);simp only[MB] at this⊢;show this.symm
   ·rw[e3] at f;unfold cy;rw[cH,f,if_pos (by rfl),e2]
    let n:(c.map (·.1)).Nodup:=by
     rw[e1] at l;have:c.map (λp=>(Sum.inl p.1:DK))=(c.map (·.1)).map Sum.inl:=by rw[MB];rfl
     rw[this] at l;show jg l
    show(nu c x j n f).symm
   ·rw[e3] at f;unfold cy;rw[cH,f,if_neg (by simp),e1];simp
   ·rw[e3] at f;unfold cy;rw[cH,f,if_neg (by simp),e2];simp
  ·cases hk
 ·rcases mZ h r with⟨x,rfl,rfl⟩|⟨i,b,rfl,rfl,B⟩
  ·cases hk
  ·let e3:aS ks (.inr i)=c.findIdx? λz=>decide (z.1=i):=by
    unfold aS;rw[e1,NQ];congr 1;funext p;simp[Sum.inr.injEq]
   let A:c.length<sizeLine:=by rw[e2] at w;simpa using w
   let u:=DPut.t (k:=i) (v:=v) g (B m hk) A;show⟨λj f l=>⟨λe=>.dT m e (cy c i v),u,λe=>⟨(λxs h=>by cases h),.inr ⟨m,rfl,_,e,rfl,?_,?_⟩⟩⟩,λf=>⟨λe=>.dT m e (cy c i v),u,λe=>⟨(λxs h=>by cases h),.inr ⟨m,rfl,_,e,rfl,?_,?_⟩⟩⟩⟩
   ·rw[e3] at f;unfold cy;rw[cH,f,if_pos (by rfl),e1];have:=congrArg (N7 (Sum.inr:List (aJ ⊕ List aJ)->DK)) (tN (v:=v) c i);simp only[MB] at this⊢;show this.symm
   ·rw[e3] at f;unfold cy;rw[cH,f,if_pos (by rfl),e2]
    let n:(c.map (·.1)).Nodup:=by
     rw[e1] at l;have:c.map (λp=>(Sum.inr p.1:DK))=(c.map (·.1)).map Sum.inr:=by rw[MB];rfl
     rw[this] at l;show jg l
    show(nu c i j n f).symm
   ·rw[e3] at f;unfold cy;rw[cH,f,if_neg (by simp),e1];simp
   ·rw[e3] at f;unfold cy;rw[cH,f,if_neg (by simp),e2];simp
section
variable {K:Md} {H:Hp} {S:Pr}
theorem TrL.setAt:∀{ds:List D} {es:List Ow} {r:Ow} {xs:List V} {F F2:Pr} {j:Nat} {d:D} {v:V},TrL K H S ds es r xs F->j<ds.length->Tr K H S d (es.getD j r) v F2->(∀b,F b->¬F2 b)->∃F3:Pr,(∀b,F3 b->F b\/F2 b)/\TrL K H S (ds.set j d) es r (xs.set j v) F3
 |[],_,_,_,_,_,_,_,_,_,hj,_,_=>by simp at hj
 |d0::ds,es,r,xs,F,F2,0,d,v,h,hj,t,dj=>by
  unfold TrL at h;obtain⟨y,f,k,F3,rfl,a,c,n,i⟩:=h;show⟨λb=>F2 b\/F3 b,λb z=>z.elim .inr λz=>.inl ((a b).mpr (.inr z)),?_⟩;change TrL K H S (d::ds) es r (v::f) _;unfold TrL
  show⟨v,f,F2,F3,rfl,λb=>Iff.rfl,λb e g=>dj b ((a b).mpr (.inr g)) e,by cases es<;>simpa using t,i⟩
 |d0::ds,es,r,xs,F,F2,j+1,d,v,h,hj,t,dj=>by
  unfold TrL at h;obtain⟨y,f,k,F3,rfl,a,c,n,i⟩:=h
  let p:es.tail.getD j r=es.getD (j+1) r:=by cases es<;>simp
  obtain⟨l,m,o⟩:=TrL.setAt (j:=j) (d:=d) (v:=v) (F2:=F2) i (by simpa using hj) (by rw[p];show t) λb z=>dj b ((a b).mpr (.inr z));show⟨λb=>k b\/l b,λb z=>z.elim (λz=>.inl ((a b).mpr (.inl z))) λz=>(m b z).imp (λz=>(a b).mpr (.inr z)) id,?_⟩;change TrL K H S (d0::ds.set j d) es r (y::f.set j v) _;unfold TrL;show⟨y,_,k,l,rfl,λb=>Iff.rfl,λb e g=>?_,n,o⟩;rcases m b g with z|z
  ·show c b e z
  ·show dj b ((a b).mpr (.inl e)) z
end
def ny(es:List Ow)(r:Ow)(hd:Hd)(ds:List D)(dx:D)(x:KD):Option (Hd×List D):=match hd with
 |.lst=>(match dx with|.int z=>(match jx ds.length z with|some j=>if bM (es.getD j r) x=Pm then Pj (.lst,ds.set j x.2) else Pl|none=>Pl)|_=>Pl)
 |.dic t ks=>(match iW dx with
  |some k=>if hUq t k=Pm/\ds.length<100000 then(match aS ks k with
   |some j=>if bM (es.getD j r) x=Pm/\ks.Nodup/\j<ds.length then Pj (.dic t ks,ds.set j x.2) else Pl
   |none=>if es.length<=ds.length/\bM r x=Pm then Pj (.dic t (ks++[k]),ds++[x.2]) else Pl) else Pl
  |none=>Pl)
 |_=>Pl
def vf(i:Nat)(q:Ro->Option (Ow×D×(D->D)))(fk:Ro->Option KD)(a:MR):Option Res:=match a with
 |some (kd,d,Y1)=>(match q Y1,fk Y1,Y1[i]? with
  |some (.own es r,.nd hd ds,up),Pj (_,dx),Pj (Pj ⟨Po,k,_⟩)=>(match ny es r hd ds dx (dJ kd d,d) with
   |some (hd',ds')=>Pj (.nx (Y1.set i (Pj ⟨Po,k,up (.nd hd' ds')⟩)))
   |none=>Pl)
  |_,_,_=>Pl)
 |none=>Pl
theorem vg:swapsWithSole [.Subscript o b sp] e n env=pure Po:=by
 cases e<;>rfl
theorem AM:swappedStores [.Subscript o b sp] e env=pure Pl:=by
 cases e<;>rfl
section
variable {X:Cx} {U:Tab} {c:Cz} {pn:List Nat}
theorem ya{H H0:Hp}{g g0:Gh}{Y:Ro}{up:D->D}{xs:List V}{x:KD}{O:iO}(c:ny es r hd ds dx x=Pj (hd',ds'))(f:nl K H g F Y Z i k es r hd ds up a o xs F')(ev:Evo g0 H0 g H F)(se:SE K (g.plus F) Y Z H)(vr:VR1 K H g F x.1 x.2 v F)(ry:Rp K H S dx y)(q:EndM K pn g0 H0 Z O (.nx (Y.set i (Pj ⟨Po,k,up (.nd hd' ds')⟩)))) :
  (∃z j,hd=.lst/\y=.int z/\o=.lst xs/\H a=Pj o/\jx xs.length z=Pj j/\O.nx Z (upd H a (.lst (xs.set j v))))\/((∃t E,hd=.dic t E)/\∃W,DPut H a y v W/\∀e,O.nx Z (W e)):=by
 let hF:∀b,F b->g b=Pl:=λb z=>(ev.tmp b z).1;let mm:MuOk H (Sx g F):=λb z=>se.mu b ((al b).mpr z);let u:∀(d:Pr),(∀b,d b->F b)->∀b,Sg (g.give d i) b->Sg (g.plus F) b:=λd s2 b z=>(al b).mpr ((give_S.mp z).imp id (s2 b))
 let w:∀{R:Ow},bM R x=Pm->∃d:Pr,(∀b,d b->F b)/\Tr K H (Sg (g.give d i)) x.2 R v d/\(∀b,F' b->¬d b):=λ{R} m=>by
  obtain⟨d,X,a2⟩:=VR1.fit (p:=x) m mm hF (λb z=>z) vr;show⟨d,X,a2 _ λb z=>?_,λb z1 z2=>by have:=f.lab b z1;rw[hF b (X b z2)] at this;cases this⟩;show(give_S.mp z).elim (λz=>.inr (.inl z)) λz=>.inr (.inr (.inl z))
 let B:∀{A:HO} {d:Pr},(∀b,d b->F b)->SE K (g.give d i) (Y.set i (Pj ⟨Po,k,up (.nd hd' ds')⟩)) Z (upd H a A)->O.nx Z (upd H a A):=λ{A d} s2 s=>q Z _ _ (ev.give s2 f.own) s PinOk.refl;unfold ny at c;split at c
 ·split at c
  ·ext z;split at c
   ·ext j C;split at c
    ·ext m;cases c;obtain⟨d,b1,b2,L⟩:=w m;let ho:o=.lst xs:=f.ok;let l:=f.kids.len;let P:j<ds.length:=(mP C).2.1;obtain⟨U,T,M⟩:=(f.kids.go (S':=Sg (g.give d i)) (λ_ _ _ e=>e) λb o _ n z=>n (u d b1 b z)).setAt P b2 L;show .inl ⟨z,j,rfl,ry.int,ho,f.at_,by rw[l];show C,B b1 (f.put (.lst (xs.set j v)) .lst _ _ d U rfl rfl (λxs h=>by cases h) b1 T M)⟩
    ·cases c
   ·cases c
  ·cases c
 ·ext t E;split at c
  ·ext kk hk;split at c
   ·ext I;let l:=f.kids.len;obtain⟨p1,p2⟩:=tO (v:=v) f.at_ f.ok hk ry I.1 (by rw[l];show Mo I.2 (aK (Mi _)));split at c
    ·ext j C;split at c
     ·ext m;cases c;obtain⟨A,Q,N⟩:=p1 j C m.2.1;obtain⟨d,b1,b2,L⟩:=w m.1;obtain⟨U,T,M⟩:=(f.kids.go (S':=Sg (g.give d i)) (λ_ _ _ e=>e) λb o _ n z=>n (u d b1 b z)).setAt m.2.2 b2 L;show .inr ⟨⟨t,E,rfl⟩,_,Q,λe=>B b1 (f.put (A e) (.dic t E) _ _ d U rfl (N e).2 (N e).1 b1 T M)⟩
     ·cases c
    ·ext C;split at c
     ·ext m;cases c;obtain⟨A,Q,N⟩:=p2 C;obtain⟨d,b1,b2,L⟩:=w m.2;let M:=TrL.snoc2 m.1 (f.kids.go (S':=Sg (g.give d i)) (λ_ _ _ e=>e) λb o _ n z=>n (u d b1 b z)) b2 L;show .inr ⟨⟨t,E,rfl⟩,_,Q,λe=>B b1 (f.put (A e) (.dic t (E++[kk])) _ _ d _ rfl (N e).2 (N e).1 b1 (λb z=>z) M)⟩
     ·cases c
   ·cases c
  ·cases c
 ·cases c
theorem HM(O:am X U c){f:Ro->MR}(hf:bh X f e)(hp:kZ X i fp b)(hk:SndE X fk k)(hb:cV k=Pm)(hn:fA e=Pm):du X pn (λY=>vf i fp fk (f Y)) (.Assign [.Subscript b k sp] e pos):=by
 intro Y r h g Z H Dn se q;dsimp only[vf] at h;split at h
 ·ext kd d N he;split at h
  ·ext es r0 L ds up kx dx kk d0 ep ek ei;split at h
   ·ext hh hg Q;cases h
    let mu:L.mu=Pm:=by
     cases L with
     |tup=>simp[ny] at Q
     |_=>rfl
    let I:∀v m C F,Evo g H m C F->SE X.K (m.plus F) N Z C->VR1 X.K C m F kd d v F->∀M B w P R T,Same C B->N[i]?=Pj (Pj ⟨Po,R,T⟩)->Z[i]?=Pj (Pj w)->(∀b,P b->(m.plus F) b=Pj (Pj i))->FP X.K B (Sg (m.plus F)) R w P (.own es r0) (.nd L ds) M up->∀y u,Same B u->VR X.K (m.plus F) B u kx dx y->
      ∃a o E F',M=.ref a/\nl X.K u m F N Z i kk es r0 L ds up a o E F'/\((∃z j,L=.lst/\y=.int z/\o=.lst E/\u a=Pj o/\jx E.length z=Pj j/\Dn.nx Z (upd u a (.lst (E.set j v))))\/((∃t ks,L=.dic t ks)/\∃F4,DPut u a y v F4/\∀e,Dn.nx Z (F4 e))):=by
     intro v m C F D l V M B w P R T s2 s W lb A y u S ry;rw[ei] at s;cases s;let q8:=s2.trans S;let ha:=l.same q8;let hc:Evo g H m u F:=⟨λb o n e=>q8 _ _ (D.keep b o n e),D.out,D.new,D.tmp,λb o e=>let ⟨o',q1⟩:=D.dom b o e;⟨o',q8 _ _ q1⟩⟩;obtain⟨a,o,E,F',rfl,nd⟩:=FP.node ha (λb z=>(D.tmp b z).1) ei W lb (A.same S) mu;show⟨a,o,E,F',rfl,nd,ya (x:=(dJ kd d,d)) Q nd hc ha ((V.im l.mu).go q8 λ_ _ _ z=>z) ry.rd q⟩
    cases L with
    |lst=>
     show ce (qj au (CV au au wy (by intro v;cases k<;>first|rfl|cases hb)) vg AM) ?_
     show hf Y _ _ _ he g Z H _ se λv m C F D l V=>hp N _ _ _ ep (m.plus F) Z C _ l λM B w P R T s2 s W lb A=>hk N _ _ ek (m.plus F) Z B _ (l.same s2) λy u S ry=>?_;obtain⟨a,o,E,F',rfl,nd,p⟩:=I v m C F D l V M B w P R T s2 s W lb A y u S ry;rcases p with⟨z,j,_,rfl,rfl,g3,hj,p⟩|⟨⟨t,ks,z⟩,_⟩
     ·show⟨a,E,z,j,rfl,rfl,g3,hj,p⟩
     ·cases z
    |dic t ks=>
     show ce (zR (by have:=O.tab.units;lia) au au au (jZ hn)) ?_;show hf Y _ _ _ he g Z H _ se λv m C F D l V=>hp N _ _ _ ep (m.plus F) Z C _ l λM B w P R T s2 s W lb A=>hk N _ _ ek (m.plus F) Z B _ (l.same s2) λy u S ry=>?_;obtain⟨a,o,E,F',rfl,nd,p⟩:=I v m C F D l V M B w P R T s2 s W lb A y u S ry;rcases p with⟨z,j,zz,_⟩|⟨_,H4,d1,p⟩
     ·cases zz
     ·show⟨a,H4,rfl,d1,p⟩
    |tup=>cases mu
    |obj c ns=>simp[ny] at Q
   ·cases h
  ·cases h
 ·cases h
theorem TrL.snocG:∀{ds:List D} {es:List Ow} {r:Ow} {us:List V} {F F2:Pr} {d:D} {v:V},TrL K H S ds es r us F->Tr K H S d (es.getD ds.length r) v F2->(∀b,F b->¬F2 b)->TrL K H S (ds++[d]) es r (us++[v]) (λb=>F b\/F2 b)
 |[],es,r,us,F,F2,d,v,h,t,dj=>by
  unfold TrL at h;obtain⟨rfl,i⟩:=h;change TrL K H S [d] es r [v] _;unfold TrL
  show⟨v,[],F2,λ_=>False,rfl,λb=>⟨λz=>z.elim (λz=>absurd z (i b)) .inl,λz=>z.elim .inr λz=>z.elim⟩,λ_ _ z=>z,by cases es<;>simpa using t,?_⟩
  unfold TrL;show⟨rfl,λ_ z=>z⟩
 |d0::ds,es,r,us,F,F2,d,v,h,t,dj=>by
  unfold TrL at h;obtain⟨y,g,k,m,rfl,c,f,n,j⟩:=h
  let l:es.getD (d0::ds).length r=es.tail.getD ds.length r:=by cases es<;>simp
  rw[l] at t;have:=TrL.snocG j t λb e a=>dj b ((c b).mpr (.inr e)) a;change TrL K H S (d0::(ds++[d])) es r (y::(g++[v])) _;unfold TrL;show⟨y,g++[v],k,λb=>m b\/F2 b,rfl,λb=>⟨λz=>z.elim (λz=>((c b).mp z).imp id .inl) λz=>.inr (.inr z),λz=>z.elim (λz=>.inl ((c b).mpr (.inl z))) λz=>z.imp (λz=>(c b).mpr (.inr z)) id⟩,λb e a=>a.elim (f b e) λa=>dj b ((c b).mpr (.inl e)) a,n,this⟩
theorem tP:∀{ns:List Str} {xs:List V} {j:Nat},aZ f ns=Pj j->ns.length=xs.length->putF f v (ns.zip xs)=ns.zip (xs.set j v)
 |[],_,_,h,_=>by cases h
 |_::_,[],_,_,l=>by cases l
 |n::ns,x::xs,j,h,l=>by
  unfold aZ at h;rw[NN];unfold putF;split at h
  ·ext a;cases h;rw[if_pos a.symm];rfl
  ·ext a;obtain⟨c,b,rfl⟩:=aY h;rw[if_neg (Ne.symm a),On,NN,tP b (by simpa using l)]
theorem pG{f:Str}{v:V}:∀{ns:List Str} {xs:List V},aZ f ns=Pl->ns.length=xs.length->putF f v (ns.zip xs)=(ns++[f]).zip (xs++[v])
 |[],[],_,_=>rfl
 |[],_::_,_,l=>by cases l
 |_::_,[],_,l=>by cases l
 |n::ns,x::xs,h,l=>by
  unfold aZ at h;rw[NN];unfold putF;split at h
  ·cases h
  ·ext a
   rw[if_neg (Ne.symm a),Ny,Ny,NN,pG (by cases q:aZ f ns with|none=>rfl|some z=>rw[q] at h;cases h) (by simpa using l)]
def HN(es:List Ow)(r:Ow)(ns:List Str)(ds:List D)(f:Str)(x:KD):Option (List Str×List D):=match aZ f ns with
 |some j=>if bM (es.getD j r) x=Pm/\j<ds.length/\ds.length<900 then Pj (ns,ds.set j x.2) else Pl
 |none=>if bM (es.getD ds.length r) x=Pm/\ds.length<900 then Pj (ns++[f],ds++[x.2]) else Pl
def tQ(i:Nat)(c f:Str)(q:Ro->Option (Ow×D×(D->D)))(a:MR):Option Res:=match a with
 |some (kd,d,Y1)=>(match q Y1,Y1[i]? with
  |some (.own es r,.nd (.obj c' ns) ds,up),Pj (Pj ⟨Po,k,_⟩)=>if c'=c then(match HN es r ns ds f (dJ kd d,d) with
   |some (ns',ds')=>Pj (.nx (Y1.set i (Pj ⟨Po,k,up (.nd (.obj c ns') ds')⟩)))
   |none=>Pl) else Pl
  |_,_=>Pl)
 |none=>Pl
theorem EA{f:Ro->MR}{i:Nat}{fp:Ro->Option (Ow×D×(D->D))}{b e:Pp}{c z:Str}{sp pos:Pos}(hd:∀C,M6 X.K PF c=Pj (Pj (.ref C))->Cls X.K C/\NoAttr X.K C z)(hf:bh X f e)(hp:kZ X i fp b)
  (hs:swapsWith e (Pj (.Attribute b z sp)) pos.line X.env=pure Po):du X pn (λY=>tQ i c z fp (f Y)) (.Assign [.Attribute b z sp] e pos):=by
 intro Y r h g Z H Dn se q;dsimp only[tQ] at h;split at h
 ·ext kd d Y1 he;split at h
  ·ext es r0 c' ns ds up kk d0 ep ei;split at h
   ·ext hc;subst hc;split at h
    ·ext V hb l;cases h;show ce (Dd au au hs) ?_;show hf Y _ _ _ he g Z H _ se λv m H1 F A u vr=>hp Y1 _ _ _ ep (m.plus F) Z H1 _ u λv1 L w Fi k' d' s2 R ew lb W=>?_;rw[ei] at R;cases R;let N:=u.same s2;let S:Evo g H m L F:=⟨λb o n e=>s2 _ _ (A.keep b o n e),A.out,A.new,A.tmp,λb o e=>let ⟨I,q1⟩:=A.dom b o e;⟨I,s2 _ _ q1⟩⟩;obtain⟨a,o,P,F',rfl,t⟩:=FP.node N (λb z=>(A.tmp b z).1) ei ew lb W rfl;obtain⟨C,U,hC,⟨T,na⟩,ho,B⟩:=t.ok;subst ho;let hF:∀b,F b->m b=Pl:=λb z=>(S.tmp b z).1;let mm:MuOk L (Sx m F):=λb z=>N.mu b ((al b).mpr z);let M:∀(k:Pr),(∀b,k b->F b)->∀b,Sg (m.give k i) b->Sg (m.plus F) b:=λk s2 b z=>(al b).mpr ((give_S.mp z).imp id (s2 b));let ha:=(vr.im u.mu).go s2 λ_ _ _ z=>z
     let E:∀{kc:Ow},bM kc (dJ kd d,d)=Pm->∃k:Pr,(∀b,k b->F b)/\Tr X.K L (Sg (m.give k i)) d kc v k/\(∀b,F' b->¬k b):=λ{kc} hf=>by
      obtain⟨k,a1,a2⟩:=VR1.fit (p:=(dJ kd d,d)) hf mm hF (λb z=>z) ha;show⟨k,a1,a2 _ λb z=>?_,λb z1 z2=>by have:=t.lab b z1;rw[hF b (a1 b z2)] at this;cases this⟩;show(give_S.mp z).elim (λz=>.inr (.inl z)) λz=>.inr (.inr (.inl z))
     let Q:∀{I:HO} {k:Pr},(∀b,k b->F b)->SE X.K (m.give k i) (Y1.set i (Pj ⟨Po,kk,up (.nd (.obj c' V) hb)⟩)) Z (upd L a I)->Dn.nx Z (upd L a I):=λ{I k} s2 s=>q Z _ _ (S.give s2 t.own) s PinOk.refl;let O:=t.kids.len;let hz:(ns.zip P).length=ds.length:=by rw[List.length_zip,B,O,Nat.min_self]
     obtain⟨hg,nz⟩:=hd C hC;unfold HN at l;split at l
     ·ext j hj;split at l
      ·ext x;cases l;obtain⟨k,b1,b2,b3⟩:=E x.1;obtain⟨F3,c1,c2⟩:=(t.kids.go (S':=Sg (m.give k i)) (λ_ _ _ e=>e) λb o _ n z=>n (M k b1 b z)).setAt x.2.1 b2 b3;show⟨a,C,U,ns.zip P,rfl,t.at_,T,nz,by rw[hz];have:=x.2.2;lia,?_⟩;rw[tP hj B];show Q b1 (t.put _ (.obj c' ns) _ _ k F3 rfl ⟨C,U,hC,⟨T,na⟩,rfl,by rw[NM];show B⟩ (λP h=>by cases h) b1 c1 c2)
      ·cases l
     ·ext hj;split at l
      ·ext x;cases l;obtain⟨k,b1,b2,b3⟩:=E x.1;let c2:=TrL.snocG (t.kids.go (S':=Sg (m.give k i)) (λ_ _ _ e=>e) λb o _ n z=>n (M k b1 b z)) b2 b3;show⟨a,C,U,ns.zip P,rfl,t.at_,T,nz,by rw[hz];have:=x.2;lia,?_⟩;rw[pG hj B];show Q b1 (t.put _ (.obj c' (ns++[z])) _ _ k _ rfl ⟨C,U,hC,⟨T,λy hy=>(MQ.mp hy).elim (na y) λhy=>by rw[MN.mp hy];show nz⟩,rfl,by rw[MF,MF,B];rfl⟩ (λP h=>by cases h) b1 (λb z=>z) c2)
      ·cases l
    ·cases h
   ·cases h
  ·cases h
 ·cases h
end
mutual
inductive IS where
 |asg (i:Nat) (a:ME)
 |unp (is:List Nat) (a:ME)
 |aug (i:Nat) (op:PJ) (a:ME)
 |put (b:BP) (k:IE) (a:ME)
 |putF (c:Str) (b:BP) (f:Str) (a:ME)
 |ret (a:ME)
 |ifs (t:MT) (a b:bw)
 |fo (fg:List Nat) (tg:IT) (it:MI) (b:bw)
 |wh (fg:List Nat) (t:MT) (b:bw)
 |pas
 |exp (a:ME)
 |pre (is:List Nat) (s:IS)
 |stk
inductive bw where
 |nil
 |cons (s:IS) (r:bw)
end
mutual
def gx(U:GG)(N:Nat):IS->List Nat->Ro->Option Res
 |.asg i a,pn,Y=>fB pn i (aQ U a Y)
 |.unp is a,pn,Y=>xR pn is (aQ U a Y)
 |.aug i op a,pn,Y=>xZ pn i op Y[i]? (aQ U a Y)
 |.put b k a,_,Y=>vf b.slot (pj U.fn b) (aa U.fn k) (aQ U a Y)
 |.putF c b f a,_,Y=>tQ b.slot c f (pj U.fn b) (aQ U a Y)
 |.ret a,_,Y=>pA (aQ U a Y)
 |.ifs t a b,pn,Y=>xU (bH U t Y) (aq U N a pn) (aq U N b pn)
 |.fo fg tg it b,pn,Y=>me pn fg tg (aq U N b) (c4 U it Y)
 |.wh fg t b,pn,Y=>jf fg (bH U t) (aq U N b pn) N Y
 |.pas,_,Y=>Pj (.nx Y)
 |.exp a,_,Y=>rz (aQ U a Y)
 |.pre is s,pn,Y=>Pl
 |.stk,_,_=>Pl
def aq(U:GG)(N:Nat):bw->List Nat->Ro->Option Res
 |.nil,_,Y=>Pj (.nx Y)
 |.cons s r,pn,Y=>ca (gx U N s pn Y) (aq U N r pn)
end
section
theorem AN:gx U N (.asg i a) pn Y=fB pn i (aQ U a Y):=rfl
theorem AO:gx U N (.unp is a) pn Y=xR pn is (aQ U a Y):=rfl
theorem AQ:gx U N (.aug i op a) pn Y=xZ pn i op Y[i]? (aQ U a Y):=rfl
theorem AR{U:GG}:gx U N (.put b k a) z0 Y=vf b.slot (pj U.fn b) (aa U.fn k) (aQ U a Y):=rfl
theorem AS:gx U N (.ret a) z0 Y=pA (aQ U a Y):=rfl
theorem tR:gx U N (.ifs t a b) pn Y=xU (bH U t Y) (aq U N a pn) (aq U N b pn):=rfl
theorem EB:gx U N (.fo fg tg it b) pn Y=me pn fg tg (aq U N b) (c4 U it Y):=rfl
theorem EC:gx U N (.wh fg t b) pn Y=jf fg (bH U t) (aq U N b pn) N Y:=rfl
theorem AT:gx U N (.exp a) z0 Y=rz (aQ U a Y):=rfl
end
theorem jP{f:Ro->Option Res}(h:∀Y,f Y=Pl):du X pn f e:=λY r a=>by rw[h] at a;cases a
structure An where
 fg:Nat->List Nat:=λ_=>[]
 pz:Nat->List Nat:=λ_=>[]
 fa:Nat->Bool:=λ_=>Po
 sk:Nat->Bool:=λ_=>Po
noncomputable def rB(f:Pz->Option IS):List Pz->Option bw
 |[]=>Pj .nil
 |s::r=>match f s,rB f r with|some a,Pj b=>Pj (.cons a b)|_,_=>Pl
noncomputable def rC:Pz->Nat
 |.Assign _ _ p=>p.line
 |.AugAssign _ _ _ p=>p.line
 |.Return _ p=>p.line
 |.Expr _ p=>p.line
 |.If _ _ _ p=>p.line
 |.For _ _ _ _ p=>p.line
 |.While _ _ _ p=>p.line
 |.Raise _ _ p=>p.line
 |.Try _ _ _ _ p=>p.line
 |.Delete _ p=>p.line
 |_=>0
noncomputable def tT:Pp->Bool
 |.ListComp _ gs _ _=>(match gs with|[]=>Po|g::gs=>(match gs with|[]=>g.is_async==0|_::_=>Po))
 |_=>Po
noncomputable def BY(l:List Nat)(s:Option IS):Option IS:=match l,s with
 |[],s=>s
 |l,Pj s=>Pj (.pre l s)
 |_,Pl=>Pl
noncomputable def BZ:Pp->Bool
 |.Constant (.str _) _ _=>Pm
 |_=>Po
noncomputable def B0(f:Str):List (Str×List Str)->Option Str
 |[]=>Pl
 |(c,fs)::r=>if f∈fs then Pj c else B0 f r
def B1(fns:Nms)(f:Str):Option Str:=match B0 f fns.cls with
 |some c=>(match fns.cls.lookup c with|some fs=>if f∈fs then Pj c else Pl|none=>Pl)
 |none=>Pl
def FJ(fns:Nms)(m:Nat)(c:Cz)(q:List Pp)(e:Pp):Option IS:=match q with
 |[]=>Pl
 |t::q=>match q with
  |_::_=>Pl
  |[]=>match t with
   |.Name x _=>if lB c x&&(fA e||tT e) then(match aZ x c.N,cM fns (m+1) c e with|some i,Pj a=>Pj (.asg i a)|_,_=>Pl) else Pl
   |.Tuple es _ _=>if xQ e then(match xS c es,cM fns (m+1) c e with|some is,Pj a=>Pj (.unp is a)|_,_=>Pl) else Pl
   |.Subscript b k _=>if cV k&&fA e then(match BU c (cE fns (m+1) c) 6 b,cE fns (m+1) c k,cM fns (m+1) c e with|some b,Pj k,Pj a=>Pj (.put b k a)|_,_,_=>Pl) else Pl
   |.Attribute b z _=>if fA e then(match B1 fns z,BU c (cE fns (m+1) c) 6 b,cM fns (m+1) c e with|some cl,Pj b,Pj a=>Pj (.putF cl b z a)|_,_,_=>Pl) else Pl
   |_=>Pl
def Kw(fns:Nms)(m:Nat)(c:Cz)(t:Pp)(op:PJ)(e:Pp):Option IS:=match t with
 |.Name x _=>if lB c x then(match aZ x c.N,cM fns (m+1) c e with|some i,Pj a=>Pj (.aug i op a)|_,_=>Pl) else Pl
 |_=>Pl
noncomputable def HP(c:Cz)(tg iter:Pp)(body:List Pz):Option IS:=Pl
def Ly(fns:Nms)(an:An)(m:Nat)(c:Cz)(B:List Pz->Option bw)(tg iter:Pp)(body q:List Pz)(p:Pos):Option IS:=match q with
 |_::_=>Pl
 |[]=>if an.fa p.line then HP c tg iter body else if dh iter then(match m9 c 4 tg,xO c (cM fns (m+1) c) (DZ c (cE fns (m+1) c) tg iter) tg iter,B body with|some t,Pj it,Pj b=>Pj (.fo (an.fg p.line) t it b)|_,_,_=>Pl) else Pl
def FK(fns:Nms)(an:An)(m:Nat)(c:Cz)(q:List Pz->Option bw):Pz->Option IS
 |.Assign ts e _=>FJ fns m c ts e
 |.AugAssign t op e _=>Kw fns m c t op e
 |.Return e _=>(match e with|some e=>(cM fns (m+1) c e).map .ret|none=>Pl)
 |.Expr e _=>if BZ e then Pj .pas else if fA e then(cM fns (m+1) c e).map .exp else Pl
 |.If t a b _=>(match vZ fns (m+1) c t,q a,q b with|some t,Pj a,Pj b=>Pj (.ifs t a b)|_,_,_=>Pl)
 |.For tg iter body els p=>Ly fns an m c q tg iter body els p
 |.While t body els p=>(match els with|_::_=>Pl|[]=>(match vZ fns (m+1) c t,q body with|some t,Pj b=>Pj (.wh (an.fg p.line) t b)|_,_=>Pl))
 |.Pass _=>Pj .pas
 |_=>Pl
def cS(fns:Nms)(an:An)(m:Nat)(c:Cz):Nat->Pz->Option IS
 |0,_=>Pl
 |n+1,s=>if an.sk (rC s)=Pm then Pj .stk else BY (an.pz (rC s)) (FK fns an m c (rB (cS fns an m c n)) s)
abbrev cB(fns:Nms)(an:An)(m:Nat)(c:Cz)(n:Nat):List Pz->Option bw:=rB (cS fns an m c n)
section
variable {X:Cx} {c:Cz} (fns:Nms) (U:GG)
theorem vh:∃b:Bool,swapsWith (.ListComp elt [⟨tg,iter,ifs,0⟩] scope cp) (Pj (.Name x p)) n env=pure b:=⟨_,rfl⟩
theorem ED(O:am X (a8 fns U) c){m i:Nat}(hl:lB c x=Pm)(hi:aZ x c.N=Pj i)(hc:tT e=Pm)(W:cM fns (m+1) c e=Pj a):du X pn (λY=>fB pn i (aQ U a Y)) (.Assign [.Name x p] e pos):=by
 let hs:∃elt tg iter ifs scope cp,e=.ListComp elt [⟨tg,iter,ifs,0⟩] scope cp:=by
  cases e with
  |ListComp elt gs scope cp=>cases gs with
   |nil=>cases hc
   |cons g gs=>cases gs with
    |cons _ _=>cases hc
    |nil=>
     cases g with
     |mk tg iter ifs as=>
      let h0:as=0:=eq_of_beq (show(as==0)=Pm from hc);subst h0;show⟨_,_,_,_,_,_,rfl⟩
  |_=>cases hc
 obtain⟨elt,tg,iter,ifs,scope,cp,rfl⟩:=hs;let l:=iY O hl;let hf:=(iz fns U (m+1)).1 X c O _ _ W;intro Y r h g Z H Dn se q
 cases f:aQ U a Y with
 |none=>dsimp only at h;rw[f] at h;cases h
 |some w=>
  obtain⟨kd,d,Y1⟩:=w;dsimp only at h;rw[f] at h;obtain⟨b,hb⟩:=vh (elt:=elt) (tg:=tg) (iter:=iter) (ifs:=ifs) (scope:=scope) (cp:=cp) (p:=p) (x:=x) (n:=pos.line) (env:=X.env)
  cases b with
  |false=>show ce (qk (i:=i) (by rw[O.N];show O.nd) (by rw[O.N];show aX hi) l.1 au hb l.2) (hf Y kd d Y1 f g Z H _ se λv g1 H1 F ev T vr=>iA h q ev T vr)
  |true=>
   let hd:∀{hck:a9 c scope=Pm} {hns:dh iter=Pm},iT (wI X tg iter) (λv Z H Q=>∀C s A j,wG (aj X (ac scope) scope C s A j) tg v Z H Q) (λZ H Q=>∀C s A j,DW (aj X (ac scope) scope C s A j) ifs Z H Q) (λZ H Q=>∀C s A j,wE (aj X (ac scope) scope C s A j) elt Z H Q) (aw c scope) Z H (λv H1=>gY i v Z H1 Dn.nx)->Jk X (.Assign [.Name x p] (.ListComp elt [⟨tg,iter,ifs,0⟩] scope cp) pos) Dn Z H:=λ{hck hns} ht=>
    ce (wX (N':=ac scope) (cap:=aw c scope) O.calm (df O hck) uX
     (λC s A j o s' Z' B v u Q' I r hh=>uY o s' Z' B v u Q' I r (hh C s A j)) (λC s A j o s' Z' B Q' I hh=>hh C s A j o s' I) (λC s A j o s' Z' B Q' I hh=>hh C s A j o s' I) (c7 hns)
     (by rw[O.N];show O.nd) (by rw[O.N];show aX hi) l.1 l.2 hb) ht
   let E:∀v g' B F,Evo g H g' B F->SE X.K (g'.plus F) Y1 Z B->VR1 X.K B g' F kd d v F->gY i v Z B Dn.nx:=λv g1 H1 F ev T vr=>iA h q ev T vr
   cases D:cE fns m c (.ListComp elt [⟨tg,iter,ifs,0⟩] scope cp) with
   |some V=>
    let P:Pj (ME.p V)=Pj a:=by rw[<- W];change _=(match cE fns m c _ with|some V=>Pj (ME.p V)|none=>_);rw[D]
    cases P
    cases m with
    |zero=>cases(show(Pl:Option IE)=Pj _ from D)
    |succ m=>
     let y:Ht fns c (cE fns m) (cT fns m) elt [⟨tg,iter,ifs,0⟩] scope cp=Pj V:=D;unfold Ht at y;dsimp only at y;rw[if_pos rfl] at y;split at y
     ·ext hn;rw[Me] at hn;split at y
      ·ext t it ts el ht S L M;cases y;let k:=cF (fm:=lG fns U) fns U.fn m;let CO:=cZ O hn.2
       let hv:aa U.fn (.comp ((fns.an cp.line cp.col).getD Ow.fz) (aw c scope) t it ts el) Y=Pj (kd,d)/\Y1=Y:=by
        rw[xM] at f;unfold Jh at f;split at f
        ·ext e';cases f;show⟨e',rfl⟩
        ·cases f
       obtain⟨hv,rfl⟩:=hv;rw[o8] at hv
       show hd (hck:=hn.2) (hns:=hn.1) (xn O hn.2 (sY fns U.fn O (k.1 X c O) S) ht (λC s H j=>tf U.fn (k.2 _ _ (CO C s H j)) L) (λC s H j=>k.1 _ _ (CO C s H j) _ _ M) hv se λv B s ⟨F,h1,h2⟩=>
        E v g B F (cc s h1 λb z=>dI se.mu (h1 b z)) (se.plus s h1 h2.dom) h2)
      ·cases y
     ·cases y
   |none=>
    let P:vc fns c (cM fns m) (cE fns m) (vZ fns m) elt [⟨tg,iter,ifs,0⟩] scope cp=Pj a:=by
     replace W:(match cE fns m c (.ListComp elt [⟨tg,iter,ifs,0⟩] scope cp) with|some V=>Pj (ME.p V)|none=>vc fns c (cM fns m) (cE fns m) (vZ fns m) elt [⟨tg,iter,ifs,0⟩] scope cp)=Pj a:=W
     rw[D] at W;show W
    obtain⟨hm,hg,hj,t,it,ts,el,hq,he,R,ht,S,L,M,rfl⟩:=tI fns P;cases hq;let k:=cF (fm:=lG fns U) fns U.fn m;let CO:=cZ O R;rw[pp] at f
    first|(cases f;done)|show hd (hck:=R) (hns:=he) (tB O R (rj fns U O ((iz fns U m).1 X c O) (k.1 X c O) S) ht (λC s H j=>pw U ((iz fns U m).2 _ _ (CO C s H j)) L) (λC s H j=>(iz fns U m).1 _ _ (CO C s H j) _ _ M) f se E)
theorem eK{f:Pz->Option IS}(c:∀s a,f s=Pj a->∀pn,du X pn (gx U N a pn) s):∀{st:List Pz} {b:bw},rB f st=Pj b->∀pn,a6 X pn (aq U N b pn) st
 |[],b,h,pn=>by
  cases h;rw[show aq U N .nil pn=λY=>Pj (.nx Y) by funext Y;rw[aq]];show HJ
 |s::st,b,h,pn=>by
  unfold rB at h;split at h
  ·ext a r e d;cases h
   rw[show aq U N (.cons a r) pn=λY=>ca (gx U N a pn Y) (aq U N r pn) by funext Y;conv=>lhs;rw[aq]]
   show Ex (c s a e pn) (eK c d pn)
  ·cases h
theorem Kx(O:am X (a8 fns U) c){m N:Nat}{n:List Pp}{e:Pp}{pos:Pos}{a:IS}(h:FJ fns m c n e=Pj a)(pn:List Nat):du X pn (gx U N a pn) (.Assign n e pos):=by
 let r:=(iz fns U (m+1)).1 X c O;let A:=(cF (fm:=lG fns U) fns U.fn (m+1)).1 X c O
 cases n with
 |nil=>cases h
 |cons t n=>cases n with
  |cons _ _=>cases h
  |nil=>cases t with
   |Name x p=>
    dsimp only[FJ] at h;split at h
    ·ext o;rw[Me,NC] at o;split at h
     ·ext i f B g;cases h;rw[show gx U N (.asg i f) pn=λY=>fB pn i (aQ U f Y) from funext λ_=>rfl];rcases o.2 with w|w
      ·show tJ O o.1 B w (r _ _ g)
      ·show ED fns U O o.1 B w g
     ·cases h
    ·cases h
   |Tuple P k p=>
    dsimp only[FJ] at h;split at h
    ·ext j;split at h
     ·ext D f s g;cases h
      first|(show jP λ_=>rfl)|(rw[show gx U N (.unp D f) pn=λY=>xR pn D (aQ U f Y) from funext λ_=>rfl];show HF O (r _ _ g) s j)
     ·cases h
    ·cases h
   |Subscript b k p=>
    dsimp only[FJ] at h;split at h
    ·ext j;rw[Me] at j;split at h
     ·ext l E f u hk g;cases h
      first|(show jP λ_=>rfl)|(rw[show gx U N (.put l E f) pn=λY=>vf l.slot (pj U.fn l) (aa U.fn E) (aQ U f Y) from funext λ_=>rfl];show HM O (r _ _ g) (vd U O A _ u) (A _ _ hk) j.1 j.2)
     ·cases h
    ·cases h
   |Attribute b z p=>
    dsimp only[FJ] at h;split at h
    ·ext j;split at h
     ·ext q l f d u g;cases h
      let y:∀C,M6 X.K PF q=Pj (Pj (.ref C))->Cls X.K C/\NoAttr X.K C z:=λC L=>by
       unfold B1 at d;split at d
       ·split at d
        ·ext I v;split at d
         ·ext H;cases d;obtain⟨M,F⟩:=O.tab.cf q I C v L;show⟨M,F z H⟩
         ·cases d
        ·cases d
       ·cases d
      first|(show jP λ_=>rfl)|(rw[show gx U N (.putF q l z f) pn=λY=>tQ l.slot q z (pj U.fn l) (aQ U f Y) from funext λ_=>rfl];show EA y (r _ _ g) (vd U O A _ u) (jZ j))
     ·cases h
    ·cases h
   |_=>cases h
theorem Ky(O:am X (a8 fns U) c)(h:Kw fns m c t op e=Pj a)(pn:List Nat):du X pn (gx U N a pn) (.AugAssign t op e pos):=by
 let d:=(iz fns U (m+1)).1 X c O
 cases t with
 |Name x p=>
  dsimp only[Kw] at h;split at h
  ·ext j;split at h
   ·ext i b g f;cases h
    first|(show jP λ_=>rfl)|(rw[show ∀op,gx U N (.aug i op b) pn=λY=>xZ pn i op Y[i]? (aQ U b Y) by intro op;show funext λ_=>rfl];show HL O j g (d _ _ f))
   ·cases h
  ·cases h
 |_=>cases h
theorem EE(O:am X Ut c)(b:PassesOwn (Pw X.prog X.w) X.A X.env X.xe)(h:HP c tg iter body=Pj a)(pn:List Nat):du X pn (gx U N a pn) (.For tg iter body [] pos):=by cases h
theorem jG(O:am X (a8 fns U) c)(B:PassesOwn (Pw X.prog X.w) X.A X.env X.xe):∀(n:Nat) {s:Pz} {a:IS},cS fns an m c n s=Pj a->∀pn,du X pn (gx U N a pn) s
 |0,s,a,h,pn=>by cases h
 |n+1,s,a,h,pn=>by
  let F:=(iz fns U (m+1)).1 X c O;let H:=(iz fns U (m+1)).2 X c O;let L:=(cF (fm:=lG fns U) fns U.fn (m+1)).1 X c O;let g:∀{I:List Pz} {b:bw},rB (cS fns an m c n) I=Pj b->∀pn,a6 X pn (aq U N b pn) I:=λh=>eK U (λs a h=>jG O B n h) h
  let k:∀{a:IS},FK fns an m c (rB (cS fns an m c n)) s=Pj a->du X pn (gx U N a pn) s:=λ{a} h=>by
   cases s with
   |Assign Q e d=>show Kx fns U O h pn
   |AugAssign t M e d=>show Ky fns U O h pn
   |Return e d=>cases e with
    |some e=>
     obtain⟨f,q,rfl⟩:=aY (show(cM fns (m+1) c e).map .ret=Pj a from h)
     first|(show jP λ_=>rfl)|(rw[show gx U N (.ret f) pn=λY=>pA (aQ U f Y) from funext λ_=>rfl];show BW (F _ _ q))
    |none=>cases h
   |Expr e d=>
    dsimp only[FK] at h;split at h
    ·ext C;cases h;rw[show gx U N .pas pn=λY=>Pj (.nx Y) from funext λ_=>rfl];unfold BZ at C;split at C
     ·show HG
     ·cases C
    ·split at h
     ·ext D;obtain⟨f,q,rfl⟩:=aY h
      first|(show jP λ_=>rfl)|(rw[show gx U N (.exp f) pn=λY=>rz (aQ U f Y) from funext λ_=>rfl];show xT D (F _ _ q))
     ·cases h
   |If t x y d=>
    dsimp only[FK] at h;split at h
    ·ext i f j r q u;cases h
     first|(show jP λ_=>rfl)|(rw[show gx U N (.ifs i f j) pn=λY=>xU (bH U i Y) (aq U N f pn) (aq U N j pn) by show funext λ_=>rfl];show HI (H _ _ r) (g q pn) (g u pn))
    ·cases h
   |For P K z o d=>cases o with
    |cons _ _=>cases h
    |nil=>
     dsimp only[FK,Ly] at h;split at h
     ·show EE U O B h pn
     ·split at h
      ·ext D;split at h
       ·ext i v j r E u;cases h
        first|(show jP λ_=>rfl)|(rw[show ∀p,gx U N (.fo p i v j) pn=λY=>me pn p i (aq U N j) (c4 U v Y) by intro p;show funext λ_=>rfl];show xX O B r (rj fns U O F L E) (g u) D)
       ·cases h
      ·cases h
   |While t z o d=>cases o with
    |cons _ _=>cases h
    |nil=>
     dsimp only[FK] at h;split at h
     ·ext i j r u;cases h
      first|(show jP λ_=>rfl)|(rw[show ∀p,gx U N (.wh p i j) pn=jf p (bH U i) (aq U N j pn) N by intro p;show funext λ_=>rfl];show HK B (H _ _ r) (g u pn) N)
     ·cases h
   |Pass d=>
    cases h
    first|(show jP λ_=>rfl)|(rw[show gx U N .pas pn=λY=>Pj (.nx Y) from funext λ_=>rfl];show Ey)
   |_=>cases h
  unfold cS at h;by_cases hk:an.sk (rC s)=Pm
  ·rw[if_pos hk] at h;cases h;show jP λY=>rfl
  rw[if_neg hk] at h;unfold BY at h;split at h
  ·show k h
  ·rename_i f q _;cases h
   first|(show jP λ_=>rfl)|(rw[show ∀l,gx U N (.pre l f) pn=λY=>gx U N f pn (frzN l Y) by intro l;show funext λ_=>rfl];show s_pre _ (k q))
  ·cases h
end
end J
namespace L2
open PyProof.Rows
theorem lH{R:Result->Pt->Prop}{s:Pt}(I:Nat->Pt->Prop)(b:∀n s,I n s->Pv (Pw prog w) A (pyNext it) (λr f=>match r with
   |none=>R (.ok .next) f
   |some v=>Pv (Pw prog w) A (letOwnedTupleGo target it v) (λ_ d=>Pv (Pw prog w) A (assign target env v) (λ_ j=>
     Pv (Pw prog w) A (forIn ifs Pm λc r=>if r=Pm then do let e <- isTrue c env (eval c env);pure (ForInStep.yield e) else pure (ForInStep.yield r)) (λe i=>
      if e=Pm then Pv (Pw prog w) A (eval kx env) (λkv t=>Pv (Pw prog w) A (eval vx env) (λq p=>
       Pv (Pw prog w) A (dictSet D kv q) (λ_ k=>∃m,m<n/\I m k) (λ_ _=>False) p) (λ_ _=>False) t) (λ_ _=>False) i
      else ∃m,m<n/\I m i) (λ_ _=>False) j) (λ_ _=>False) d) (λ_ _=>False) f) (λ_ _=>False) s)(n:Nat)(h:I n s) :
  codeAny (Pw prog w) A (.compLoop (.DictComp kx vx [⟨target,iter,ifs,0⟩] scope pos) 0 it (.ref D) env) R s:=by
 show codeAny_loop rfl I (λn s x=>?_) n h;show wpAny_noted ?_;rw[compTurn_dict];show Pq (wpAny_standAt (Pq (wpAny_mono (b n s x) (λr f o=>?_) λ_ _ a=>a.elim)))
 cases r with
 |none=>show Pu o
 |some v=>
  show Pq (wpAny_mono o (λ_ d g=>?_) λ_ _ a=>a.elim);show Pq (wpAny_mono g (λ_ j u=>Pq (wpAny_mono u (λe i l=>?_) λ_ _ a=>a.elim)) λ_ _ a=>a.elim)
  cases e with
  |false=>show Pu ⟨rfl,l⟩
  |true=>
   show Pq (Pq (wpAny_mono l (λkv t y=>Pq (PP (wpAny_mono y (λq p z=>Pq (wpAny_standAt (PP (wpAny_mono z (λ_ k B=>Pu ⟨rfl,B⟩) λ_ _ a=>a.elim)))) λ_ _ a=>a.elim))) λ_ _ a=>a.elim))
section
variable {X:Cx} {pins:List (Ps×Obj)} {Z:St} {H:Hp} {s:Pt}
theorem vi{A:PC}{F:Nat->Hp}{Q:Unit->Pt->Prop}(V:A.units+9<cLine)(I:Inv X pins Z H s)(g:DPut H a y v F)(L:RelV y u)(N:RelV v r)(h:∀e s',Inv X pins Z (F e) s'->Q () s') :
  Pv (Pw X.prog X.w) A (dictSet a u r) Q E s:=by
 rcases g with⟨d,k,e,o,l,B⟩|⟨m,D,d,k,b,e,o,M,l,B⟩
 ·subst o B;obtain⟨z,n,U,f,t⟩:=lV I.hok e;let W:U.length<=sizeLine:=by rw[<- f.length];show z
  let p:(cy d k v).length<=sizeLine:=by have:=dE d k v;lia
  show wpAny_dictSet_pairs (kn L) t λC i x=>h 0 _ ?_;let R:∃q,C.get? a=Pj q:=let ⟨q,_,_,j,_⟩:=i;⟨q,j⟩;show jR I (by rw[e];show True.intro) x R (wL p n (f.put k N) i)
 ·subst o B;cases(L);obtain⟨z,n,xs,f,t⟩:=wK I.hok e;let W:xs.length<=sizeLine:=by rw[<- Paired.length f];show z
  let p:(cy d k v).length<=sizeLine:=by have:=dE d k v;lia
  show wpAny_dictSet_heap (Nat.lt_of_succ_lt V) (eD I.hok M) t λC i x=>?_;obtain⟨q,Y,D,j,P,T,S,_,O⟩:=i;show h D _ ?_;show jR I (by rw[e];show True.intro) x ⟨q,j⟩ ⟨p,n,_,(f.put k M N).keeps λc ys K=>?_,q,Y,j,P,T,S,O⟩
  rw[ah (Bv K e (λz=>nomatch z))]
  show K
def nA(wi:TI)(g:TG)(tt:TT)(tk te:TE)(o0:HO)(cap:List (Option Nat)):TE:=λZ H Q=>wi Z H λJ H1=>∀D,H1 D=Pl->∃W:Nat->Nat->St->Hp->Prop,(∃m,W 0 m (cz Z cap) (upd H1 D o0))/\∀i m Z' H',W i m Z' H'->
 (J.stop i H'/\Q (.ref D) H')\/(J.go i H'/\∀x H2,J.yld i H' x H2->g x Z' H2 λB O=>tt B O λok O=>if ok=Pm then tk B O λy H4=>te B H4 λv H5=>∃F,DPut H5 D y v F/\∀e,∃q,q<m/\W (i+1) q B (F e) else ∃q,q<m/\W (i+1) q B O)
theorem mh(hc:X.calm=Pm)(O:eW X N' scope cap)(hi:PI X tg iter wi)(hg:∀C s H ex,PG (aj X N' scope C s H ex) tg g)(ht:∀C s H ex,zT (aj X N' scope C s H ex) ifs tt)(hk:∀C s H ex,PE (aj X N' scope C s H ex) kx tk)(he:∀C s H ex,PE (aj X N' scope C s H ex) elt te)(ho:o0=.dK []\/∃m,o0=.dT m 0 [])(hu:X.A.units+9<cLine){Q:VK}(I:Inv X pins Z H s)(h:nA wi g tt tk te o0 cap Z H Q)(hs:∀x,foldedSetIterable iter X.env x=pure x)(hX:X.xe=E)(hQ:∀(C D:Ps) (s1:Pt) (H1:Hp) (f:List Ps) (Z':St) (H':Hp) (s':Pt),Inv X pins Z H1 s1->(∀b∈f,iP X pins H1 b)->Inv (aj X N' scope C s1 H1 f) [] Z' H' s'->Q (.ref D) H'->
   compPost (Pw X.prog X.w) X.A E use Q' (.ref D) C (.ok .next) s') :
  Pv (Pw X.prog X.w) X.A (comprehension (.DictComp kx elt [⟨tg,iter,ifs,0⟩] scope pos) scope X.env cpos newDict Po (eval iter X.env) use) Q' E s:=by
 let hv:closureFor scope X.env=pure (fZ X.env.cells scope.names []):=gg λy hy e=>I.ok.has _ (O.free y hy e);show wpAny_comprehension_free rfl hs hv O.kind O.names ?_;subst hX;show a5 (hi pins s Z H _ I h) λv s1 h1=>a5 h1 λga s2 h2=>?_;obtain⟨it,f,tn,J,B,e,I2,T,ha,f2,hW⟩:=h2;subst e;show PN (gh ?_);dsimp only;generalize M:s2.heap.push { cls:=.type "dict",dict:=Pl,data:=.dict #[] }=HH;let hj:HH.objs.size=s2.heap.objs.size+1:=by rw[<- M,Nu]
 let h3:s2.heap.objs.size<HH.objs.size:=by rw[hj];show Nw _
 generalize N:pushCells (HH.push { cls:=.type "dict",data:=.dict #[] }) scope.names=h₁;let kp:∀b o,HH.get? b=Pj o->h₁.get? b=Pj o:=λb o e=>N▸pushCells_keeps _ _ b o (Mf _ e);let hd:h₁.Ns HH.objs.size λ_=>Pl:=N▸(Heap.Ns.new HH (.type "dict")).keeps (pushCells_keeps _ _)
 let h9:∀x c,(PK (HH.objs.size+1) scope.names []).lookup x=Pj c->h₁.IsCell c Pl:=λx c e=>by
  let ok:=cellsFrom_ok scope.names (HH.push { cls:=.type "dict",data:=.dict #[] }) 0 [] ⟨λ_ _ S=>(nomatch S),List.Pairwise.nil⟩ (ML _)
  rw[Nu] at ok;show N▸(ok.empty x c (bW e)).1
 let V:∀b o,s2.heap.get? b=Pj o->h₁.get? b=Pj o:=λb o e=>kp b o (M▸Mf _ e)
 let h5:ObjOk X.prog X.w (upd B s2.heap.objs.size o0) h₁ s2.heap.objs.size o0:=by
  let h0:=I2.big;let a:(s2.heap.objs.size==sysModules)=Po:=beq_eq_false_iff_ne.mpr (Ne.symm (Mr h0));let eo:h₁.get? s2.heap.objs.size=Pj { cls:=.type "dict",data:=.dict #[] }:=kp _ _ (M▸Mp _ rfl);rcases ho with rfl|⟨m,rfl⟩
  ·show⟨ML _,a,[],.nil,let ⟨q,es,ep,hq,r⟩:=Heap.DictOf.new s2.heap;⟨q,es,ep,by rw[eo,<- hq];show(Mp _ rfl).symm,r⟩⟩
  ·show⟨ML _,a,[],.nil,_,#[],eo,⟨rfl,rfl,rfl⟩,rfl,rfl,Oh⟩
 let R:∀b∈f,b<s2.heap.objs.size:=λb a=>let ⟨o,e,_⟩:=T.obj 0 _ ha b a;Ml e;let L:=I2.hok.fresh (Mi s2.heap.objs.size);obtain⟨W,⟨m0,w0⟩,P⟩:=hW s2.heap.objs.size L;let J0:=oG (tk:=s2.toks) I2 O f2 R (by rw[hj];show Np _) (Mi _) h3 h9 hd V h5;let hl:tn 0 h₁:=T.keep 0 _ _ ha λb _ o e=>V b o e
 let h6:∀b∈f,(upd B s2.heap.objs.size o0) b=Pl:=λb a=>by
  rw[ah (Mr (R b a))];show(f2 b a).1
 let j:∀{H':Hp},(∀b∈f,H' b=Pl)->∀b∈f,iP (aj X N' scope HH.objs.size s2 B f) [] H' b:=λhn b a=>
  ⟨hn b a,(J0.ok.exf b a).1,J0.ok.exfs b a,.inl a,(J0.ok.exf b a).2,λp hp=>absurd hp (by simp[aj])⟩
 let K:codeAny (Pw X.prog X.w) X.A (.compLoop (.DictComp kx elt [⟨tg,iter,ifs,0⟩] scope pos) 0 (.ref it) (.ref s2.heap.objs.size) (compEnvC scope (Ds X.env.cells scope.names HH.objs.size) HH.objs.size X.env))
   (compPost (Pw X.prog X.w) X.A X.xe use Q' (.ref s2.heap.objs.size) HH.objs.size) { s2 with heap:=h₁,toks:=s2.toks }:=by
  show lH (λn s'=>∃i Z' H',Inv (aj X N' scope HH.objs.size s2 B f) [] Z' H' s'/\tn i s'.heap/\(∀b∈f,H' b=Pl)/\W i n Z' H') ?_ m0 ⟨0,_,_,J0,hl,h6,w0⟩
  rintro n s3 ⟨i,Z3,H3,I3,hh,U,w3⟩
  rcases P i n Z3 H3 w3 with⟨Y,qn⟩|⟨go,hf⟩
  ·show a5 (T.done (aj X N' scope HH.objs.size s2 B f) rfl rfl rfl hc i [] s3 Z3 H3 _ I3 (j U) hh Y) λr s4 ⟨hr,I4⟩=>?_;subst hr;show hQ _ _ s2 B f Z3 H3 s4 I2 f2 I4 qn
  ·show a5 (T.item (aj X N' scope HH.objs.size s2 B f) rfl rfl rfl hc i [] s3 Z3 H3 _ I3 (j U) hh go) λr s4 ⟨u,hr,h4⟩=>?_;subst hr;show a5 h4 λ_ s5 z=>?_;obtain⟨x,H5,I5,r5,y5,k,h7⟩:=z;let hw:=I5.pinned (j h7) (T.obj _ _ k);show a5 (hg _ _ _ _ _ s5 Z3 H5 x u _ hw r5 (hf x H5 y5)) λ_ s6 z=>?_;obtain⟨Z6,H6,I6,q6⟩:=z;show a5 (ht _ _ _ _ _ s6 Z6 H6 _ I6 q6) λok hx z=>?_;obtain⟨h8,l,t⟩:=z
   cases ok with
   |false=>
    rw[if_neg Mz] at t⊢;obtain⟨m',S,w7⟩:=t;show⟨m',S,i+1,Z6,_,l.unpinned,T.keep _ _ _ k λb a o e=>(l.pin (b,o) (Mq _ (Mq _ (bj a e)))).1,λb a=>?_,w7⟩;obtain⟨o,e,d⟩:=T.obj _ _ k b a;show(l.pin (b,o) (Mq _ (Mq _ (bj a e)))).2.1
   |true=>
   rw[if_pos rfl] at t⊢;show a5 (hk _ _ _ _ _ hx Z6 h8 _ l t) λkv s7 z=>?_;obtain⟨y,H7,I7,r7,q7⟩:=z;show a5 (he _ _ _ _ _ s7 Z6 H7 _ I7 q7) λvv s8 z=>?_;obtain⟨v,H8,I8,r8,F,gF,qF⟩:=z;show vi (X:=aj X N' scope HH.objs.size s2 B f) hu I8 gF r7 r8 λe s9 I9=>?_;obtain⟨m',S,w7⟩:=qF e;show⟨m',S,i+1,Z6,_,I9.unpinned,T.keep _ _ _ k λb a o e=>(I9.pin (b,o) (Mq _ (Mq _ (bj a e)))).1,λb a=>?_,w7⟩;obtain⟨o,e,d⟩:=T.obj _ _ k b a;show(I9.pin (b,o) (Mq _ (Mq _ (bj a e)))).2.1
 show codeAny_compStart_dict K (T.self _ 0 _ _ _ hl K)
theorem yb(p:X.calm=Pm)(O:eW X N' scope cap)(hi:PI X tg iter wi)(j:∀C s H ex,PG (aj X N' scope C s H ex) tg g)(i:∀C s H ex,zT (aj X N' scope C s H ex) ifs tt)(hk:∀C s H ex,PE (aj X N' scope C s H ex) kx tk)(k:∀C s H ex,PE (aj X N' scope C s H ex) elt te)(d:o0=.dK []\/∃m,o0=.dT m 0 [])(c:X.A.units+9<cLine)(e:∀x,foldedSetIterable iter X.env x=pure x:=by intro _;rfl):PE X (.DictComp kx elt [⟨tg,iter,ifs,0⟩] scope pos) (nA wi g tt tk te o0 cap):=by
 intro b s Z H Q I h;show mh p O hi j i hk k d c I h e rfl λC D s1 t v u l w n o J q=>?_;obtain⟨m,f,_⟩:=J.loc;show⟨m,f,λr a=>⟨.ref D,l,hG n o J a,rfl,q⟩⟩
theorem yc{cpos pos' pos:Pos}{i:Nat}(U:X.calm=Pm)(O:eW X N' scope cap)(hi:PI X tg iter wi)(hg:∀C s H ex,PG (aj X N' scope C s H ex) tg g)(P:∀C s H ex,zT (aj X N' scope C s H ex) ifs tt)(hk:∀C s H ex,PE (aj X N' scope C s H ex) kx tk)(R:∀C s H ex,PE (aj X N' scope C s H ex) elt te)(W:o0=.dK []\/∃m,o0=.dT m 0 [])(V:X.A.units+9<cLine)(Y:∀x,foldedSetIterable iter X.env x=pure x)(hN:X.N.Nodup)(r:X.N[i]?=Pj x)(hx:Bw X.env.scope x)(hf:X.fn x=Pm\/X.env.scope.names.lookup x=Pj .local)(t:swapsWith (.DictComp kx elt [⟨tg,iter,ifs,0⟩] scope cpos) (Pj (.Name x pos')) pos.line X.env=pure Pm) :
  PS X (.Assign [.Name x pos'] (.DictComp kx elt [⟨tg,iter,ifs,0⟩] scope cpos) pos) (zt (nA wi g tt tk te o0 cap) (gY i)):=by
 intro d s Z H D I h;rw[exec_Assign_Name_used _ _ _ _ t];show Pq (wpAny_standAt (Pq ?_));show Pq (wpAny_mono (mh U O hi hg P hk R W V I h Y rfl λC L s1 H1 fp Z' F z l f1 J q=>?_) (λ_ z hq=>Pu (Pu hq)) λ_ _ e=>e);let I2:Inv X d Z F z:=hG l f1 J (Heap.SameBut.refl C z.heap);let K:s1.heap.objs.size<=C:=J.ok.above;let j:∀b o,s1.heap.get? b=Pj o->b≠C:=λb o e=>Mr (Mo (Ml e) K);obtain⟨m1,⟨oL,_,_,B,_⟩,_⟩:=id l.loc;let E:X.env.locals≠C:=j _ _ B
 let k:∀x c,X.env.cells.lookup x=Pj c->c≠C:=λx c e=>by
  obtain⟨v,o,g,_⟩:=l.cell x c e;show j _ _ g
 let n:∀p∈X.pn++d,p.1≠C:=λp S=>j _ _ (l.pin p S).1
 let Q:X.s₀.heap.objs.size<=C:=by
  show MP ?_ K;show NX (Nj l.ok.above (Ml B))
 obtain⟨m,M,_⟩:=J.loc;show wpAny_assign_Name (iN I2 hN r hx (v:=.ref L) rfl (λs3 T f=>?_) hf);obtain⟨a,f,u⟩:=f
 let y:C≠a:=by
  rcases u with rfl|u
  ·show Ne.symm E
  ·show Ne.symm (k _ _ u)
 show⟨m,M.sameBut f y,λh' w=>⟨_,F,T.junk w Q E k n J.free,q⟩⟩
end
end L2
namespace J
def gP(tg:IT)(ft:Ro->Option Bool)(fk B:Ro->Option KD)(q:Ro)(d:D):Option (Option (D×D)):=match nZ tg d with
 |some ps=>if bY ps q=Pm then(match ft (setAll ps q) with
  |some Pm=>(match fk (setAll ps q) with
   |some k=>(match B (setAll ps q) with
    |some y=>if qM y.1 y.2=Pm then Pj (Pj (k.2,y.2)) else Pl
    |none=>Pl)
   |none=>Pl)
  |some Po=>Pj Pl
  |none=>Pl) else Pl
 |none=>Pl
def vj(t:Nat)(a:List DK×List D)(k y:D):Option (List DK×List D):=match iW k with
 |some k=>if hUq t k=Pm then(match aS a.1 k with
  |some j=>if a.1.Nodup then Pj (a.1,a.2.set j y) else Pl
  |none=>Pj (a.1++[k],a.2++[y])) else Pl
 |none=>Pl
def ed(t:Nat)(f:D->Option (Option (D×D))):List D->List DK×List D->Option (List DK×List D)
 |[],a=>Pj a
 |d::ds,a=>match f d with
  |some (Pj p)=>(match vj t a p.1 p.2 with
   |some q=>ed t f ds q
   |none=>Pl)
  |some Pl=>ed t f ds a
  |none=>Pl
def eL(t:Nat)(it:Option (List Nat×List D))(f:D->Option (Option (D×D))):Option KD:=match it with
 |some (_,ds)=>if ds.length<=100000 then(match ed t f ds ([],[]) with
  |some a=>Pj (.fr (.own [] .fz),.nd (.dic t a.1) a.2)
  |none=>Pl) else Pl
 |none=>Pl
noncomputable def rD:Nat->HO
 |0=>.dK []
 |m+1=>.dT m 0 []
theorem AU:∀t,cR K (rD t) (.dic t []) []
 |0=>.inl ⟨rfl,[],rfl,rfl,rfl⟩
 |m+1=>.inr ⟨m,rfl,[],0,rfl,rfl,rfl⟩
theorem tU:∀t xs,rD t≠.tup xs
 |0,_,h=>by cases h
 |_+1,_,h=>by cases h
section
variable {X:Cx} {U:Tab} {c:Cz}
abbrev Kz(K:Md)(f:List J.D->List DK×List J.D->Option (List DK×List J.D))(z:Nat)(q:List DK×List J.D)(ds:List J.D)(g':Gh)(Y:Ro)(H1:Hp)(D:Ps):Nat->Nat->L2.St->Hp->Prop:=λi m Z' H'=>m=ds.length-i/\i<=ds.length/\∃(a:List DK×List J.D) (us:List V) (o:HO),f (ds.drop i) a=Pj q/\us.length<=i/\SE K (g'.plus λb=>b=D) Y Z' H'/\
  (∀b o,H1 b=Pj o->H' b=Pj o)/\H' D=Pj o/\(∀xs,o≠.tup xs)/\cR K o (.dic z a.1) us/\RpL K H' (Sg (g'.plus λb=>b=D)) a.2 us
theorem tV(O:am X U c){fi:Ro->Option (List Nat×List D)}(hck:a9 c scope=Pm)(hi:SndI X fi tg iter)(h0:m9 ⟨eT scope c.sc,ac scope,e6 scope⟩ n tg=Pj t)(hf:∀C s H ex,jB (aj X (ac scope) scope C s H ex) ft ifs)(h9:∀C s H ex,SndE (aj X (ac scope) scope C s H ex) fk kx)(gi:∀C s H ex,SndE (aj X (ac scope) scope C s H ex) fe elt)(h:eL z (fi Y) (gP t ft fk fe (aT Y (aw c scope)))=Pj (kd,d)){Z:L2.St}{Q:VK}(se:SE X.K g Y Z H)(q:∀v H',Same H H'->VR X.K g H H' kd d v->Q v H') :
  nA (wI X tg iter) (λv Z H Q=>∀C s I ex,wG (aj X (ac scope) scope C s I ex) tg v Z H Q) (λZ H Q=>∀C s I ex,DW (aj X (ac scope) scope C s I ex) ifs Z H Q) (λZ H Q=>∀C s I ex,wE (aj X (ac scope) scope C s I ex) kx Z H Q) (λZ H Q=>∀C s I ex,wE (aj X (ac scope) scope C s I ex) elt Z H Q) (rD z) (aw c scope) Z H Q:=by
 let hq:kK (aw c scope)=Pm:=by
  simp only[a9,Me] at hck;show hck.1.2
 unfold eL at h;split at h
 ·ext bs k ga;split at h
  ·ext hg;split at h
   ·ext W hm;cases h;let CO:=cZ O hck;show hi Y bs k ga g Z H _ se λjj h5 H1 s1 jt sp sf D hD=>?_;let E:SE X.K (g.re (i6 (aw c scope))) (aT Y (aw c scope)) (cz Z (aw c scope)) H1:=(se.same s1).cap hq;generalize h8:g.re (i6 (aw c scope))=g' at E;let gS:∀b,Sg g' b↔Sg g b:=λb=>by rw[<- h8];show jO b
    generalize hY:aT Y (aw c scope)=Yc at E hm;generalize hZ:cz Z (aw c scope)=Zc at E;clear hY hZ
    show⟨Kz X.K (ed z (gP t ft fk fe Yc)) z W k g' Yc H1 D,
     ⟨k.length,by simp,ML _,([],[]),[],rD z,hm,Mi _,?_,λb o e=>ag hD _ _ e,ak,tU z,AU z,.nil⟩,?_⟩
    ·show E.plus (ag hD) (λb w=>w▸hD) λb w=>⟨rD z,w▸ak,tU z⟩
    rintro i m Z' H' ⟨rfl,gs,a,A,o,f,ht,S,kk,gD,h6,R,rl⟩
    let hc:∀b,Sg (g'.plus λb=>b=D) b↔Sx g (λb=>b=D) b:=λb=>(al b).trans (or_congr (gS b) Iff.rfl);let N:∀b o,H1 b=Pj o->b≠D:=λb o e w=>by rw[w,hD] at e;cases e
    let gn:h5.P X.K (g'.plus λb=>b=D) H':=Src.mono (λb o e n w=>((hc b).mp w).elim n (N b o e)) (λb o _ e=>kk b o e) (λa e=>sf.from_t e) sp;obtain⟨j1,j2⟩:=jt i _ H' gn S.mu;by_cases u:i<k.length
    ·let hd:k[i]?=Pj k[i]:=Ms u;obtain⟨go,yl⟩:=j2 _ hd;rw[M0 u] at f;show .inr ⟨go,λx H2 hy C s0 I ex=>?_⟩;obtain⟨s2,rx⟩:=yl x H2 hy
     cases F:gP t ft fk fe Yc k[i] with
     |none=>unfold ed at f;rw[F] at f;cases f
     |some o1=>
      let l:=F;unfold gP at l;split at l
      ·ext ps h4;split at l
       ·ext h2;show sG (o6 (CO C s0 I ex) n h0) (ii h4 rx λvs hh C1 hb hn hl=>?_);let T:=SE.setAll hh (S.same s2);obtain⟨t2,t3⟩:=SE.passAll hh h2 (S.same s2);split at l
        ·ext hT;show hf C1 hb hn hl _ Pm hT _ _ _ _ T λH3 L=>uT λC2 h3 gj hs=>?_;split at l
         ·ext ke gd;split at l
          ·ext ye gk;split at l
           ·ext h1;cases l;obtain⟨h7,dk⟩:=ke;obtain⟨ky,dy⟩:=ye
            let j:(match vj z a dk dy with|some M=>ed z (gP t ft fk fe Yc) (k.drop (i+1)) M|none=>Pl)=Pj W:=by
             unfold ed at f;rw[F] at f;show f
            show h9 C2 h3 gj hs _ h7 dk gd _ _ H3 _ (T.same L) λvk H4 s4 r4 C3 gc hw hx=>?_;show gi C3 gc hw hx _ ky dy gk _ _ H4 _ ((T.same L).same s4) λvy B s5 r5=>?_;let FL:Same H' B:=((s2.trans L).trans s4).trans s5;let ry:=r5.sh h1 ((T.same L).same s4).mu s5;let rk:Rp X.K B (λ_=>False) dk vk:=r4.rd.go λb o n e=>⟨s5 b o e,λw=>w⟩;let hu:B D=Pj o:=FL _ _ gD;let hr:RpL X.K B (Sg (g'.plus λb=>b=D)) a.2 A:=rl.go λb o n e=>⟨FL b o e,n⟩;let hv:Sg (g'.plus λb=>b=D) D:=(al D).mpr (.inr rfl)
            let ho:∀(p:HO) (M:List DK×List J.D) (y:List V),ed z (gP t ft fk fe Yc) (k.drop (i+1)) M=Pj W->y.length<=i+1->(∀xs,p≠.tup xs)->cR X.K p (.dic z M.1) y->RpL X.K B (Sg (g'.plus λb=>b=D)) M.2 y->
              ∃m',m'<k.length-i/\m'=k.length-(i+1)/\i+1<=k.length/\∃(a:List DK×List J.D) (A:List V) (o:HO),ed z (gP t ft fk fe Yc) (k.drop (i+1)) a=Pj W/\A.length<=i+1/\SE X.K (g'.plus λb=>b=D) Yc (ig vs Z') (upd B D p)/\
              (∀b o,H1 b=Pj o->upd B D p b=Pj o)/\upd B D p D=Pj o/\(∀xs,o≠.tup xs)/\cR X.K o (.dic z a.1) A/\RpL X.K (upd B D p) (Sg (g'.plus λb=>b=D)) a.2 A:=λp M y e1 e2 e3 e4 e5=>
             ⟨_,by lia,rfl,u,M,y,p,e1,e2,SE.upd (((t2.same L).same s4).same s5) (aV rfl) e3,λb o e=>by rw[ah (N b o e)];show FL _ _ (kk b o e),ak,e3,e4,e5.go λb o n e=>⟨by rw[ah (λw=>n (by rw[w];show hv))];show e,n⟩⟩
            let hz:A.length<sizeLine:=Nj ht (Mo u (aK hg))
            cases r:vj z a dk dy with
            |none=>rw[r] at j;cases j
            |some M=>
             rw[r] at j;unfold vj at r;split at r
             ·ext k' gl;split at r
              ·ext ha;obtain⟨p1,p2⟩:=tO hu R gl rk ha hz;split at r
               ·ext jn hj;split at r
                ·ext gb;cases r;obtain⟨p,dp,po⟩:=p1 jn hj gb;show⟨_,dp,λe=>ho (p e) _ (A.set jn vy) j (by rw[NM];lia) (po e).1 (po e).2 (RpL.set jn hr ry)⟩
                ·cases r
               ·ext hj;cases r;obtain⟨p,dp,po⟩:=p2 hj;show⟨_,dp,λe=>ho (p e) _ (A++[vy]) j (by rw[MF,N9];lia) (po e).1 (po e).2 (hr.append (.cons ry .nil))⟩
              ·cases r
             ·cases r
           ·cases l
          ·cases l
         ·cases l
        ·ext hT;cases l;let j:ed z (gP t ft fk fe Yc) (k.drop (i+1)) a=Pj W:=by unfold ed at f;rw[F] at f;show f
         show hf C1 hb hn hl _ Po hT _ _ _ _ T λH3 L=>uS ?_;let q8:=s2.trans L;show⟨k.length-(i+1),by lia,rfl,u,a,A,o,j,by lia,t2.same L,λb o e=>q8 _ _ (kk b o e),q8 _ _ gD,h6,R,rl.go λb o n e=>⟨q8 b o e,n⟩⟩
        ·cases l
       ·cases l
      ·cases l
    ·let e:i=k.length:=by lia
     subst e;rw[N8] at f;cases f;show .inl ⟨j1 (Mi _),q _ H' (λb o e=>kk b o (s1 _ _ e)) ⟨λb=>b=D,λb w=>s1.free (w▸hD),?_⟩⟩;change Tr _ _ _ _ _ _ _;unfold Tr
     show⟨D,o,A,λ_=>False,rfl,gD,R,λ_ w=>w,(λh=>nomatch h),λb=>⟨λw=>.inl ⟨rfl,w⟩,λw=>w.elim (λw=>w.2) λw=>w.elim⟩,.ofFz (rl.weak λb w=>(hc b).mpr w)⟩
   ·cases h
  ·cases h
 ·cases h
theorem tW:∀z,rD z=.dK []\/∃m,rD z=.dT m 0 []
 |0=>.inl rfl
 |m+1=>.inr ⟨m,rfl⟩
theorem AV(O:am X U c){w:Ro->Option (List Nat×List D)}(hck:a9 c scope=Pm)(hns:dh iter=Pm)(hi:SndI X w tg iter)(l:m9 ⟨eT scope c.sc,ac scope,e6 scope⟩ n tg=Pj t)(p:∀C s H ex,jB (aj X (ac scope) scope C s H ex) ft ifs)(m:∀C s H ex,SndE (aj X (ac scope) scope C s H ex) fk kx)(o:∀C s H ex,SndE (aj X (ac scope) scope C s H ex) fe elt) :
  SndE X (λY=>eL z (w Y) (gP t ft fk fe (aT Y (aw c scope)))) (.DictComp kx elt [⟨tg,iter,ifs,0⟩] scope pos):=by
 intro Y y d h g Z H Q x q
 show ao (yb O.calm (df O hck) uX
  (λC s b ex a f i j v u k I r e=>uY a f i j v u k I r (e C s b ex)) (λC s b ex a f i j k I e=>e C s b ex a f I) (λC s b ex a f i j k I e=>e C s b ex a f I) (λC s b ex a f i j k I e=>e C s b ex a f I) (tW z) (Nj (Of (by decide:9<=100) _) O.tab.units) (c7 hns)) (tV O hck hi l p m o h x q)
theorem rE:∃b:Bool,swapsWith (.DictComp kx elt [⟨tg,iter,ifs,0⟩] scope cp) (Pj (.Name x p)) n env=pure b:=⟨_,rfl⟩
theorem EF(O:am X U c){R:Ro->Option (List Nat×List D)}(W:lB c x=Pm)(V:aZ x c.N=Pj i)(hck:a9 c scope=Pm)(hns:dh iter=Pm)(hi:SndI X R tg iter)(y:m9 ⟨eT scope c.sc,ac scope,e6 scope⟩ n tg=Pj t)(E:∀C s H ex,jB (aj X (ac scope) scope C s H ex) ft ifs)(o:∀C s H ex,SndE (aj X (ac scope) scope C s H ex) fk kx)(A:∀C s H ex,SndE (aj X (ac scope) scope C s H ex) fe elt) :
  du X pn (λY=>fB pn i ((eL z (R Y) (gP t ft fk fe (aT Y (aw c scope)))).map λB=>(B.1,B.2,Y))) (.Assign [.Name x p] (.DictComp kx elt [⟨tg,iter,ifs,0⟩] scope cp) pos):=by
 let l:=iY O W;let hf:=(AV O (pos:=cp) (z:=z) hck hns hi y E o A);intro Y r h g Z H Dn L q
 cases Q:eL z (R Y) (gP t ft fk fe (aT Y (aw c scope))) with
 |none=>dsimp only at h;rw[Q] at h;cases h
 |some w=>
  obtain⟨B,d⟩:=w;dsimp only at h;rw[Q] at h
  let f:∀v e,Same H e->VR X.K g H e B d v->gY i v Z e Dn.nx:=λv e s r=>by
   obtain⟨F,S,f2⟩:=r;show iA h q (cc s S λb w=>dI L.mu (S b w)) (L.plus s S λb w=>f2.dom b w) f2
  obtain⟨b,T⟩:=rE
  cases b with
  |false=>show ce (qk (by rw[O.N];show O.nd) (by rw[O.N];show aX V) l.1 au T l.2) (hf Y B d Q g Z H _ L f)
  |true=>
   show ce (yc O.calm (df O hck) uX
    (λC s j ex a m M e v u P I r k=>uY a m M e v u P I r (k C s j ex)) (λC s j ex a m M e P I k=>k C s j ex a m I) (λC s j ex a m M e P I k=>k C s j ex a m I) (λC s j ex a m M e P I k=>k C s j ex a m I) (tW z) (Nj (Of (by decide:9<=100) _) O.tab.units) (c7 hns)
    (by rw[O.N];show O.nd) (by rw[O.N];show aX V) l.1 l.2 T) (tV O hck hi y E o A Q L f)
end
end J
namespace L2
open PyProof.Rows
section
variable {X:Cx} {pins:List (Ps×Obj)} {Z:St} {H:Hp} {s:Pt}
theorem Inv.frz(I:Inv X pins Z H s)(e:H a=Pj u)(i:s.heap.get? a=Pj ob)(h1:∀xs,u≠.tup xs)(h2:∀o v,u≠.frz o v)(k:∀ps,u≠.tbl ps)(h:∀x,u≠.own x):Inv X pins Z (upd H a (.frz ob u)) s:=by
 let d:∀{b:Ps} {o:HO},H b=Pj o->o≠u->upd H a (.frz ob u) b=Pj o:=λ{b o} q n=>by
  rw[ah (λz=>by rw[z,e] at q;cases q;show n rfl)];show q
 let f:HOk X.prog X.w (upd H a (.frz ob u)) s.heap:=λb o q=>by
  by_cases g:b=a
  ·subst g;rw[ak] at q;cases q;show⟨i,(I.hok b _ e).stay (λ_ _ _ y=>y) (λc y=>d y λz=>h _ z.symm) λc xs y=>d y λz=>h1 _ z.symm⟩
  ·rw[ah g] at q;show(I.hok b o q).stay (λ_ _ _ y=>y) (λc y=>d y λz=>h _ z.symm) λc xs y=>d y λz=>h1 _ z.symm
 let j:Un X.fs [] H (upd H a (.frz ob u)) s.heap s.heap:=⟨λ_ _ q _ _ _=>q,λb o q _ _ _=>⟨o.slots,q⟩,λb o q n _=>by rw[ah (λz=>by rw[z,e] at n;cases n)];show n,λb o q _=>⟨o,q⟩,λb xs q=>d q λz=>h1 _ z.symm,λb o v q=>d q λz=>h2 _ _ z.symm,λb ps q=>⟨#[],by rw[d q λz=>k _ z.symm];simp⟩⟩;show I.un j f
end
def AW(v a:Ps):PD->Prop:=λh=>h.IsValuesView v a
def B2:V->List V->Hp->VK->Prop:=λx xs H Q=>∃a kvs,x=.ref a/\xs=[]/\H a=Pj (.dK kvs)/\∀v,H v=Pl->Q (.ref v) (upd H v (.ext (AW v a)))
theorem vm:FB X "dict.values" B2:=by
 intro b s Z H x p v n Q I r g h;obtain⟨a,i,rfl,rfl,e,q⟩:=h;cases g;cases(r);obtain⟨z,d,l,f,c⟩:=lV I.hok e;let j:s.TypeIs (.ref a) "dict":=c.typeIs;show call_meetsIn F.slot_dict_values j F.entry_dict_values (F.args_dict_values_1 _) (meets_dict_values (aG X.prog X.w) a d) ⟨⟨l,c⟩,?_⟩;show⟨.ref s.heap.objs.size,_,I.laid (λ_ _ q=>Mf _ q) (Mi _) ?_,rfl,q _ (I.hok.fresh (Mi _))⟩;show⟨⟨_,Mp _ rfl,rfl,rfl⟩,⟨_,Mp _ rfl⟩,λt m ⟨o,e1,e2⟩ k=>⟨o,k o e1,e2⟩⟩
end L2
namespace J
def Le{α:Type}(a b:Option α):Prop:=∀r,a=Pj r->b=Pj r
theorem Le.refl{α:Type}(a:Option α):Le a a:=λ_ h=>h
def rF(P:Px)(w:PB)(K:Md)(mg:Str->Option Pn)(base:PD)(k:Nat)(x:Str)(B:Fn):Prop:=if oO x=Pm then ∃C f fd ps,M6 K PF (mC x)=Pj (Pj (.ref C))/\Cls K C/\om K C (mM x) f/\FnOk P w K mg base iS k f fd ps (l5 K B)/\Binds K fd ps []/\∀ds r,B ds=Pj r->FD (mC x) (mM x) ds=Pm else
  (∃f fd ps,FnOk P w K mg base iS k f fd ps (l5 K B)/\mg x=Pj (.ref f)/\M8 K (.ref f)=Pm/\Binds K fd ps []/\(x==("__debug__":Str))=Po)\/
  (∃j C f fd ps q,j+1<=k/\Mk K C f/\FnOk P w K mg base iS j f fd ps q/\mg x=Pj (.ref C)/\Binds K fd ps []/\(x==("__debug__":Str))=Po/\qP C (l5 K B) q)
structure TabF(P:Program)(w:World)(K:Md)(mg:Str->Option Value)(base:Heap)(U:Tab)(k:Nat):Prop where
 fn:∀x B,U.fn x=Pj B->rF P w K mg base k x B
 cf:∀c fs C,U.cf c=Pj fs->M6 K PF c=Pj (Pj (.ref C))->Cls K C/\∀a∈fs,NoAttr K C a
 fm:∀x sp,U.fm x=Pj sp->∃f fd ps,FnOk P w K mg base iS k f fd ps (sp K)/\mg x=Pj (.ref f)/\M8 K (.ref f)=Pm/\Binds K fd ps []/\(x==("__debug__":Str))=Po
 bl:∀x∈aA,mg x=Pl
 cst:∀x d,U.cst x=Pj d->∃u v,mg x=Pj u/\RelV v u/\(∀H S,Rp K H S d v)/\(x==("__debug__":Str))=Po
theorem TabF.ok{X:Cx}(T:TabF X.prog X.w X.K X.mg X.base U k)(i:Room k X.A):BG X U:=
 ⟨λy B o=>by
  let h:=T.fn y B o;unfold rF at h;unfold eE;split at h
  ·ext p;rw[if_pos p];obtain⟨C,f,t,r,e,b,d,c,a,n⟩:=h;show⟨C,k,f,t,r,e,b,d,c,i,a,n⟩
  ·ext p;rw[if_neg p];rcases h with⟨g,m,l,e,b,d,c,a⟩|⟨j,C,g,m,l,q,s,e,b,d,c,a,n⟩
   ·show .inl ⟨k,g,m,l,e,i,b,d,c,a⟩
   ·show .inr ⟨C,j,g,m,l,q,e,b,i.mono s,d,c,a,n⟩,T.cf,λy B o=>by
  obtain⟨g,m,l,e,b,d,c,a⟩:=T.fm y B o;show⟨k,g,m,l,e,i,b,d,c,a⟩,T.bl,(by let h:=i.un;show Nj (MP (Of (by decide:100<=200) _) (Nat.add_le_add_right (NT _ _) 200)) h),i.gd,T.cst⟩
def k8(k:Nat)(ks:List kU):Ro:=ks.map Ef++MC (k-ks.length) Pl
noncomputable def tX(d:D):kU:=(.fz,d)
def f9(r:Option Res):Option KD:=match r with
 |some (.rt kd d _)=>if bA kd=Pm then Pl else Pj (kd,d)
 |some (.nx _)=>Pj (.sh,.non)
 |_=>Pl
def bS(U:GG)(N m k:Nat)(body:bw)(ds:List D):Option KD:=if ds.length=m then f9 (aq U N body [] (k8 k (ds.map tX))) else Pl
noncomputable def outs(m:Nat)(pn:List Nat)(Y:Ro):List (Option kU):=(MH m).map λj=>if j∈pn then(match Y[j]? with|some (Pj ⟨Po,k,d⟩)=>Pj (k,d)|_=>Pl) else Pl
def gy(m:Nat)(pn:List Nat)(r:Option Res):Option (Kd×D×List (Option kU)):=match r with
 |some (.rt kd d Y)=>if bA kd=Pm then Pl else Pj (kd,d,outs m pn Y)
 |some (.nx Y)=>Pj (.sh,.non,outs m pn Y)
 |_=>Pl
def k9(U:GG)(N m k:Nat)(pn:List Nat)(body:bw)(ks:List kU):Option (Kd×D×List (Option kU)):=if ks.length=m then gy m pn (aq U N body pn (k8 k ks)) else Pl
def pH(fns:Nms)(an:An)(n:Nat)(N:List Str)(st:Pz):Option bw:=cB fns an n ⟨ab st,N,λ_=>Pm⟩ n (aC st)
theorem jh{vs:List V}{i:Nat}(h:i<vs.length):(bO N vs)[i]?=(vs.map Pj)[i]?:=by
 unfold L2.bO;rw[My (by simpa using h)]
theorem nB{N:List Str}{ks:List kU}{vs:List V}(b:SE K g (ks.map Ef) (vs.map Pj) H)(k:ks.length<=N.length):SE K g (k8 N.length ks) (bO N vs) H:=by
 let c:ks.length=vs.length:=by simpa using b.len
 show⟨λi j e=>?_,b.mu,?_⟩
 ·unfold k8 at e;by_cases a:i<ks.length
  ·rw[My (by simpa using a)] at e;obtain⟨v,F,h,d,f⟩:=b.slot i j e;show⟨v,F,by rw[jh (by rw[<- c];show a)];show h,d,f⟩
  ·rw[MM (by simpa using a),OE] at e
   split at e<;>cases e
 ·unfold k8 L2.bO;simp only[MF,Mh,ON]
  lia
theorem B3{ds:List D}{vs:List V}(r:RpL K H (Sg g) ds vs)(m:MuOk H (Sg g)):SE K g ((ds.map tX).map Ef) (vs.map Pj) H:=by
 show⟨λi a e=>?_,m,by simp[r.len]⟩;rw[Mj,Mj] at e
 cases q:ds[i]? with
 |none=>rw[q] at e;cases e
 |some d=>
  rw[q] at e;cases e;obtain⟨v,e1,e2⟩:=r.getD q;show⟨v,jX,by rw[Mj,e1];rfl,λ_ z=>z.elim,.fz e2⟩
theorem j4{g:Gh}:g.re (λ_=>Pl) b≠Pj (Pj i):=λe=>by
 unfold Gh.re at e
 cases q:g b with
 |none=>rw[q] at e;cases e
 |some x=>cases x<;>(rw[q] at e;cases e)
theorem tY{g:Gh}(h:g b≠Pl):g.re (λ_=>Pl) b=Pj Pl:=by
 unfold Gh.re
 cases q:g b with
 |none=>show absurd q h
 |some x=>cases x<;>rfl
theorem fY{K:Md}{g g':Gh}{H H':Hp}{F:Pr}(a:Evo (g.re λ_=>Pl) H g' H' F):Same H H'/\(∀b,F b->H b=Pl)/\∀b,Sg g b->Sg g' b:=
 ⟨λb o e=>a.keep b o (λi q=>j4 q) e,λb z=>(a.tmp b z).2.elim (λ⟨j,q⟩=>absurd q j4) id,λb z=>by rw[Sg,(a.out b).mp (tY z)];simp⟩
section
variable {P:Px} {w:PB} {K:Md} {mg:Str->Option Pn} {base:PD} {fns:Nms} {U:GG} {x qual:Str} {st:Pz} {f:Ps} {fd:PL} {N ps:List Str} {k n M:Nat} {an:An} {body:bw}
theorem tZ(F:Fun K x qual st f fd)(S:a7 N ps (ab st))(T:TabF P w K mg base (a8 fns U) k)(X:pH fns an n N st=Pj body) :
  FnOk P w K mg base iS (k+1) f fd ps (l5 K (bS U M ps.length N.length body)):=by
 let Y:ps.length<=N.length:=by
  have:=congrArg NJ S.pre;rw[MJ] at this
  lia
 show F.ok S (λi H Q E h=>?_) (λl A c s H i Q E L h=>?_)
 ·obtain⟨u,g,k',d,r,C,a,q⟩:=h;unfold bS at a;split at a
  ·ext j;rw[r.len,j]
  ·cases a
 ·obtain⟨u,g,k',d,r,C,a,q⟩:=h;unfold bS at a;split at a
  ·ext j
   let O:am (ly iS P w K mg base N qual (ab st) f l A c s H E).nox (a8 fns U) ⟨ab st,N,λ_=>Pm⟩:=
    ⟨rfl,rfl,λ_ _=>rfl,rfl,S.nd,T.ok L⟩
   let Z:MuOk H (Sg (g.re λ_=>Pl)):=λb z=>C b ((jO b).mp z);let W:RpL K H (Sg (g.re λ_=>Pl)) u i:=r.weak λb z=>(jO b).mp z;let I:=nB (N:=N) (B3 W Z) (by simpa[j] using Y);let D:a6 _ [] (aq U M body []) (aC st):=eK U (λs is h=>jG fns U O PassesOwn.never n h) X [];show⟨_,fy,?_⟩;unfold f9 at a;split at a
   ·ext k2 d2 Y2 e;split at a
    ·cases a
    ·ext V;cases a;show D _ _ e _ (bO N i) H _ I λv R g' t F o p pk vr=>?_;obtain⟨m,y,B⟩:=fY (K:=K) o;show q v t m ⟨F,y,vr.unlend (by simpa using V) B⟩
   ·ext Y' e;cases a;show D _ _ e _ (bO N i) H _ I λR g' t o p pk=>?_;obtain⟨m,y,B⟩:=fY (K:=K) o;show q .non t m Dw
   ·cases a
  ·cases a
theorem mi{m:Nat}{pn:List Nat}{Y:Ro}{j:Nat}(h:((outs m pn Y).map BM)[j]?=Pj (Pj sl)):j<m/\j∈pn/\Y[j]?=Pj (Pj sl):=by
 unfold outs at h;rw[Mj,Mj] at h;by_cases a:j<m
 ·rw[M7 a] at h;simp only[OI,Option.some.injEq] at h;split at h
  ·ext b;split at h
   ·ext k d e;cases h;show⟨a,b,e⟩
   ·cases h
  ·cases h
 ·rw[MY (by simpa using a)] at h;cases h
theorem pI:(outs m pn Y).length=m:=by simp[outs]
theorem t5(F:Fun K x qual st f fd)(S:a7 N ps (ab st))(T:TabF P w K mg base (a8 fns U) k)(hc:pH fns an n N st=Pj body) :
  FnOk P w K mg base iS (k+1) f fd ps (u9 K (k9 U M ps.length N.length pn body)):=by
 let hN:ps.length<=N.length:=by
  have:=congrArg NJ S.pre;rw[MJ] at this
  lia
 show F.ok S (λo H Q E h=>?_) (λC A b s H o Q E V h=>?_)
 ·obtain⟨R,g,k',d,X,B,a,q⟩:=h;unfold k9 at a;split at a
  ·ext r;have:=B.len;simp only[Mh] at this;rw[<- this,r]
  ·cases a
 ·obtain⟨R,g,k',d,X,B,a,q⟩:=h;unfold k9 at a;split at a
  ·ext r;let I:R.length=o.length:=by simpa using B.len
   let O:am (ly iS P w K mg base N qual (ab st) f C A b s H E).nox (a8 fns U) ⟨ab st,N,λ_=>Pm⟩:=
    ⟨rfl,rfl,λ_ _=>rfl,rfl,S.nd,T.ok V⟩
   let p:=nB (N:=N) B (by rw[r];show hN);let L:a6 _ pn (aq U M body pn) (aC st):=eK U (λs is h=>jG fns U O PassesOwn.never n h) hc pn
   let u:∀{l:Gh} {m:Hp} {F:Pr} {t:L2.St} {y:Ro},SE K (l.plus F) y t m->PinOk pn (bO N o) t->SE K (l.plus F) ((outs ps.length pn y).map BM) (o.map Pj) m:=λ{l m F t y} s1 pk=>by
    show⟨λj Z e=>?_,s1.mu,by simp[pI,<- I,r]⟩;obtain⟨h1,Y,h3⟩:=mi e;obtain⟨v,W,q1,q2,q3⟩:=s1.slot j Z h3;show⟨v,W,by rw[<- q1,pk j Y,jh (by rw[<- I,r];show h1)],q2,q3⟩
   show⟨_,fy,?_⟩;unfold gy at a;split at a
   ·ext k2 d2 Y2 c;split at a
    ·cases a
    ·ext hb;cases a;show L _ _ c _ (bO N o) H _ p λv t l m F D i pk vr=>q v l m F D (u i pk) vr
   ·ext y c;cases a;show L _ _ c _ (bO N o) H _ p λt l m D i pk=>q .non l m jX D (u (by rw[aW λ_ z=>z];show i) pk) ⟨λ_ z=>z,by unfold Rp;rfl⟩
   ·cases a
  ·cases a
end
noncomputable def pJ{α:Type}(U:Nat->Option α)(i:Nat)(B:α):Nat->Option α:=λj=>if j=i then Pj B else U j
abbrev GG.addI(U:GG)(i:Nat)(B:Fn):GG:=⟨pJ U.fn i B,U.fm⟩
abbrev GG.addM(U:GG)(i:Nat)(B:Fm):GG:=⟨U.fn,pJ U.fm i B⟩
theorem nC{B ψ:Fn}(h:∀ds,Le (ψ ds) (B ds))(s:l5 K ψ vs H Q E):l5 K B vs H Q E:=by
 obtain⟨ds,S,k,d,c,e,a,b⟩:=s;show⟨ds,S,k,d,c,e,h ds _ a,b⟩
theorem EG{B ψ:Fm}(h:∀ds,Le (ψ ds) (B ds))(s:u9 K ψ vs H Q E):u9 K B vs H Q E:=by
 obtain⟨a,g,i,d,b,e,f,c⟩:=s;show⟨a,g,i,d,b,e,h a _ f,c⟩
section
variable {P:Px} {w:PB} {K:Md} {mg:Str->Option Pn} {base:PD} {fns:Nms} {U:GG} {x qual:Str} {st:Pz} {f:Ps} {fd:PL} {N ps:List Str} {k n M i:Nat} {an:An} {body:bw}
theorem TabF.up(T:TabF P w K mg base (a8 fns U) k):TabF P w K mg base (a8 fns U) (k+1):=
  ⟨λy B m=>by
    let h:=T.fn y B m;unfold rF at h⊢;split at h
    · ext n;rw[if_pos n];obtain⟨C,f,r,p,a,c,e,d,b⟩:=h;show⟨C,f,r,p,a,c,e,d.mono (Np k),b⟩
    · ext n;rw[if_neg n];rcases h with⟨g,l,i,a,c,e,d,b⟩|⟨j,C,g,l,i,o,q,a⟩
      · show .inl ⟨g,l,i,a.mono (Np k),c,e,d,b⟩
      · show .inr ⟨j,C,g,l,i,o,Ov q,a⟩,T.cf,
   λy B m=>by obtain⟨g,l,i,a,c,e,d,b⟩:=T.fm y B m;show⟨g,l,i,a.mono (Np k),c,e,d,b⟩,T.bl,T.cst⟩
theorem TabF.put(T:TabF P w K mg base (a8 fns U) k)(hi:fns.fns[i]?=Pj x)(h:rF P w K mg base k x ψ):TabF P w K mg base (a8 fns (U.addI i ψ)) k:=by
 show⟨λy B b=>?_,T.cf,T.fm,T.bl,T.cst⟩;let b:(aZ y fns.fns).bind (pJ U.fn i ψ)=Pj B:=b
 cases c:aZ y fns.fns with
 |none=>rw[c] at b;cases b
 |some j=>
  rw[c] at b;let a:pJ U.fn i ψ j=Pj B:=b;unfold pJ at a;split at a
  ·ext e;subst e;cases a;have:=aX c;rw[hi] at this;cases this;show h
  ·show T.fn y B (by change(aZ y fns.fns).bind U.fn=_;rw[c];show a)
theorem TabF.addX{ψ B:Fn}(T:TabF P w K mg base (a8 fns U) k)(F:Fun K x qual st f fd)(b:FnOk P w K mg base iS (k+1) f fd ps (l5 K B))(d:mg x=Pj (.ref f))(c:Binds K fd ps [])(hd:(x==("__debug__":Str)||oO x)=Po)
  (hi:fns.fns[i]?=Pj x) (hψ:∀a,Le (ψ a) (B a)):TabF P w K mg base (a8 fns (U.addI i ψ)) (k+1):=by
 rw[NU] at hd;show T.up.put hi ?_;unfold rF;rw[if_neg (by rw[hd.2];show Mz)];show .inl ⟨f,fd,ps,b.imp λe H Q E s=>nC hψ s,d,F.kp,c,hd.1⟩
theorem TabF.addI{ψ:Fn}(T:TabF P w K mg base (a8 fns U) k)(F:Fun K x qual st f fd)(S:a7 N ps (ab st))(b:mg x=Pj (.ref f))(c:Binds K fd ps [])(hd:(x==("__debug__":Str)||oO x)=Po)
  (hi:fns.fns[i]?=Pj x) (hc:pH fns an n N st=Pj body) (hψ:∀a,Le (ψ a) (bS U M ps.length N.length body a)):TabF P w K mg base (a8 fns (U.addI i ψ)) (k+1):=
 T.addX F (tZ (n:=n) (an:=an) (M:=M) F S T hc) b c hd hi hψ
theorem TabF.addM{ψ:Fm}(T:TabF P w K mg base (a8 fns U) k)(F:Fun K x qual st f fd)(S:a7 N ps (ab st))(g:mg x=Pj (.ref f))(h:Binds K fd ps [])(hd:(x==("__debug__":Str)||oO x)=Po)(hi:fns.fns[i]?=Pj x)(m:pH fns an n N st=Pj body)(l:∀ds,Le (ψ ds) (k9 U M ps.length N.length pn body ds)):TabF P w K mg base (a8 fns (U.addM i ψ)) (k+1):=by
 show⟨T.up.fn,T.cf,λy sp b=>?_,T.bl,T.cst⟩;let b:(aZ y fns.fns).bind (λj=>(pJ U.fm i ψ j).map λB=>λK=>u9 K B)=Pj sp:=b
 cases c:aZ y fns.fns with
 |none=>rw[c] at b;cases b
 |some j=>
  rw[c] at b;obtain⟨B,a,rfl⟩:=aY (show(pJ U.fm i ψ j).map _=Pj sp from b);unfold pJ at a;split at a
  ·ext e;subst e;cases a
   let d:y=x:=by
    have:=aX c;rw[hi] at this;show(Option.some.inj this).symm
   subst d;show⟨f,fd,ps,(t5 (n:=n) (an:=an) (M:=M) (pn:=pn) F S T m).imp λo H Q E s=>EG l s,g,F.kp,h,(NU.mp hd).1⟩
  ·show T.up.fm y _ (by change lG fns U y=_;unfold lG;rw[c,MZ,a];rfl)
end
theorem EH{ns:List Int}(c:SqL K H a (ns.map V.int))(h:B [.scr ns]=Pj (.sh,.bl Pm)):l5 K B [.ref a] H (λv _=>v=.bl Pm) λ_ _ _=>False:=by
 show⟨[.scr ns],λ_=>Pl,.sh,.bl Pm,.cons ?_ .nil,λb z=>absurd rfl z,h,λv d _ r=>r.rd.bl⟩;unfold Rp;show⟨a,rfl,?_⟩;rcases c with h|h
 ·show .inl ⟨λz=>z rfl,h⟩
 ·show .inr h
theorem L4{P:List Pn->Prop}(h:P [])(us:List Pn)(e:us.length=0):P us:=by
 cases us with
 |nil=>show h
 |cons=>cases e
theorem KA{P:List Pn->Prop}(h:∀a,P [a])(us:List Pn)(e:us.length=1):P us:=by
 cases us with
 |nil=>cases e
 |cons a us=>show L4 (P:=λus=>P (a::us)) (h a) us (Nat.succ.inj e)
theorem us2{P:List Pn->Prop}(h:∀a b,P [a,b])(us:List Pn)(e:us.length=2):P us:=by
 cases us with
 |nil=>cases e
 |cons a us=>show KA (P:=λus=>P (a::us)) (h a) us (Nat.succ.inj e)
theorem HQ{P:List Pn->Prop}(h:∀a b c,P [a,b,c])(us:List Pn)(e:us.length=3):P us:=by
 cases us with
 |nil=>cases e
 |cons a us=>show us2 (P:=λus=>P (a::us)) (h a) us (Nat.succ.inj e)
theorem Jl{P:List Pn->Prop}(h:∀a b c d,P [a,b,c,d])(us:List Pn)(e:us.length=4):P us:=by
 cases us with
 |nil=>cases e
 |cons a us=>show HQ (P:=λus=>P (a::us)) (h a) us (Nat.succ.inj e)
theorem Lz{P:List Pn->Prop}(h:∀a b c d e,P [a,b,c,d,e])(us:List Pn)(e:us.length=5):P us:=by
 cases us with
 |nil=>cases e
 |cons a us=>show Jl (P:=λus=>P (a::us)) (h a) us (Nat.succ.inj e)
theorem fC{X:Cx}{pn:List Nat}{j fb:Ro->Option Res}{a b:List Pz}(f:a6 X pn j a)(o:a6 X pn fb b):a6 X pn (λY=>ca (j Y) fb) (a++b):=by
 intro Y r h g Z H t i q;dsimp only at h;show AL ?_
 cases e:j Y with
 |none=>rw[e] at h;cases h
 |some l=>
  rw[e] at h
  cases l with
  |nx c=>show f Y _ e g Z H _ i λp n m s k pk=>o c r h n p m t k (q.from s pk)
  |rt u d c=>cases h;show f Y _ e g Z H _ i q
  |ct c=>cases h;show f Y _ e g Z H _ i q
  |bk c=>cases h;show f Y _ e g Z H _ i q
def jQ(f:Ro->Option Res)(m k:Nat)(ds:List D):Option KD:=if ds.length=m then f9 (f (k8 k (ds.map tX))) else Pl
section
variable {P:Px} {w:PB} {K:Md} {mg:Str->Option Pn} {base:PD} {fns:Nms} {U:GG} {x qual:Str} {st:Pz} {f:Ps} {fd:PL} {N ps:List Str} {k n M:Nat} {an:An} {body:bw}
theorem nD{fb:Ro->Option Res}(F:Fun K x qual st f fd)(S:a7 N ps (ab st))(T:TabF P w K mg base (a8 fns U) k)(n:∀X:Cx,am X (a8 fns U) ⟨ab st,N,λ_=>Pm⟩->PassesOwn (Pw X.prog X.w) X.A X.env X.xe->a6 X [] fb (aC st)) :
  FnOk P w K mg base iS (k+1) f fd ps (l5 K (jQ fb ps.length N.length)):=by
 let W:ps.length<=N.length:=by
  have:=congrArg NJ S.pre;rw[MJ] at this
  lia
 show F.ok S (λi H Q E h=>?_) (λl A c s H i Q E L h=>?_)
 ·obtain⟨u,g,k',d,r,C,a,q⟩:=h;unfold jQ at a;split at a
  ·ext j;rw[r.len,j]
  ·cases a
 ·obtain⟨u,g,k',d,r,C,a,q⟩:=h;unfold jQ at a;split at a
  ·ext j
   let O:am (ly iS P w K mg base N qual (ab st) f l A c s H E).nox (a8 fns U) ⟨ab st,N,λ_=>Pm⟩:=
    ⟨rfl,rfl,λ_ _=>rfl,rfl,S.nd,T.ok L⟩
   let Y:MuOk H (Sg (g.re λ_=>Pl)):=λb z=>C b ((jO b).mp z);let V:RpL K H (Sg (g.re λ_=>Pl)) u i:=r.weak λb z=>(jO b).mp z;let I:=nB (N:=N) (B3 V Y) (by simpa[j] using W);let D:a6 _ [] fb (aC st):=n _ O PassesOwn.never;show⟨_,fy,?_⟩;unfold f9 at a;split at a
   ·ext k2 d2 Y2 e;split at a
    ·cases a
    ·ext R;cases a;show D _ _ e _ (bO N i) H _ I λv M g' t F o p pk Z=>?_;obtain⟨m,y,B⟩:=fY (K:=K) o;show q v t m ⟨F,y,Z.unlend (by simpa using R) B⟩
   ·ext Y' e;cases a;show D _ _ e _ (bO N i) H _ I λM g' t o p pk=>?_;obtain⟨m,y,B⟩:=fY (K:=K) o;show q .non t m Dw
   ·cases a
  ·cases a
theorem TabF.addB{i:Nat}{ψ:Fn}(T:TabF P w K mg base (a8 fns U) k)(F:Fun K x qual st f fd)(S:a7 N ps (ab st))(d:mg x=Pj (.ref f))(c:Binds K fd ps [])(hd:(x==("__debug__":Str)||oO x)=Po)(hi:fns.fns[i]?=Pj x)(a:∀X:Cx,am X (a8 fns U) ⟨ab st,N,λ_=>Pm⟩->PassesOwn (Pw X.prog X.w) X.A X.env X.xe->a6 X [] fb (aC st))(b:∀ds,Le (ψ ds) (jQ fb ps.length N.length ds)):TabF P w K mg base (a8 fns (U.addI i ψ)) (k+1):=
 T.addX F (nD F S T a) d c hd hi b
end
def yd(k:Ow)(c:Str)(B:Fm):Fn:=λds=>match B ((k,.nd (.obj c []) [])::ds.map tX) with
 |some (.sh,.non,Pj (k',d')::_)=>Pj (.fr k',d')
 |_=>Pl
theorem AX(hC:M6 K PF c=Pj (Pj (.ref C)))(cl:Cls K C):qP C (l5 K (yd (.own es r0) c B)) (u9 K B):=by
 intro vs H Q s a E t O Z;obtain⟨T,g,kd,d,r,m,y,q⟩:=s;unfold yd at y;split at y
 ·ext U d' os P;cases y
  let D:Same H (upd (upd H E (.own a)) a (.ins C E [])):=λb o e=>by
   rw[ah (λz=>by rw[z,t] at e;cases e),ah (λz=>by rw[z,O] at e;cases e)];show e
  let ga:g a=Pl:=by
   cases q:g a with
   |none=>rfl
   |some x=>obtain⟨o,e,_⟩:=m a (by rw[Sg,q];simp);rw[t] at e;cases e
  show let l:Gh:=λb=>if b=a then Pj (Pj 0) else(g.re λ_=>Pl) b;?_
  let j:∀b,b≠a->l b=(g.re λ_=>Pl) b:=λb h=>if_neg h;let S:l a=Pj (Pj 0):=if_pos rfl;let u:∀b,b≠a->(Sg l b↔Sg g b):=λb h=>by rw[Sg,j b h];show jO b
  show⟨_,l,.sh,.non,_,⟨λi Y e=>?_,λb z=>?_,by simp[r.len]⟩,P,λv N I F L se vr=>?_⟩
  ·cases i with
   |zero=>
    cases e;show⟨.ref a,λb=>b=a,rfl,λb z=>by rw[z];show S,?_⟩;change Tr K _ (Sg l) (.nd (.obj c []) []) (.own es r0) (.ref a) _;unfold Tr;show⟨a,.ins C E [],[],λ_=>False,rfl,ak,⟨C,E,hC,⟨cl,λf hf=>by cases hf⟩,rfl,rfl⟩,λ_ z=>z,(λh=>by cases h),(λb=>⟨λz=>.inl ⟨rfl,z⟩,λz=>z.elim (λz=>z.2) λz=>z.elim⟩),?_⟩;unfold TrL;show⟨rfl,λ_ z=>z⟩
   |succ i=>
    let e:((T.map tX).map Ef)[i]?=Pj (Pj Y):=by simpa using e
    rw[Mj,Mj] at e
    cases M:T[i]? with
    |none=>rw[M] at e;cases e
    |some d0=>
     rw[M] at e;cases e;obtain⟨v,e1,e2⟩:=r.getD M;show⟨v,jX,by rw[Mx,OF,Mj,e1];rfl,λ_ z=>z.elim,.fz (e2.go λb o n e=>⟨D b o e,λz=>n ((u b λh=>?_).mp z)⟩)⟩;rw[h,t] at e;cases e
  ·by_cases k:b=a
   ·rw[k];show⟨_,ak,λxs h=>by cases h⟩
   ·obtain⟨o,e,n⟩:=m b ((u b k).mp z);show⟨o,D b o e,n⟩
  ·obtain⟨X,A⟩:=(show(∀b,¬F b)/\Rp K I (Sx N F) .non v from vr);let A:v=.non:=by unfold Rp at A;show A
   obtain⟨W,R,e1,e2,e3⟩:=se.slot 0 ⟨Po,U,d⟩ rfl;cases(show Pj (Pj (V.ref a))=Pj (Pj W) from e1);let pl:N.plus F=N:=aW X;rw[pl] at e2 e3
   let w:Same H I:=λb o e=>L.keep b o (λi z=>by
    let k:b≠a:=λh=>by rw[h,t] at e;cases e
    rw[j b k] at z;show j4 z) (D b o e)
   show⟨A,q (.ref a) I w ⟨R,λb z=>?_,?_⟩⟩
   ·rcases L.new b 0 (e2 b z) with⟨i,p⟩|p
    ·by_cases k:b=a
     ·rw[k];show t
     ·rw[j b k] at p;show absurd p j4
    ·cases qh:H b with
     |none=>rfl
     |some o=>rw[D b o qh] at p;cases p
   ·change Tr K I (Sx g R) d U (.ref a) R;show e3.go (λ_ _ _ e=>e) λb o _ n z=>n ?_;rcases z with z|z
    ·let k:b≠a:=λh=>by rw[h] at z;show z ga
     have:l b=Pj Pl:=by rw[j b k];show tY z
     rw[Sg,(L.out b).mp this];simp
    ·rw[Sg,e2 b z];simp
 ·cases y
section
variable {P:Px} {w:PB} {K:Md} {mg:Str->Option Pn} {base:PD} {fns:Nms} {U:GG} {x y qual:Str} {st:Pz} {f C:Ps} {fd:PL} {N ps:List Str} {k n M i:Nat} {an:An} {body:bw}
def vn(y:Str)(B:Fn):Fn:=λds=>if FD (mC y) (mM y) ds=Pm then B ds else Pl
end
def Wp{α:Type}(a:Option α)(Q:α->Prop):Prop:=∃r,a=Pj r/\Q r
theorem Wp.mono{α:Type}{a:Option α}{Q R:α->Prop}(h:Wp a Q)(k:∀r,Q r->R r):Wp a R:=let ⟨r,e,q⟩:=h;⟨r,e,k r q⟩
theorem nE{α:Type}{r:α}{Q:α->Prop}(q:Q r):Wp (Pj r) Q:=⟨r,rfl,q⟩
section
variable {U:Nat->Option Fn} {Y:Ro} {Q:KD->Prop}
theorem aL{i:Nat}(h:Y[i]?=Pj (Pj s))(q:Q (oI i s)):Wp (aa U (.var i) Y) Q:=⟨_,by rw[Aj,h];rfl,q⟩
theorem bb(q:Q (.sh,d)):Wp (aa U (.lit d) Y) Q:=⟨_,by rw[sR],q⟩
theorem bc(h:Wp (aa U a Y) λx=>Wp (aa U b Y) λy=>Wp (f6 op x y) Q):Wp (aa U (.bin op a b) Y) Q:=by
 obtain⟨x,d,y,e,z,c,q⟩:=h;show⟨z,by rw[Ak,d,e];show c,q⟩
theorem yf(h:Wp (aa U a Y) λx=>Wp (u4 x.2) λb=>Q (.sh,.bl (!b))):Wp (aa U (.not a) Y) Q:=by
 obtain⟨x,d,b,c,q⟩:=h;show⟨_,by rw[Am,d];change bV ((u4 x.2).map _)=_;rw[c];rfl,q⟩
theorem yg(h:Wp (aE U t Y) λr=>(r=Pm->Wp (aa U a Y) Q)/\(r=Po->Wp (aa U b Y) Q)):Wp (aa U (.ifx t a b) Y) Q:=by
 obtain⟨r,d,f,e⟩:=h
 cases r with
 |true=>obtain⟨x,c,q⟩:=f rfl;show⟨x,by rw[sT,d];show c,q⟩
 |false=>obtain⟨x,c,q⟩:=e rfl;show⟨x,by rw[sT,d];show c,q⟩
theorem rG(h:Wp (aP U es Y) λkds=>Wp (m6 k (Pj kds)) Q):Wp (aa U (.lst k es) Y) Q:=by
 obtain⟨x,b,z,a,q⟩:=h;show⟨z,by rw[Ao,b];show a,q⟩
theorem yh(h:Wp (aP U es Y) λkds=>Wp (hZq k (Pj kds)) Q):Wp (aa U (.tup k es) Y) Q:=by
 obtain⟨x,b,z,a,q⟩:=h;show⟨z,by rw[Ap,b];show a,q⟩
theorem t6(h:Wp (aa U a Y) λx=>Wp (dS U lo Y) λl=>Wp (dS U hi Y) λu=>Wp (DJ (Pj x) (Pj l) (Pj u)) Q):Wp (aa U (.sl a lo hi) Y) Q:=by
 obtain⟨x,c,l,d,u,e,z,b,q⟩:=h;show⟨z,by rw[DY,c,d,e];show b,q⟩
theorem yj(h:Wp (aa U a Y) λx=>Wp (dS U lo Y) λl=>Wp (aa U st Y) λy=>Wp (u6 (Pj x) (Pj l) (Pj y)) Q):Wp (aa U (.stp a lo st) Y) Q:=by
 obtain⟨x,c,l,e,y,d,z,b,q⟩:=h;show⟨z,by rw[Aq,c,e,d];show b,q⟩
theorem AY(h:Wp (aa U a Y) λx=>Wp (l6 (Pj x)) Q):Wp (aa U (.lrev a) Y) Q:=by
 obtain⟨x,c,z,b,q⟩:=h;show⟨z,by rw[xq,c];show b,q⟩
theorem yk(c:U i=Pj B)(h:Wp (aP U es Y) λkds=>Wp (zf B kds) Q):Wp (aa U (.fn i es) Y) Q:=by
 obtain⟨x,b,z,a,q⟩:=h;show⟨z,by rw[xr,b,c];show a,q⟩
theorem dU(h:Wp (aP U es Y) λkds=>Wp (eI x kds) Q):Wp (aa U (.blt x es) Y) Q:=by
 obtain⟨y,b,z,a,q⟩:=h;show⟨z,by rw[sV,b];show a,q⟩
theorem rH(h:Wp (aa U a Y) λx=>Wp (oZ T x.2) λb=>Q (.sh,.bl b)):Wp (aa U (.isi T a) Y) Q:=by
 obtain⟨y,d,z,c,q⟩:=h;show⟨_,by rw[sU,d];change bV (oZ T y.2)=_;rw[c];rfl,q⟩
theorem pK(h:Wp (aa U a Y) Q):Wp (aa U (.bool op (.cons a .nil)) Y) Q:=by
 obtain⟨y,b,q⟩:=h;show⟨y,by rw[ij,kN];show b,q⟩
theorem la(h:Wp (aa U a Y) λx=>∃z,x.2=.bl z/\((op==.And)=z->Wp (aa U (.bool op (.cons b r)) Y) Q)/\((op==.And)≠z->Q (.sh,.bl z))):Wp (aa U (.bool op (.cons a (.cons b r))) Y) Q:=by
 obtain⟨⟨k,d⟩,f,z,e,i,g⟩:=h;let e:d=.bl z:=e;subst e;by_cases c:(op==.And)=z
 ·obtain⟨y,e2,q⟩:=i c;rw[ij] at e2;show⟨y,by rw[ij,kN,f];show(if_pos c).trans e2,q⟩
 ·show⟨_,by rw[ij,kN,f];show if_neg c,g c⟩
theorem eM(h:Wp (dC U it Y) λp=>p.2.length<=100000/\Wp (aU r (dR tg (di U ts) (aa U elt) (aT Y cap)) p.2) λys=>Q (.fr (.own [] r),.lst ys)):Wp (aa U (.comp r cap tg it ts elt) Y) Q:=by
 obtain⟨p,b,c,ys,a,q⟩:=h;obtain⟨e,d⟩:=p
 show⟨_,by rw[o8,b];change(if d.length<=100000 then _ else _)=_;rw[if_pos c,a],q⟩
variable {T:Bool->Prop}
theorem rJ(h:Wp (aa U a Y) λx=>Wp (aa U b Y) λy=>Wp (cA op x.2 y.2) T):Wp (aE U (.cmp op a b) Y) T:=by
 obtain⟨x,d,y,e,z,c,q⟩:=h;show⟨_,by rw[o9,d,e];show c,q⟩
theorem pL(h:Wp (aE U a Y) T):Wp (aE U (.bool op (.cons a .nil)) Y) T:=by
 obtain⟨y,b,q⟩:=h;show⟨y,by rw[fV,fu];show b,q⟩
theorem lc(h:Wp (aE U a Y) λz=>((op==.And)=z->Wp (aE U (.bool op (.cons b r)) Y) T)/\((op==.And)≠z->T z)):Wp (aE U (.bool op (.cons a (.cons b r))) Y) T:=by
 obtain⟨z,d,e,f⟩:=h;by_cases c:(op==.And)=z
 ·obtain⟨y,e2,q⟩:=e c;rw[fV] at e2;show⟨y,by rw[fV,fu,d];show(if_pos c).trans e2,q⟩
 ·show⟨_,by rw[fV,fu,d];show if_neg c,f c⟩
variable {L:List KD->Prop}
theorem bt(q:L []):Wp (aP U .nil Y) L:=⟨_,by rw[aP],q⟩
theorem aD(h:Wp (aa U a Y) λx=>Wp (aP U r Y) λxs=>L (x::xs)):Wp (aP U (.cons a r) Y) L:=by
 obtain⟨x,c,xs,b,q⟩:=h;show⟨_,by rw[aP,c,b];rfl,q⟩
theorem lg{P:Option Int->Prop}(q:P Pl):Wp (dS U .non Y) P:=⟨_,by rw[dS],q⟩
theorem nG{P:Option Int->Prop}(h:Wp (aa U a Y) λx=>∃i,x.2=.int i/\P (Pj i)):Wp (dS U (.som a) Y) P:=by
 obtain⟨⟨k,d⟩,c,i,b,q⟩:=h;let b:d=.int i:=b;subst b;show⟨_,by rw[dS,c];rfl,q⟩
variable {P:List Nat×List D->Prop}
theorem ji(h:Wp (aa U a Y) λx=>Wp (m7 (Pj x)) P):Wp (dC U (.e a) Y) P:=by
 obtain⟨x,c,z,b,q⟩:=h;show⟨z,by rw[dC,c];show b,q⟩
theorem nH(h:Wp (aa U a Y) λx=>Wp (oX (Pj x)) P):Wp (dC U (.enm a) Y) P:=by
 obtain⟨x,c,z,b,q⟩:=h;show⟨z,by rw[dC,c];show b,q⟩
theorem ym(h:Wp (aa U a Y) λx=>Wp (aa U b Y) λy=>Wp (oY (Pj x) (Pj y)) P):Wp (dC U (.zp a b) Y) P:=by
 obtain⟨x,e,y,c,h⟩:=h;change Wp (oY (aa U a Y) (aa U b Y)) P;rw[e,c];show h
theorem jk(h:Wp (aa U a Y) λx=>Wp (aa U b Y) λy=>Wp (lE (Pj x) (Pj y)) P):Wp (dC U (.rng a b) Y) P:=by
 obtain⟨x,d,y,e,z,c,q⟩:=h;show⟨z,by rw[dC,d,e];show c,q⟩
end
section
variable {Q:KD->Prop} {k k':Kd} {i j:Int}
theorem yn(q:Q (.sh,.int (i+j))):Wp (f6 .Add (k,.int i) (k',.int j)) Q:=nE q
theorem yo(q:Q (.sh,.int (i-j))):Wp (f6 .Sub (k,.int i) (k',.int j)) Q:=nE q
theorem yp(h:i.natAbs<lim/\j.natAbs<lim)(q:Q (.sh,.int (i*j))):Wp (f6 .Mult (k,.int i) (k',.int j)) Q:=⟨_,fL (if_pos h),q⟩
theorem AZ(h:0<j/\j.natAbs<lim)(q:Q (.sh,.int (i / j))):Wp (f6 .FloorDiv (k,.int i) (k',.int j)) Q:=⟨_,fL (if_pos h),q⟩
theorem EI(h:0<j)(q:Q (.sh,.int (i%j))):Wp (f6 .Mod (k,.int i) (k',.int j)) Q:=⟨_,fL (if_pos h),q⟩
theorem yq(h:0<=j/\j<=1000000/\i.natAbs<2^64)(q:Q (.sh,.int (i^j.toNat))):Wp (f6 .Pow (k,.int i) (k',.int j)) Q:=⟨_,fL (if_pos h),q⟩
theorem rK(h:0<=j/\j<=1000000/\i.natAbs<lim)(q:Q (.sh,.int (i*2^j.toNat))):Wp (f6 .LShift (k,.int i) (k',.int j)) Q:=⟨_,fL (if_pos h),q⟩
theorem EJ(h:0<=j)(q:Q (.sh,.int (i / 2^j.toNat))):Wp (f6 .RShift (k,.int i) (k',.int j)) Q:=⟨_,fL (if_pos h),q⟩
theorem EK{xs ys:List D}(h:eA k xs=Pm/\eA k' ys=Pm/\xs.length+ys.length<=100000)(q:Q (.fr aO,.lst (xs++ys))):Wp (f6 .Add (k,.lst xs) (k',.lst ys)) Q:=⟨_,if_pos h,q⟩
variable {T:Bool->Prop}
theorem B4(q:T (decide (j<=i))):Wp (cA .GtE (.int i) (.int j)) T:=nE q
theorem EL(h:dY 90 x=Pm/\dY 90 y=Pm)(q:T (ze x y)):Wp (cA .Eq x y) T:=⟨_,if_pos h,q⟩
theorem EM(h:dY 90 x=Pm/\dY 90 y=Pm)(q:T (!ze x y)):Wp (cA .NotEq x y) T:=⟨_,if_pos h,q⟩
theorem t7:ze (.int i) (.int j)=decide (i=j):=by
 unfold ze py;simp[PyData.eqv]
 try rfl
theorem B5(q:T (decide (i=j))):Wp (cA .Eq (.int i) (.int j)) T:=EL ⟨rfl,rfl⟩ (by rw[t7];show q)
theorem B6(q:T (!decide (i=j))):Wp (cA .NotEq (.int i) (.int j)) T:=EM ⟨rfl,rfl⟩ (by rw[t7];show q)
variable {xs:List D} {d:D} {n:Nat}
theorem EN(a:jx xs.length z=Pj n)(hd:xs[n]?=Pj d)(q:Q (oN k n,d)):Wp (vY (Pj (k,.nd .lst xs)) (Pj (k',.int z))) Q:=⟨_,by change(match jx xs.length z with|some j=>(xs[j]?).map (λd=>(oN k j,d))|none=>Pl)=_;rw[a];change(xs[n]?).map _=_;rw[hd];rfl,q⟩
theorem EO(a:jx xs.length z=Pj n)(hd:xs[n]?=Pj d)(q:Q (oN k n,d)):Wp (vY (Pj (k,.nd .tup xs)) (Pj (k',.int z))) Q:=⟨_,by change(match jx xs.length z with|some j=>(xs[j]?).map (λd=>(oN k j,d))|none=>Pl)=_;rw[a];change(xs[n]?).map _=_;rw[hd];rfl,q⟩
theorem t8{m:Nat}{z:Int}(a:0<=z)(h1:z<m):jx m z=Pj z.toNat:=by unfold jx;rw[if_pos a,if_pos h1]
end
theorem EQ{Q:KD->Prop}(h:Ab d=Pj n)(q:Q (.sh,.int n)):Wp (eI "len" [(k,d)]) Q:=by
 show⟨(.sh,.int n),?_,q⟩;let e:eI "len" = xf:=by unfold eI;rw[if_pos rfl]
 rw[e];unfold xf;dsimp only;rw[h];rfl
theorem t9{Q:KD->Prop}(h:eA k ds=Pm)(q:Q (.fr aO,.lst ds)):Wp (eI "list" [(k,.nd .lst ds)]) Q:=⟨_,if_pos h,q⟩
theorem pM{Q:KD->Prop}(h:eA k ds=Pm)(q:Q (DM k,.tup ds)):Wp (eI "tuple" [(k,.nd .lst ds)]) Q:=⟨_,if_pos h,q⟩
theorem ER{Q:KD->Prop}{bs:List Bool}(q:Q (.sh,.bl (bs.all id))):Wp (eI "all" [(k,.nd .lst (bs.map D.bl))]) Q:=by
 show⟨(.sh,.bl (bs.all id)),?_,q⟩;let e:eI "all" [(k,.nd .lst (bs.map D.bl))]=(cW (bs.map D.bl)).map λbs=>(Kd.sh,D.bl (bs.all id)):=rfl;rw[e,jA];rfl
theorem ua{B:Fn}{kds:List KD}{Q:KD->Prop}(h:Wp (B (kds.map (·.2))) λr=>bA r.1=Po/\((kds.all λp=>qM p.1 p.2)=Pm\/kI r.1 r.2=Pm)/\Q r):Wp (zf B kds) Q:=by
 obtain⟨⟨c,d⟩,e,f,b,q⟩:=h;show⟨(c,d),?_,q⟩;unfold zf;rw[e];dsimp only;by_cases a:(kds.all λp=>qM p.1 p.2)=Pm
 ·rw[if_pos a,if_neg (by simpa using f)]
 ·rw[if_neg a,if_pos (b.resolve_left a)]
section
variable {U:GG} {Y:Ro} {Q:Kd×D×Ro->Prop}
theorem ci(h:Wp (aa U.fn e Y) λx=>Q (x.1,x.2,Y)):Wp (aQ U (.p e) Y) Q:=by
 obtain⟨x,a,q⟩:=h;show⟨_,by rw[xM,a];rfl,q⟩
theorem dM{i:Nat}(h:Y[i]?=Pj (Pj ⟨Po,.own es r,d⟩))(q:Q (.fr (.own es r),d,Y.set i Pl)):Wp (aQ U (.mv i) Y) Q:=⟨_,by rw[Er];unfold va;rw[h];rfl,q⟩
theorem yr{B:Fm}(b:U.fm f=Pj B)(h:Wp (cL U as Y) λp=>(cK p.1).Nodup/\∃ks,eJ p.2 p.1=Pj ks/\Wp (B ks) λo=>bA o.1=Po/\o.2.2.length=p.1.length/\Q (o.1,o.2.1,cP p.1 (o.2.2.map BM) p.2)):Wp (aQ U (.io f as) Y) Q:=by
 obtain⟨⟨c,k⟩,j,e,ks,hk,⟨m,d,l⟩,a,i,g,q⟩:=h;show⟨_,?_,q⟩;rw[rh,b,j];unfold Az;dsimp only;rw[if_pos e,hk];dsimp only;rw[a];dsimp only;show if_neg (by rw[i];simpa using g)
theorem yt{f:List KD->Option KD}(h:Wp a λp=>Wp (f p.1) λr=>Q (r.1,r.2,p.2)):Wp (oS f a) Q:=by
 obtain⟨⟨b,c⟩,e,r,g,q⟩:=h
 show⟨_,by rw[e];change(match f b with|some (kd,d)=>Pj (kd,d,c)|none=>Pl)=_;rw[g],q⟩
theorem yu(h:Wp (bI U as Y) λp=>Wp (eI x p.1) λr=>Q (r.1,r.2,p.2)):Wp (aQ U (.blt x as) Y) Q:=by rw[AG];show yt h
theorem eN(h:Wp (bI U as Y) λp=>Wp (hZq k (Pj p.1)) λr=>Q (r.1,r.2,p.2)):Wp (aQ U (.tup k as) Y) Q:=by rw[AH];show yt h
theorem B7(h:Wp (bI U as Y) λp=>∃x y,p.1=[x,y]/\Wp (vY (Pj x) (Pj y)) λr=>Q (r.1,r.2,p.2)):Wp (aQ U (.ix as) Y) Q:=by
 rw[Es];show yt (h.mono λp ⟨x,y,e,w⟩=>by rw[e];show w)
theorem nI{cap:List (Option Nat)}(h:Wp (c4 U it Y) λp=>p.1=[]/\p.2.1.length<=100000/\Wp (aF r (gJ cap tg (nr U ts) (aQ U elt)) p.2.1 (aT p.2.2 cap)) λz=>z.2.length=cap.length/\Q (.fr (.own [] r),.lst z.1,cP (jb cap) z.2 p.2.2)):Wp (aQ U (.comp r cap tg it ts elt) Y) Q:=by
 obtain⟨⟨g,k,f⟩,e,d,c,⟨i,j⟩,b,a,q⟩:=h;show⟨_,?_,q⟩;rw[pp,e];unfold gO;dsimp only at d c b a⊢;rw[if_pos ⟨d,c⟩,b];dsimp only;rw[if_pos a]
theorem ES{i:Nat}(j:Y[i]?=Pj (Pj ⟨Po,.own es0 r0,.nd .lst ds0⟩))(h:Wp (aQ U a Y) λp=>∃es r ds,p.2.2[i]?=Pj (Pj ⟨Po,.own es r,.nd .lst ds⟩)/\(es.length<=ds.length/\bM r (dJ p.1 p.2.1,p.2.1)=Pm/\ds.length<100000)/\Q (.sh,.non,p.2.2.set i (Pj ⟨Po,.own es r,.lst (ds++[p.2.1])⟩))):Wp (aQ U (.mutM "append" i a) Y) Q:=by
 obtain⟨⟨e,d,b⟩,g,es,r,ds,c,f,q⟩:=h;show⟨_,?_,q⟩;rw[xN,g,j];change fx "append" i (gu b[i]?) (Pj [(dJ e d,d)]) b=_;dsimp only at c f;rw[c]
 change(match k4 "append" es r ds [(dJ e d,d)],b[i]? with|some (d',ds'),Pj (Pj ⟨Po,k,_⟩)=>Pj (Kd.sh,d',b.set i (Pj ⟨Po,k,id (.lst ds')⟩))|_,_=>Pl)=_
 have:k4 "append" es r ds [(dJ e d,d)]=Pj (.non,ds++[d]):=if_pos f;rw[this,c];rfl
variable {A:List RA×Ro->Prop}
theorem nJ(q:A ([],Y)):Wp (cL U .nil Y) A:=⟨_,by rw[cL],q⟩
theorem nK{i:Nat}(c:Y[i]?=Pj (Pj s))(h:Wp (cL U r Y) λp=>A (.ref i::p.1,p.2)):Wp (cL U (.ref i r) Y) A:=by
 obtain⟨⟨a,d⟩,b,q⟩:=h;show⟨_,by rw[cL,c,b];rfl,q⟩
theorem fD(h:Wp (aQ U a Y) λx=>bA (dJ x.1 x.2.1)=Po/\Wp (cL U r x.2.2) λp=>A (.val (dJ x.1 x.2.1) x.2.1::p.1,p.2)):Wp (cL U (.val a r) Y) A:=by
 obtain⟨⟨g,d,i⟩,e,c,⟨f,j⟩,b,q⟩:=h;show⟨_,?_,q⟩;rw[cL,e]
 change(if bA (dJ g d)=Pm then Pl else _)=_
 dsimp only at c b;rw[if_neg (by rw[c];decide),b]
variable {S:List KD×Ro->Prop}
theorem dv(h:Wp (aQ U a Y) λx=>Wp (aP U.fn r x.2.2) λxs=>S ((x.1,x.2.1)::xs,x.2.2)):Wp (bI U (.fin a r) Y) S:=by
 obtain⟨⟨f,d,b⟩,e,xs,c,q⟩:=h;show⟨_,?_,q⟩;rw[bI,e]
 change(match aP U.fn r b with|some kds=>Pj ((f,d)::kds,b)|none=>Pl)=_
 dsimp only at c;rw[c]
theorem bN(h:Wp (aQ U a Y) λx=>bA (dJ x.1 x.2.1)=Po/\Wp (bI U r x.2.2) λp=>S ((dJ x.1 x.2.1,x.2.1)::p.1,p.2)):Wp (bI U (.cons a r) Y) S:=by
 obtain⟨⟨f,d,i⟩,e,c,⟨g,j⟩,b,q⟩:=h;show⟨_,?_,q⟩;rw[bI,e]
 change(if bA (dJ f d)=Pm then Pl else _)=_
 dsimp only at c b;rw[if_neg (by rw[c];decide),b]
variable {T:Bool×Ro->Prop}
theorem mj(h:Wp (aE U.fn e Y) λb=>T (b,Y)):Wp (bH U (.p e) Y) T:=by
 obtain⟨x,a,q⟩:=h;show⟨_,by rw[bH,a];rfl,q⟩
variable {I:List Nat×List D×Ro->Prop}
theorem cQ(h:Wp (dC U.fn it Y) λp=>I (p.1,p.2,Y)):Wp (c4 U (.p it) Y) I:=by
 obtain⟨x,a,q⟩:=h;show⟨_,by rw[c4,a];rfl,q⟩
end
theorem li{P:List Nat×List D->Prop}(h:fR i j=Pm)(q:P ([],dQ i j)):Wp (lE (Pj (k,.int i)) (Pj (k',.int j))) P:=⟨_,if_pos h,q⟩
theorem dw{i j:Int}(h1:-100000<=i)(h2:i<=100000)(b:-100000<=j)(a:j<=100000)(c:j-i<=100000):fR i j=Pm:=by
 simp only[fR,Me,decide_eq_true_eq]
 lia
theorem iB{i j:Int}{n:Nat}(h:(dQ i j)[n]?=Pj d):d=.int (i+n)/\i+n<j:=by
 unfold dQ at h;rw[Mj] at h;obtain⟨m,a,rfl⟩:=aY h;let b:=(Mg.mp a).1;rw[N3] at b;rw[M7 b] at a;cases a;show⟨rfl,by lia⟩
theorem fF{P:List Nat×List D->Prop}(h:eA k ds=Pm)(q:P (oW k,ds)):Wp (m7 (Pj (k,.nd .lst ds))) P:=⟨_,if_pos h,q⟩
theorem nM{P:List Nat×List D->Prop}(h:eA k ds=Pm)(q:P ([],ds)):Wp (m7 (Pj (k,.nd .tup ds))) P:=⟨_,if_pos h,q⟩
theorem yw{ns:List Int}{P:List Nat×List D->Prop}(q:P ([],ns.map D.int)):Wp (m7 (Pj (k,.scr ns))) P:=⟨_,rfl,q⟩
def Kt(U:GG)(N:Nat)(rest:bw)(pn:List Nat)(Q:Res->Prop):Res->Prop
 |.nx Y=>Wp (aq U N rest pn Y) Q
 |r=>Q r
section
variable {U:GG} {N:Nat} {pn:List Nat} {Y:Ro} {Q:Res->Prop} {rest:bw}
theorem dN(h:Wp (aq U N rest pn Y) Q):Kt U N rest pn Q (.nx Y):=h
theorem ub(h:Q (.rt k d Y)):Kt U N rest pn Q (.rt k d Y):=h
theorem ba(q:Q (.nx Y)):Wp (aq U N .nil pn Y) Q:=⟨_,by rw[aq],q⟩
theorem dW(h:Wp (gx U N s pn Y) (Kt U N rest pn Q)):Wp (aq U N (.cons s rest) pn Y) Q:=by
 obtain⟨r,a,q⟩:=h
 cases r with
 |nx b=>obtain⟨z,c,q⟩:=q;show⟨z,by rw[aq,a];show c,q⟩
 |rt k d b=>show⟨_,by rw[aq,a];rfl,q⟩
 |ct b=>show⟨_,by rw[aq,a];rfl,q⟩
 |bk b=>show⟨_,by rw[aq,a];rfl,q⟩
theorem dO(h:Wp (aQ U a Y) λx=>(bA (dJ x.1 x.2.1)=Po/\i∉pn)/\Wp (aq U N rest pn (x.2.2.set i (Pj ⟨Po,FI (dJ x.1 x.2.1),x.2.1⟩))) Q):Wp (aq U N (.cons (.asg i a) rest) pn Y) Q:=by
 obtain⟨⟨f,d,e⟩,c,b,w⟩:=h;show dW ⟨.nx _,?_,dN w⟩;rw[AN,c];show if_neg (by dsimp only at b;rw[b.1];simpa using b.2)
theorem ET{b:List Nat}(h:Wp (aQ U a Y) λx=>∃ds es r,x.2.1=.nd .tup ds/\jd x.1 ds=Pj (es,r)/\(b.length=ds.length/\(b.all λi=>!pn.contains i)=Pm)/\Wp (aq U N rest pn (rq b ds es r x.2.2)) Q):Wp (aq U N (.cons (.unp b a) rest) pn Y) Q:=by
 obtain⟨⟨g,d,e⟩,f,ds,es,r,c,hk,j,w⟩:=h;dsimp only at c hk;subst c;show dW ⟨.nx _,?_,dN w⟩;rw[AO,f]
 change(match jd g ds with|some (es,r)=>if b.length=ds.length/\(b.all λi=>!pn.contains i)=Pm then Pj (Res.nx (rq b ds es r e)) else Pl|none=>Pl)=_
 rw[hk];show if_pos j
theorem HR{i:Nat}{s:Sl}(e:Y[i]?=Pj (Pj s))(h:Wp (aQ U a Y) λx=>i∉pn/\Wp (AK op s.d x.2.1) λz=>Wp (aq U N rest pn (x.2.2.set i (Pj (FE z)))) Q):Wp (aq U N (.cons (.aug i op a) rest) pn Y) Q:=by
 obtain⟨⟨j,d,g⟩,c,f,z,b,w⟩:=h;show dW ⟨.nx _,?_,dN w⟩;rw[AQ,c,e]
 change(if i∈pn then Pl else _)=_
 dsimp only at b;rw[if_neg f,b]
theorem mn{b:BP}(h:Wp (aQ U a Y) λx=>Wp (pj U.fn b x.2.2) λp=>Wp (aa U.fn k x.2.2) λy=>∃es r hd ds kk f,p.1=.own es r/\p.2.1=.nd hd ds/\x.2.2[b.slot]?=Pj (Pj ⟨Po,kk,f⟩)/\Wp (ny es r hd ds y.2 (dJ x.1 x.2.1,x.2.1)) λz=>Wp (aq U N rest pn (x.2.2.set b.slot (Pj ⟨Po,kk,p.2.2 (.nd z.1 z.2)⟩))) Q):Wp (aq U N (.cons (.put b k a) rest) pn Y) Q:=by
 obtain⟨⟨o,d,m⟩,l,⟨pk,s,q⟩,e,⟨t,n⟩,c,es,r,hd,ds,kk,f,e1,e2,e3,⟨j,i⟩,g,w⟩:=h;dsimp only at e1 e2 e3 e c g;subst e1 e2;show dW ⟨.nx _,?_,dN w⟩;rw[AR,l];unfold vf;dsimp only;rw[e,c,e3];dsimp only;rw[g]
theorem dA(h:Wp (aQ U a Y) λx=>bA (dJ x.1 x.2.1)=Po/\Q (.rt (dJ x.1 x.2.1) x.2.1 x.2.2)):Wp (aq U N (.cons (.ret a) rest) pn Y) Q:=by
 obtain⟨⟨f,d,e⟩,c,b,q⟩:=h;show dW ⟨.rt _ _ _,?_,ub q⟩;rw[AS,c];show if_neg (by dsimp only at b;rw[b];decide)
theorem uc(h:Wp (aQ U a Y) λx=>Wp (aq U N rest pn x.2.2) Q):Wp (aq U N (.cons (.exp a) rest) pn Y) Q:=by
 obtain⟨⟨e,d,c⟩,b,w⟩:=h;show dW ⟨.nx _,?_,dN w⟩;rw[AT,b];rfl
theorem HS(h:Wp (bH U t Y) λp=>(p.1=Pm->Wp (aq U N a pn p.2) (Kt U N rest pn Q))/\(p.1=Po->Wp (aq U N b pn p.2) (Kt U N rest pn Q))):Wp (aq U N (.cons (.ifs t a b) rest) pn Y) Q:=by
 obtain⟨⟨r,g⟩,d,f,e⟩:=h
 cases r with
 |true=>obtain⟨x,c,q⟩:=f rfl;show dW ⟨x,by rw[tR,d];show c,q⟩
 |false=>obtain⟨x,c,q⟩:=e rfl;show dW ⟨x,by rw[tR,d];show c,q⟩
theorem pN{fb:Ro->Option Res}(I:Nat->Ro->Prop):∀(ds:List D) (j:Nat) (Y:Ro),I j Y->(∀(i:Nat) d Y,ds[i]?=Pj d->I (j+i) Y->∃ps,nZ tg d=Pj ps/\(ps.all λp=>!pn.contains p.1)=Pm/\Wp (fb (setAll ps (clrN fg Y))) λr=>∃Y',(r=.nx Y'\/r=.ct Y')/\I (j+i+1) Y')->
  ∃Y',gw pn fg tg fb ds Y=Pj (.nx (clrN fg Y'))/\I (j+ds.length) Y'
 |[],j,Y,h0,_=>⟨Y,rfl,h0⟩
 |d::ds,j,Y,h0,hs=>by
  obtain⟨ps,e1,e2,r,k,b,a,l⟩:=hs 0 d Y rfl h0
  obtain⟨f,e3,g⟩:=pN I ds (j+1) b l λi h Y' e c=>by
   have:=hs (i+1) h Y' (by simpa using e) (by rw[show j+(i+1)=j+1+i by lia];show c);rw[show j+(i+1)+1=j+1+i+1 by lia] at this;show this
  show⟨f,?_,by rw[MW,show j+(ds.length+1)=j+1+ds.length by lia];show g⟩;unfold gw;rw[e1];dsimp only;rw[if_pos e2,k];rcases a with rfl|rfl
  ·show e3
  ·show e3
theorem eR(h:Wp (c4 U it Y) λp=>∃I:Nat->Ro->Prop,I 0 (clrN p.1 p.2.2)/\(∀(i:Nat) d Y,p.2.1[i]?=Pj d->I i Y->∃ps,nZ tg d=Pj ps/\(ps.all λq=>!(pn++p.1).contains q.1)=Pm/\Wp (aq U N b (pn++p.1) (setAll ps (clrN fg Y))) λr=>∃Y',(r=.nx Y'\/r=.ct Y')/\I (i+1) Y')/\
  ∀Y',I p.2.1.length Y'->Wp (aq U N rest pn (zg p.1 p.2.2 (clrN fg Y'))) Q):Wp (aq U N (.cons (.fo fg tg it b) rest) pn Y) Q:=by
 obtain⟨⟨a,f,c⟩,k,I,l,j,m⟩:=h
 obtain⟨Y',e1,n⟩:=pN (pn:=pn++a) I f 0 (clrN a c) l λi d Y e g=>by
  have:=j i d Y e (by simpa using g);simpa using this
 show dW ⟨.nx _,?_,dN (m Y' (by simpa using n))⟩;rw[EB,k];change xW a c (gw (pn++a) fg tg (aq U N b (pn++a)) f (clrN a c))=_;rw[e1];rfl
end
theorem yx{f:D->Ro->Option (Option KD×Ro)}{Q:List D×Ro->Prop}{ds:List D}{Y:Ro}(I:Nat->List D->Ro->Prop)(t:I 0 [] Y)(p:∀(i:Nat) d ys Y,ds[i]?=Pj d->I i ys Y->Wp (f d Y) λo=>∃a,o.1=Pj a/\bM r a=Pm/\I (i+1) (ys++[a.2]) o.2)(v:∀ys Y,I ds.length ys Y->Q (ys,Y)):Wp (aF r f ds Y) Q:=by
 let c:∀n,n<=ds.length->∃ys b,aF r f (ds.take n) Y=Pj (ys,b)/\I n ys b:=by
  intro n
  induction n with
  |zero=>intro _;show⟨[],Y,by simp[aF],t⟩
  |succ n x=>
   intro y;obtain⟨ys,m,e1,w⟩:=x (by lia);let g:ds[n]?=Pj ds[n]:=Ms (by lia);obtain⟨⟨o,q⟩,l,a,k,u,j⟩:=p n _ ys m g w;dsimp only at k j;subst k;let s:ds.take (n+1)=ds.take n++[ds[n]]:=by rw[N2,g];rfl
   show⟨ys++[a.2],q,?_,j⟩;rw[s];show cG e1 (by simp[aF,l,u])
 obtain⟨ys,b,e,h⟩:=c ds.length (Mi _);rw[Nk] at e;show⟨_,e,v ys b h⟩
theorem KB{f:D->Option (Option KD)}{Q:List D->Prop}{ds:List D}(P:Nat->D->Prop)(g:∀(i:Nat) d,ds[i]?=Pj d->Wp (f d) λo=>∃a,o=Pj a/\bM r a=Pm/\P i a.2)(m:∀ys,ys.length=ds.length->(∀(i:Nat) y,ys[i]?=Pj y->P i y)->Q ys):Wp (aU r f ds) Q:=by
 let b:∀(ds:List D) (j:Nat),(∀(i:Nat) d,ds[i]?=Pj d->Wp (f d) λo=>∃a,o=Pj a/\bM r a=Pm/\P (j+i) a.2)->∃ys,aU r f ds=Pj ys/\ys.length=ds.length/\∀(i:Nat) y,ys[i]?=Pj y->P (j+i) y:=by
  intro ds
  induction ds with
  |nil=>intro j _;show⟨[],rfl,rfl,λi y e=>by simp at e⟩
  |cons d ds p=>
   intro j h;obtain⟨o,c,a,rfl,k,n⟩:=h 0 d rfl
   obtain⟨ys,e1,e2,e3⟩:=p (j+1) λi l e=>by
    have:=h (i+1) l (by simpa using e);rw[show j+(i+1)=j+1+i by lia] at this;show this
   show⟨a.2::ys,by simp[aU,c,e1,k],by simp[e2],λi y e=>?_⟩
   cases i with
   |zero=>simp at e;subst e;show n
   |succ i=>
    rw[show j+(i+1)=j+1+i by lia];show e3 i y (by simpa using e)
 obtain⟨ys,e1,e2,e3⟩:=b ds 0 λi d e=>by simpa using g i d e
 show⟨ys,e1,m ys e2 λi y e=>by simpa using e3 i y e⟩
theorem pO{ft:Ro->Option Bool}{a:Ro->Option KD}{Q:Option KD->Prop}(h1:nZ tg d=Pj ps)(h2:bY ps Y0=Pm)(c:ft (setAll ps Y0)=Pj Pm)(h:Wp (a (setAll ps Y0)) λx=>Q (Pj x)):Wp (dR tg ft a Y0 d) Q:=by
 obtain⟨x,b,q⟩:=h;show⟨_,?_,q⟩;unfold dR;rw[h1];dsimp only;rw[if_pos h2,c];dsimp only;rw[b];rfl
theorem EU{ft:Ro->Option (Bool×Ro)}{a:Ro->MR}{Q:Option KD×Ro->Prop}(h1:nZ tg d=Pj ps)(h2:bY ps Y0=Pm/\xG cap ps=Pm)(h:Wp (ft (setAll ps Y0)) λb=>(b.1=Pm->Wp (a b.2) λx=>Q (Pj (dJ x.1 x.2.1,x.2.1),clr ps x.2.2))/\(b.1=Po->Q (Pl,clr ps b.2))):Wp (gJ cap tg ft a d Y0) Q:=by
 obtain⟨⟨b,j⟩,e,g,f⟩:=h
 cases b with
 |true=>
  obtain⟨⟨l,k,i⟩,c,q⟩:=g rfl;show⟨_,?_,q⟩;unfold gJ;rw[h1];dsimp only;rw[if_pos h2,e];dsimp only at c⊢;rw[c]
 |false=>
  show⟨_,?_,f rfl⟩;unfold gJ;rw[h1];dsimp only;rw[if_pos h2,e]
theorem rL{ft:Ro->Option (Bool×Ro)}{a:Ro->MR}{Q:Option KD×Ro->Prop}(h1:nZ tg d=Pj ps)(h2:bY ps Y0=Pm/\xG cap ps=Pm)(b:ft (setAll ps Y0)=Pj (Pm,setAll ps Y0))(h:Wp (a (setAll ps Y0)) λx=>Q (Pj (dJ x.1 x.2.1,x.2.1),clr ps x.2.2)):Wp (gJ cap tg ft a d Y0) Q:=
 EU h1 h2 ⟨_,b,λ_=>h,λe=>by cases e⟩
theorem nN{ds:List D}(b:ds.length=m)(h:Wp (aq U N body [] (k8 k (ds.map tX))) λr=>Wp (f9 (Pj r)) Q):Wp (bS U N m k body ds) Q:=by
 obtain⟨r,c,z,a,q⟩:=h;show⟨z,by unfold bS;rw[if_pos b,c];show a,q⟩
theorem A0{ks:List kU}(b:ks.length=m)(h:Wp (aq U N body pn (k8 k ks)) λr=>Wp (gy m pn (Pj r)) Q):Wp (k9 U N m k pn body ks) Q:=by
 obtain⟨r,c,z,a,q⟩:=h;show⟨z,by unfold k9;rw[if_pos b,c];show a,q⟩
theorem ee{Q:KD->Prop}(a:bA kd=Po)(q:Q (kd,d)):Wp (f9 (Pj (.rt kd d Y))) Q:=⟨_,if_neg (by rw[a];decide),q⟩
theorem pP{Q:Kd×D×List (Option kU)->Prop}(a:bA kd=Po)(q:Q (kd,d,outs m pn Y)):Wp (gy m pn (Pj (.rt kd d Y))) Q:=⟨_,if_neg (by rw[a];decide),q⟩
theorem B8{Q:Kd×D×List (Option kU)->Prop}(q:Q (.sh,.non,outs m pn Y)):Wp (gy m pn (Pj (.nx Y))) Q:=⟨_,rfl,q⟩
theorem jl{b:Ow}{p2:D}{o:Option (Option Sl)}{es:List Ow}{r:Ow}{hd:Hd}{ds:List D}{kk:Ow}{a:D}{P:List Ow->Ow->Hd->List D->Ow->D->Prop}(e1:b=.own es r)(e2:p2=.nd hd ds)(e3:o=Pj (Pj ⟨Po,kk,a⟩))(h:P es r hd ds kk a):∃es r hd ds kk a,b=.own es r/\p2=.nd hd ds/\o=Pj (Pj ⟨Po,kk,a⟩)/\P es r hd ds kk a:=⟨es,r,hd,ds,kk,a,e1,e2,e3,h⟩
theorem vo{Q:Ow×D×(D->D)->Prop}(h:pj U b Y=Pj r)(q:Q r):Wp (pj U b Y) Q:=⟨r,h,q⟩
theorem jm{Q:Hd×List D->Prop}(h:ny es k hd ds d x=Pj r)(q:Q r):Wp (ny es k hd ds d x) Q:=⟨r,h,q⟩
theorem rM{Q:KD->Prop}(h:m6 k a=Pj r)(q:Q r):Wp (m6 k a) Q:=⟨r,h,q⟩
theorem dX{Q:KD->Prop}(h:hZq k a=Pj r)(q:Q r):Wp (hZq k a) Q:=⟨r,h,q⟩
mutual
theorem ud:∀{d:D} {n:Nat},dY n d=Pm->(py d).canLay0=Pm
 |.non,_,_=>by simp[py,PyData.canLay0]
 |.bl _,_,_=>by simp[py,PyData.canLay0]
 |.int _,_,_=>by simp[py,PyData.canLay0]
 |.str x,_,h=>by simpa[py,PyData.canLay0,dY] using h
 |.scr ns,_,_=>by simpa[py,PyData.canLay0] using(jT ns).1
 |.nd .lst ds,n,h=>by
  simp only[dY,Me] at h;simpa[py,PyData.canLay0] using lj h.2
 |.nd .tup ds,n,h=>by
  simp only[dY,Me] at h;simpa[py,PyData.canLay0] using lj h.2
 |.nd (.dic _ _) _,n,h=>by simp[dY] at h
 |.nd (.obj _ _) _,n,h=>by simp[dY] at h
theorem lj:∀{ds:List D} {n:Nat},jM n ds=Pm->PyData.canLayAll0 (wZ ds)=Pm
 |[],_,_=>by simp[wZ,PyData.canLayAll0]
 |d::ds,n,h=>by
  simp only[jM,Me] at h;simp[wZ,PyData.canLayAll0,ud h.1,lj h.2]
end
theorem pQ(h:dY n d=Pm):ze d d=Pm:=by unfold ze;show PySem.SeqAt.eqv_refl _ (ud h)
theorem j5:∀{ds:List D},(∀d∈ds,dY n d=Pm)->jM n ds=Pm
 |[],_=>rfl
 |d::ds,h=>by simp only[jM,Me];show⟨h d MD,j5 λd a=>h d (Mt _ a)⟩
noncomputable def FM:DK->Option (Int×Int)
 |.inr [.inl (.inl a),.inl (.inl b)]=>Pj (a,b)
 |_=>Pl
def vp:List DK->Option (List (Int×Int))
 |[]=>Pj []
 |k::ks=>(FM k).bind λp=>(vp ks).map λps=>p::ps
noncomputable def hs2(p:Int×Int):Int:=reduceHash (Builtin.Tuple.tupleHashOf [hashInt p.1,hashInt p.2])
def pR(ks:List DK):Bool:=match vp ks with
 |some ps=>decide (ps.map hs2).Nodup
 |none=>Po
def pS(a:Option KD):Option KD:=match a with
 |some (k,.nd (.dic (m+1) ks) ds)=>if eA k ds=Pm/\pR ks=Pm/\ds.length<=100000 then Pj (.fr (.own [] .fz),.nd (.dic (m+1) ks) ds) else Pl
 |_=>Pl
noncomputable def ll(p q:Int×Int):Bool:=decide (p.1<q.1)||(decide (p.1=q.1)&&decide (p.2<q.2))
def pD(p:Int×Int):D:=.tup [.int p.1,.int p.2]
def rN:List (Int×Int)->Option (List (Int×Int))
 |[]=>Pj []
 |[p]=>Pj [p]
 |[p,q]=>Pj (if ll q p=Pm then [q,p] else [p,q])
 |_=>Pl
def vq(a:Option KD):Option KD:=match a with
 |some (_,.nd (.dic (m+1) ks) _)=>(vp ks).bind λps=>(rN ps).map λr=>(.fr (.own [] .fz),.lst (r.map pD))
 |_=>Pl
def KC(a:Option KD):Option KD:=match a with
 |some (k,.nd (.dic 0 _) ds)=>if eA k ds=Pm/\ds.length<=100000 then Pj (.fr (.own [] .fz),.lst ds) else Pl
 |_=>Pl
noncomputable def EV(i:Nat)(Y:Ro):IR:=match Y[i]? with
 |some (Pj ⟨Po,.own [] .fz,.nd (.dic 0 []) []⟩)=>Pj ([],[],Y.set i Pl)
 |_=>Pl
noncomputable def v3(a:Option KD)(Y:Ro):MR:=a.map λp=>(p.1,p.2,Y)
def lm(f:Ro->Option Res)(m k:Nat)(pn:List Nat)(ks:List kU):Option (Kd×D×List (Option kU)):=if ks.length=m then gy m pn (f (k8 k ks)) else Pl
noncomputable def bp:bw->Nat->bw
 |.cons s r,n+1=>.cons s (bp r n)
 |_,_=>.nil
noncomputable def bq:bw->Nat->bw
 |b,0=>b
 |.cons _ r,n+1=>bq r n
 |.nil,_+1=>.nil
end J
namespace L2
open PyProof.Rows
section
variable {prog:Px} {w:PB} {A:PC} {E:Pn->Pt->Prop} {s:Pt}
theorem pT{y:Int}:∀{l:List DictEntry},(l.map (·.hash)).Nodup->(l.filter λx=>x.hash==y).length<=1
 |[],_=>by simp
 |a::l,hn=>by
  rw[Mx,Mw] at hn;rw[List.filter_cons];split
  ·ext c;let c:=eq_of_beq c
   have:l.filter (λx=>x.hash==y)=[]:=by
    rw[List.filter_eq_nil_iff];intro b d z;show hn.1 (Na.mpr ⟨b,d,(eq_of_beq z).trans c.symm⟩)
   rw[this];simp
  ·show pT hn.2
theorem pU{id:String}{o:Obj}{es:Array DictEntry}{Q:Array DictEntry->Pt->Prop}(j:s.heap.get? d=Pj o)(hd:o.data=.dict es ep)(hk:∀e∈es.toList,∃b,e.key=.ref b/\s.TypeIs (.ref b) "tuple")(k:(es.toList.map (·.hash)).Nodup)(h:Q es s) :
  Pv (Pw prog w) A (Builtin.Dict.entriesForEmpty id d) Q E s:=by
 unfold Builtin.Dict.entriesForEmpty;show Pq (wpAny_dictEntries j hd ?_);show Pq (show Pv _ _ (forIn es PUnit.unit _) _ _ s from ?_);rw[<- Oj];show wpAny_forIn_list _ (λrest _ z=>z=s/\∀e∈rest,e∈es.toList) _ (λe rest _ z a=>?_) (λ_ z a=>?_) _ _ ⟨rfl,λe c=>c⟩
 ·obtain⟨rfl,g⟩:=a;let c:=g e MD;obtain⟨b,m,p⟩:=hk e c
  let n:¬(es.filter λx=>x.hash==e.hash).size > 1:=by
   let e1:(es.filter λx=>x.hash==e.hash).size=(es.toList.filter λx=>x.hash==e.hash).length:=by
    rw[<- Nt,Array.toList_filter]
   rw[e1];have:=pT (y:=e.hash) k
   lia
  show Pq ?_;rw[m];show wpAny_mono (Q:=λq f=>q=Po/\f=z) ?_ (λq f l=>?_) (λ_ _ x=>x)
  ·show Pq (wpAny_specialOf p F.slot_tuple_eq.lookup (Pu ⟨by decide,rfl⟩))
  ·obtain⟨rfl,rfl⟩:=l;simp only[Bool.not_false,if_true];rw[if_neg n];show Pu ⟨rfl,λu i=>g u (Mt _ i)⟩
 ·obtain⟨rfl,_⟩:=a;show Pu h
theorem vt{nm:String}{l k:Obj}{es:Array DictEntry}{Q:Unit->Pt->Prop}(i:d≠o)(h:(o==sysModules)=Po)(hd:s.heap.get? d=Pj l)(c:l.data=.dict #[] epd)(f:s.heap.get? o=Pj k)(a:k.data=.dict es ep)(hk:∀e∈es.toList,∃b,e.key=.ref b/\s.TypeIs (.ref b) "tuple")(n:(es.toList.map (·.hash)).Nodup)(m:es.size<=sizeLine)(p:es=#[]->Q () s)(h1:Q () { s with heap:=s.heap.update d (Obj.mapDictKeys λ_=>es) }) :
  Pv (Pw prog w) A (Builtin.Dict.mergeDict nm d o) Q E s:=by
 unfold Builtin.Dict.mergeDict;rw[if_neg (by simpa using i)];unfold Builtin.Dict.showsAll;rw[if_neg (by rw[h];show Mz)];show Pq (Pu ?_);show Pq (wpAny_dictEntries f a ?_);by_cases g:es=#[]
 ·subst g;let e1:(!(decide ((#[]:Array DictEntry).size<=8)&&(#[]:Array DictEntry).all λe=>(keyPart e.key).isSome))=Po:=by simp
  dsimp only;rw[e1,if_neg Mz];show Pq (wpAny_dictEpoch f a ?_);show Pq (wpAny_dictEntries f a ?_);show Pq ?_;rw[Std.Legacy.Range.forIn_eq_forIn_range'];show Pu (Pu (p rfl))
 ·let e1:(!(decide (es.size<=8)&&es.all λe=>(keyPart e.key).isSome))=Pm:=by
   rw[NE,Bool.and_eq_false_iff];right
   let j:0<es.toList.length:=by
    rcases O2 es.toList.length with q|q
    ·show absurd (Pb.mp (N0.mp q)) g
    ·show q
   obtain⟨b,r,_⟩:=hk es.toList[0] (OB j);rw[<- Array.all_toList,List.all_eq_false];show⟨es.toList[0],OB j,by rw[r];show Mz⟩
  dsimp only;rw[if_pos e1];show Pq (wpAny_dictEntries hd c ?_);rw[if_pos (by rfl)];show Pq (pU f a hk n ?_);rw[if_pos (by simpa using g)];show Pq (wpAny_updateDictKeysTo hd c (Pu h1) (Ov m))
theorem yy{i:Obj}{es:Array DictEntry}{Q:Pn->Pt->Prop}(k:(o==sysModules)=Po)(t:s.heap.get? o=Pj i)(m:i.ExactDict)(p:i.data=.dict es ep)(hk:∀e∈es.toList,∃b,e.key=.ref b/\s.TypeIs (.ref b) "tuple")(v:(es.toList.map (·.hash)).Nodup)(u:es.size<=sizeLine)(h:∀h' n,(∀b q,s.heap.get? b=Pj q->h'.get? b=Pj q)->h'.get? s.heap.objs.size=Pj { cls:=.type "dict",data:=.dict es n }->Q (.ref s.heap.objs.size) { s with heap:=h' }) :
  Pv (Pw prog w) A (call (.type "dict") [.ref o]) Q E s:=by
 show callType_codes (Q₁:=λf r=>f=.ref s.heap.objs.size/\r={ s with heap:=s.heap.push { cls:=.type "dict",data:=.dict #[] } }) F.kt_called_dict (F.kt_typeCall_dict_1 _) F.entry_dict_init (kt_code_dict_new _ ⟨rfl,rfl⟩) ?_
 rintro f r ⟨rfl,rfl⟩
 let B:o<s.heap.objs.size:=Ml t;let a:(s.heap.push { cls:=.type "dict",data:=.dict #[] }).get? s.heap.objs.size=Pj { cls:=.type "dict",data:=.dict #[] }:=Mp _ rfl;let d:(Shared.mk (s.heap.push { cls:=.type "dict",data:=.dict #[] }) s.gens s.drawn s.toks s.os).TypeIs (.ref s.heap.objs.size) "dict":=⟨_,a,rfl⟩;let g:(s.heap.push { cls:=.type "dict",data:=.dict #[] }).get? o=Pj i:=Mf _ t;let c:(Shared.mk (s.heap.push { cls:=.type "dict",data:=.dict #[] }) s.gens s.drawn s.toks s.os).TypeIs (.ref o) "dict":=⟨_,g,m.1⟩;show⟨d,F.args_dict_init_2 _ _,?_⟩;unfold Builtin.«dict.__init__»;show Pq ?_;unfold Builtin.Dict.selfAndRest;show Pq (wpAny_notOrdered_dict d ?_);change Pv _ _ (pure (s.heap.objs.size,[Value.ref o])) _ _ _;show Pu ?_;change Pv _ _ (Builtin.Dict.updateFrom "dict.__init__" s.heap.objs.size (.ref o) [] .none) _ _ _;unfold Builtin.Dict.updateFrom;show Pq (wpAny_typeOf c ?_);rw[if_neg (by decide)];show Pq ?_;unfold Builtin.Dict.merge;show Pq ?_;unfold Builtin.Dict.readDirectly;show Pq (wpAny_isInstance c isSubtype_dict_dict ?_);simp only[NW,M3,if_false];show Pq (wpAny_specialOf c F.slot_dict_iter.lookup (Pu ?_));simp only[beq_self_eq_true,if_true];show Pq (Pu ?_);let l:∀b q,b≠s.heap.objs.size->s.heap.get? b=Pj q->((s.heap.push { cls:=.type "dict",data:=.dict #[] }).update s.heap.objs.size (Obj.mapDictKeys λ_=>es)).get? b=Pj q:=λb q y e=>(Nz _ _ (Ne.symm y)).trans (Mf _ e);show vt (Nn B) k a rfl g p (λe j=>?_) v u (λj=>?_) ?_
 ·obtain⟨b,z,x,e1,e2⟩:=hk e j;show⟨b,z,x,Mf _ e1,e2⟩
 ·subst j;show Pq (Pu (Pu ⟨rfl,h _ 0 (λb q e=>Mf _ e) a⟩))
 ·have:=NR (Obj.mapDictKeys λ_=>es) a rfl;show Pq (Pu (Pu ⟨rfl,h _ 1 (λb q e=>l b q (Mr (Ml e)) e) this⟩))
end
section
variable {X:Cx}
def KF(X:Cx)(ta:TA):TE:=λZ H Q=>ta Z H λvs H1=>∃a m ep kvs,vs=[.ref a]/\H1 a=Pj (.dT m ep kvs)/\(kvs.map λp=>(bE m (aG X.prog X.w)).hash p.1).Nodup/\∀p n,H1 p=Pl->Q (.ref p) (upd H1 p (.dT m n kvs))
theorem EW{a:Pp}(hg:Gl X "dict")(hm:X.mg "dict" = Pl)(ha:PA X [a] ta)(hs:Py [a] X.env=[(Po,eval a X.env)]):PE X (.Call (.Name "dict" p) [a] [] pos) (KF X ta):=by
 intro j s Z H Q I h;show Call_ (cI I hg hm boot_dict (PyProof.Rows.callWith_type1 (a5 (ha pos j s Z H _ I h) λus s1 ⟨vs,S,f,r1,C,m,P,d,e,l,D,q⟩=>?_) hs rfl));subst e;obtain⟨u,rfl,U⟩:=r1.one;cases(show u=Value.ref C from U);let v:=wK f.hok l;obtain⟨O,xs,o,r,g,N,R,K,k⟩:=wJ f.hok l;let E:r.size=d.length:=by rw[size_of_entries k,Paired.length g]
 let hk:∀e∈r.toList,∃b,e.key=.ref b/\s1.TypeIs (.ref b) "tuple":=λe F=>by
  rw[k] at F;obtain⟨x,hx,rfl⟩:=Na.mp F;obtain⟨i,hi,rfl⟩:=OT.mp hx;obtain⟨p,_,e1,e2,_⟩:=Paired.get g (Ms hi);show⟨_,rfl,IsDeep.ty (eD f.hok e2)⟩
 let Y:(r.toList.map (·.hash)).Nodup:=by
  rw[k,MB]
  have:(xs.map ((λx=>x.hash)∘entryOfKey (bE m (aG X.prog X.w))))=d.map λp=>(bE m (aG X.prog X.w)).hash p.1:=by
   clear D k E hk v l q
   induction g with
   |nil=>rfl
   |cons h t ih=>rw[Mx,Mx,ih,h.1];rfl
  rw[this];show D
 show yy O N R K hk Y (by rw[E];show v.1) λh' n T k2=>?_;show⟨.ref s1.heap.objs.size,_,f.laid (t':=s1.toks) (a:=s1.heap.objs.size) (o:=.dT m n d) T (Mi _) ?_,rfl,q _ n (f.hok.fresh (Mi _))⟩;obtain⟨_,y,B,W,o',hb,M,g2,L,g4,V⟩:=(show ObjOk X.prog X.w S s1.heap C (.dT m P d) from f.hok C _ l);rw[N] at M;cases M;rw[K] at L;cases L
 show⟨v.1,beq_eq_false_iff_ne.mpr (Ne.symm (Mr f.big)),B,KT.keeps W λc ys A=>(by
  rw[ah (λz=>by rw[z,f.hok.fresh (Mi _)] at A;cases A)];show A),_,r,k2,⟨rfl,rfl,rfl⟩,rfl,g4,V⟩
end
end L2
namespace L2
open PySem PySem.Spec PySem.W PyProof.Rows
noncomputable def EX{α:Type}(lt:Nat->Nat->Bool):KasT α->α
 |.ret a=>a
 |.ask i j k=>EX lt (k (lt i j))
noncomputable def A1{α:Type}(P lt:Nat->Nat->Bool):KasT α->Bool
 |.ret _=>Pm
 |.ask i j k=>P i j&&A1 P lt (k (lt i j))
theorem ue{α:Type}{a:Nat->Nat->(Bool->Pt->Prop)->Pt->Prop}{P lt:Nat->Nat->Bool}{Q:α->Pt->Prop}{s:Pt}(b:∀i j C,P i j=Pm->C (lt i j) s->a i j C s):∀t:KasT α,A1 P lt t=Pm->Q (EX lt t) s->t.kasWp a Q s
 |.ret _,_,q=>q
 |.ask i j k,h,q=>by
  let h:(P i j&&A1 P lt (k (lt i j)))=Pm:=h;rw[Me] at h;show b i j _ h.1 (ue b (k (lt i j)) h.2 q)
noncomputable def EY(x y:Bool)(i j:Nat):Bool:=if i=0/\j=1 then x else if i=1/\j=0 then y else Po
noncomputable def KG(i j:Nat):Bool:=decide (i<2)&&decide (j<2)
theorem HU:∀x y:Bool,(x&&y)=Po->A1 KG (EY x y) (kas_sort 2)=Pm/\(EX (EY x y) (kas_sort 2)).toList=if y=Pm then [1,0] else [0,1]:=by nofun
def KH:List (Int×Int)->Bool
 |[p,q]=>J.ll q p
 |_=>Po
def eO(h:PD)(v:Pn)(p:Int×Int):Prop:=∃b o t u n,v=.ref b/\h.get? b=Pj o/\o.cls=.type "tuple"/\o.data=.seq #[.int p.1 t,.int p.2 u] n
section
variable {prog:Px} {w:PB} {A:PC} {E:Pn->Pt->Prop} {s:Pt}
theorem nO{C:Bool->Pt->Prop}(a:eO s.heap x p)(f:eO s.heap y q)(h:C (J.ll p q) s):Pv (Pw prog w) A (keyLt' (tuples' Pm) x y) C E s:=by
 obtain⟨b,o,t,u,n,rfl,d,z,g⟩:=a;obtain⟨b2,m,r,l,k,rfl,j,v,i⟩:=f;show kat_lt d g j i ?_;show kat_cons (wpAny_eqBool_int ?_);unfold J.ll at h;by_cases e:p.1=q.1
 ·rw[show(p.1==q.1)=Pm from beq_iff_eq.mpr e];show kat_yes (kat_cons (wpAny_eqBool_int ?_));let c:decide (p.1<q.1)=Po:=decide_eq_false (by lia);rw[c,decide_eq_true e,Bool.false_or,Os] at h;by_cases e2:p.2=q.2
  ·rw[show(p.2==q.2)=Pm from beq_iff_eq.mpr e2];show kat_yes (kat_nil ?_);rw[decide_eq_false (show ¬p.2<q.2 by lia)] at h;show h
  ·rw[show(p.2==q.2)=Po from beq_eq_false_iff_ne.mpr e2];show kat_no (kat_one _ _ (lt_int h))
 ·rw[show(p.1==q.1)=Po from beq_eq_false_iff_ne.mpr e];rw[decide_eq_false e,Bool.false_and,OV] at h;show kat_no (oneLt_int h)
theorem rO{vs:List Pn}{P:Fin->Pt->Prop}(F:s.heap.get? a=Pj (seqObj "list" vs.toArray n))(B:Paired (eO s.heap) vs ps)(h2:vs.length<=2)(h:∀out:List Pn,(∃x y,vs=[x,y]/\out=(if KH ps=Pm then [y,x] else [x,y]))\/(vs.length<2/\out=vs)->P (.done (.ret .none)) { s with heap:=sortedHeap s.heap a vs out.toArray }) :
  Pv (Pw prog w) A (Builtin.«list.sort» ⟨[.ref a],[]⟩) P E s:=by
 rw[list_sort_plain];let S:a<s.heap.objs.size:=Ml F;show Pq (listItems_at F rfl ?_);show Pq (listUpdate_at F rfl ?_);obtain⟨e1,D⟩:∃e1,(s.heap.update a (Obj.mapSeq λ_=>#[])).get? a=Pj (seqObj "list" #[] e1):=⟨_,get?_update_seq F (λ_=>#[])⟩;show Pq (seqEpoch_at D rfl ?_);show Pq (wpAny_newTuple ?_);show Pq (wpAny_newList ?_);show PP ?_
 let m:(((s.heap.update a (Obj.mapSeq λ_=>#[])).push (seqObj "tuple" vs.toArray 0)).push (seqObj "list" #[] 0)).get? a=Pj (seqObj "list" #[] e1):=by
  rw[O7 _ _ _ (by rw[size_push',Pc];show Mr (NP S)),O7 _ _ _ (by rw[Pc];show Mr S)];show D
 let O:∀{b o},b≠a->s.heap.get? b=Pj o->(((s.heap.update a (Obj.mapSeq λ_=>(#[]:Array Pn))).push (seqObj "tuple" vs.toArray 0)).push (seqObj "list" #[] 0)).get? b=Pj o:=λY e=>Mf _ (Mf _ ((Nz _ _ (Ne.symm Y)).trans e));change Pv (Pw prog w) A _ P E { s with heap:=((s.heap.update a (Obj.mapSeq λ_=>#[])).push (seqObj "tuple" vs.toArray 0)).push (seqObj "list" #[] 0) };dsimp only;let M:vs.toArray.size=vs.length:=by simp
 let f:∀{x p},eO s.heap x p->eO (((s.heap.update a (Obj.mapSeq λ_=>(#[]:Array Pn))).push (seqObj "tuple" vs.toArray 0)).push (seqObj "list" #[] 0)) x p:=λ{x p} ⟨b,o,t,u,n,e1,e2,e3,e4⟩=>⟨b,o,t,u,n,e1,O (λz=>by subst z;rw[F] at e2;cases e2;show absurd (show Value.type "list" = Value.type "tuple" from e3) (by decide)) e2,e3,e4⟩;by_cases l:vs.toArray.size<2
 ·rw[if_pos l,if_pos l];show Pq (Pu ?_);rw[StateT.run_pure];show Pq (Pu ?_);dsimp only;show Pq (seqEpoch_at m rfl ?_);show Pq (listUpdate_at m rfl ?_ (hsz2:=by rw[Array.size_map];change(pairsOf vs).size<=_;rw[pairsOf_size,sizeLine_eq];lia));simp only[bne_self_eq_false,M3,if_false];have:=h vs (.inr ⟨by rw[<- M];show l,rfl⟩)
  let e2:(arrOf (SortSt.mk' general' (vs.toArray.zip vs.toArray) #[] 7 Pl)).map (·.2)=vs.toArray:=by
   change(vs.toArray.zip vs.toArray).map (·.2)=_;apply Pb.mp;rw[Array.toList_map,Array.toList_zip];show List.map_snd_zip (Mi _)
  show Pu (by rw[<- e2] at this;show this)
 ·rw[if_neg l,if_neg l]
  obtain⟨x,y,rfl⟩:∃x y,vs=[x,y]:=by
   match vs,l,h2 with
   |[],l,_=>show absurd (by decide) l
   |[_],l,_=>show absurd (by simp) l
   |[x,y],_,_=>show⟨x,y,rfl⟩
   |_::_::_::_,_,h2=>simp at h2
  cases B with|@cons _ p _ _ hx B=>cases B with|@cons _ q _ _ hy B=>
  cases B;let d:=f hx;let g:=f hy;obtain⟨b1,o1,X,u1,n1,rfl,g1,c1,d1⟩:=id d;obtain⟨b2,o2,W,u2,n2,rfl,g2,c2,d2⟩:=id g;show Pq (kat_kind (fs:=[.int p.1 X,.int q.1 W]) (T:=.type "int") (.cons g1 c1 d1 rfl (.cons g2 c2 d2 rfl .nil)) (by simp) (λv B=>?_) (by decide) ?_)
  ·simp only[Mn,Mv,or_false] at B
   rcases B with rfl|rfl<;>show .now
  rw[show(Value.type "int" != Value.type "tuple")=Pm by decide]
  let I:(J.ll p q&&J.ll q p)=Po:=by
   show Bool.eq_false_iff.mpr λh=>?_;unfold J.ll at h;simp only[Me,NC,decide_eq_true_eq] at h
   lia
  obtain⟨r1,Z⟩:=HU _ _ I
  show Pq (wpAny_mono (kat_run (vs:=[.ref b1,.ref b2]) (ks:=[.ref b1,.ref b2]) (κ:=tuples' Pm) (E:=E)
   (Q:=λc K=>K={ s with heap:=((s.heap.update a (Obj.mapSeq λ_=>(#[]:Array Pn))).push (seqObj "tuple" [Value.ref b1,.ref b2].toArray 0)).push (seqObj "list" #[] 0) }/\failedOf c=Pl/\(arrOf c).map (·.2)=(if J.ll q p=Pm then [Value.ref b2,.ref b1] else [.ref b1,.ref b2]).toArray)
   (G:=λr K=>K={ s with heap:=((s.heap.update a (Obj.mapSeq λ_=>(#[]:Array Pn))).push (seqObj "tuple" [Value.ref b1,.ref b2].toArray 0)).push (seqObj "list" #[] 0) }/\r.toList=if J.ll q p=Pm then [1,0] else [0,1])
   rfl (by simp) (by simp) (λr c K a1 a2 V U=>⟨U.1,V,?_⟩) (ue (P:=KG) (lt:=EY (J.ll p q) (J.ll q p)) (λi j C H L=>?_) _ r1 ⟨rfl,Z⟩)) ?_ λ_ _ e=>e)
  ·rw[kat_snds rfl a2,U.2]
   cases J.ll q p<;>rfl
  ·unfold kas_ask;let k:∀z:Int×Int,J.ll z z=Po:=λz=>by unfold J.ll;simp
   simp only[KG,Me,decide_eq_true_eq] at H;obtain⟨h1,h2⟩:=H;let hi:i=0\/i=1:=by lia
   let hj:j=0\/j=1:=by lia
   rcases hi with rfl|rfl<;>rcases hj with rfl|rfl
   ·show nO d d (by rw[k];show L)
   ·show nO d g L
   ·show nO g d L
   ·show nO g g (by rw[k];show L)
  ·rintro ⟨⟨⟩,c⟩ K ⟨rfl,R,N⟩
   dsimp only at R N⊢;show Pq (seqEpoch_at m rfl ?_)
   let hz:((arrOf c).map (·.2)).size=2:=by rw[N];split<;>rfl
   show Pq (listUpdate_at m rfl ?_ (hsz2:=by rw[hz,sizeLine_eq];decide));rw[R,N];simp only[bne_self_eq_false,M3,if_false];show Pu (h _ (.inl ⟨_,_,rfl,rfl⟩))
theorem A2{es:Array DictEntry}(lo:(d==sysModules)=Po):KdlSrc prog w "dict" d d es.size (λi v=>∃e,es[i]?=Pj e/\v=e.key) (λh=>∃o,h.get? d=Pj o/\o.cls=.type "dict"/\o.data=.dict es ep) where
 type:=λ_ ⟨o,e,c,_⟩=>⟨o,e,c⟩
 there:=λ_ ⟨o,e,_⟩=>⟨Ml e,Ml e⟩
 keep:=λ_ _ ⟨o,e,c⟩ hk=>⟨o,hk d (.inl rfl) o e,c⟩
 notList:=by decide
 notTuple:=by decide
 hint:=λ_ _ _ _ ⟨o,e,c,_⟩ m=>kdl_hint_dict ⟨o,e,c⟩ m
 iter:=λA s t ⟨o,e,c,l⟩=>⟨_,λi h=>h.IsKeyIter s.heap.objs.size d i es.size ep/\h.get? d=Pj o,(λ_ _ m=>GF lo e c l m),{
   sub:=λb f=>by simp at f;simp[f]
   frame:=λ_ _ _ a hk=>⟨a.1.at λo e=>hk _ (by simp) o e,hk _ (by simp) _ a.2⟩
   item:=λi q Q E x a j=>by
    show BD t a.1 a.2 l (λp g k n r=>j p.key g q.toks ⟨p,k,rfl⟩ ⟨n,(r.2 d (Mr (Ml e))).trans a.2⟩ λb o f e=>(r.2 b (λz=>f (by simp[z]))).trans e) λg k _=>?_;rw[ND] at k
    lia
   done:=λq Q E a j=>by
    show BD t a.1 a.2 l (λp g k _ _=>?_) λg _ u=>j g q.toks λb o f e=>u b o (λz=>f (by simp[z])) e;show absurd (Array.getElem?_eq_some_iff.mp k).1 (Nl _)
   self:=λ_ _ _ _ a j=>wpAny_pyIter_keyiter a.1 j },⟨_,Mp _ rfl,rfl,rfl⟩,Mf _ e⟩
theorem pW{o:Obj}{es:Array DictEntry}{Q:List Pn->Pt->Prop}(B:A.handled=Pl)(lo:(d==sysModules)=Po)(e:s.heap.get? d=Pj o)(c:o.cls=.type "dict")(u:o.data=.dict es ep)(t:es.size<=sizeLine)(z:∀h' tk vs,vs=es.toList.map (·.key)->(∀b q,s.heap.get? b=Pj q->h'.get? b=Pj q)->s.heap.objs.size<=h'.objs.size->Q vs { s with heap:=h',toks:=tk }):Pv (Pw prog w) A (collect (.ref d)) Q E s:=by
 let p:d<s.heap.objs.size:=Ml e;unfold collect;show Pq (wpAny_runValue (codeAny_builtin PySem.F.entry_proto_collect ?_));rw[Around.under_plainId PySem.F.plain_proto_collect _];change Pv _ A.in1 (newList [] >>= λl=>again (.builtin "list.__iadd__" ⟨[l,.ref d],[]⟩)) _ _ s;show Pq (PN ?_);show Pu ⟨plainId_quiet PySem.F.plain_list_iadd _,codeAny_builtin PySem.F.entry_list_iadd ?_⟩;rw[Around.under_plainId PySem.F.plain_list_iadd _];change Pv _ A.in1 (Builtin.List.listExtendWith (.ref s.heap.objs.size) (.ref d) (.ref s.heap.objs.size)) _ _ _;let y:(s.heap.push { cls:=.type "list",data:=.seq ([]:List Pn).toArray }).get? s.heap.objs.size=Pj { cls:=.type "list",data:=.seq #[] 0 }:=Mp _ rfl
 show kdl_extend (R:=λr n=>match r with|.ok (.ret v)=>Pv (Pw prog w) A (match v with|.ref a=>do { let o <- load a;match o.data with|.seq xs _=>pure xs.toList|_=>unsupported "internal:collect" }|_=>unsupported "internal:collect") Q E n|.ok _=>False|.error e=>E e n) (s:={ s with heap:=s.heap.push { cls:=.type "list",data:=.seq ([]:List Pn).toArray } }) (A2 (es:=es) (ep:=ep) lo) B ⟨o,Mf _ e,c,u⟩ s.heap.objs.size (Nn p) (Nn p) _ 0 y (λh' tk h H hk j f=>?_) t
 change Pv _ A (load s.heap.objs.size >>= _) _ _ _;show Pq (wpAny_load j ?_);show Pu (z h' tk _ ?_ (λb q k=>hk b q (Mr (Ml k)) (Mf _ k)) (NX (Ml j)));show NF λi=>?_;rw[Mj,Nh,Nh];rcases O1 i es.size with g|g
 ·let m:i<h.size:=by rw[f.1];show g
  obtain⟨D,C,x⟩:=f.2 i h[i] (Ng m);rw[C,Ng m,x];rfl
 ·rw[ND.mpr (by rw[f.1];show g),ND.mpr g];rfl
theorem yz{o:Obj}{es:Array DictEntry}{Q:Pn->Pt->Prop}(D:A.handled=Pl)(lo:(d==sysModules)=Po)(e:s.heap.get? d=Pj o)(c:o.cls=.type "dict")(F:o.data=.dict es ep)(H:Paired (eO s.heap) (es.toList.map (·.key)) ps)(h2:es.size<=2)(I:∀h' tk out l n,((∃x y,es.toList.map (·.key)=[x,y]/\out=(if KH ps=Pm then [y,x] else [x,y]))\/(es.size<2/\out=es.toList.map (·.key)))->(∀b q,s.heap.get? b=Pj q->h'.get? b=Pj q)->s.heap.objs.size<=l->h'.get? l=Pj (seqObj "list" out.toArray n)->Q (.ref l) { s with heap:=h',toks:=tk }) :
  Pv (Pw prog w) A (call (.builtin "sorted") [.ref d]) Q E s:=by
 show Calls.call_function_entry kind_sorted plain_sorted entry_sorted (args_sorted1 _) ?_;unfold Builtin.«sorted»;show Pq (m:=checkCount "sorted" 1 1 _) (Pu ?_);show Pq (pW (by simpa using D) lo e c F (by rw[sizeLine_eq];lia) λg tk K k B i=>?_);subst k;let a:(es.toList.map (·.key)).length=es.size:=by simp
 show Pq (wpAny_newList ?_ (by rw[sizeLine_eq];lia));let f:(g.push (seqObj "list" (es.toList.map (·.key)).toArray 0)).get? g.objs.size=Pj (seqObj "list" (es.toList.map (·.key)).toArray 0):=Mp _ rfl;let j:Paired (eO (g.push (seqObj "list" (es.toList.map (·.key)).toArray 0))) (es.toList.map (·.key)) ps:=Paired.mapP H λ_ _ ⟨b,o,t,u,n,e1,e2,r⟩=>⟨b,o,t,u,n,e1,Mf _ (B _ _ e2),r⟩;show Pq (PP (PX slot_list_sort (s:={ s with heap:=g.push (seqObj "list" (es.toList.map (·.key)).toArray 0),toks:=tk }) ⟨_,f,rfl⟩ entry_list_sort (rO f j (by rw[a];show h2) λout h=>⟨_,rfl,?_⟩) (args_list_sort _)));obtain⟨n,C⟩:=sortedHeap_at (out:=out.toArray) f;show Pu ⟨_,rfl,I _ tk out g.objs.size n (h.imp id λz=>⟨by rw[<- a];show z.1,z.2⟩) (λb q p=>?_) i C⟩;let v:=Mo (Ml p) i;rw[sortedHeap_old (Mr v) (by rw[size_push'];show NP v)];show Mf _ (B _ _ p)
end
section
variable {X:Cx} {pins:List (Ps×Obj)} {Z:St} {H:Hp} {s:Pt}
noncomputable abbrev kP(p:Int×Int):List (aJ ⊕ List aJ):=[.inl (.inl p.1),.inl (.inl p.2)]
noncomputable abbrev pV(p:Int×Int):HO:=.tup [.int p.1,.int p.2]
theorem L5(h:TkAt H m (kP p) b):H b=Pj (pV p):=by
 obtain⟨e,g,r⟩:=h;obtain⟨d,rfl,_,t⟩:=r;obtain⟨a,rfl,_,c⟩:=t;cases(show a=[] from c);show g
theorem A3(f:HOk X.prog X.w H s.heap)(h:H b=Pj (pV p)):eO s.heap (.ref b) p:=by
 obtain⟨_,c,q,o,d,e,n,a⟩:=(show ObjOk X.prog X.w H s.heap b (.tup [.int p.1,.int p.2]) from f b _ h)
 cases q with|cons a1 q=>cases q with|cons a2 q=>
 cases q;obtain⟨t,rfl⟩:=a1;obtain⟨u,rfl⟩:=a2;show⟨b,o,t,u,n,rfl,d,e,a⟩
def KI(ta:TA):TE:=λZ H Q=>ta Z H λvs H1=>∃a m ep kvs ps,vs=[.ref a]/\H1 a=Pj (.dT m ep kvs)/\kvs.map (·.1)=ps.map kP/\kvs.length<=2/\∀p bs r,H1 p=Pl->J.rN ps=Pj r->Paired (λb q=>H1 b=Pj (pV q)) bs r->Q (.ref p) (upd H1 p (.lst (bs.map V.ref)))
theorem EZ{a:Pp}(hc:X.calm=Pm)(hg:Gl X "sorted")(hm:X.mg "sorted" = Pl)(ha:PA X [a] ta)(hs:Py [a] X.env=[(Po,eval a X.env)]):PE X (.Call (.Name "sorted" p) [a] [] pos) (KI ta):=by
 intro D s Z H Q I h;show Call_ (cI I hg hm PyProof.Rows.boot_sorted (PyProof.Rows.callWith_builtin1 (a5 (ha pos D s Z H _ I h) λus s1 ⟨vs,H1,B,r1,a',m,ep,A,g,e,hq,d,h2,q⟩=>?_) hs rfl));subst e;obtain⟨u,rfl,ru⟩:=r1.one;cases(show u=Value.ref a' from ru);obtain⟨hd,O,o,U,j,h1,T,h3,M⟩:=wJ B.hok hq;let hl:U.size=A.length:=by rw[size_of_entries M,Paired.length j]
 let hk:Paired (λx q=>H1 x.2.1=Pj (pV q)) O g:=by
  clear M hl h2 hq q
  induction j generalizing g with
  |nil=>cases g with|nil=>show .nil|cons p g=>simp at d
  |@cons k x ks O h t E=>
   cases g with
   |nil=>simp at d
   |cons p g=>
    rw[Mx,Mx] at d;injection d with e1 e2;show .cons (L5 (m:=m) (by rw[<- e1];show h.2.1)) (E _ e2)
 let c:U.toList.map (·.key)=O.map λx=>Value.ref x.2.1:=by rw[M,MB];rfl
 let hv:Paired (eO s1.heap) (U.toList.map (·.key)) g:=by
  rw[c];clear c M j d q
  induction hk with
  |nil=>show .nil
  |cons h t E=>show .cons (A3 B.hok h) E
 show yz (B.ok.hd hc) hd h1 T.1 h3 hv (by lia) λh' tk W l n f k1 z Y=>?_
 obtain⟨v,r,e1,e2,e3⟩:∃(v:List Ps) (r:List (Int×Int)),W=v.map Value.ref/\J.rN g=Pj r/\Paired (λb q=>H1 b=Pj (pV q)) v r:=by
  rw[c] at f;rcases f with⟨x,y,C,F⟩|⟨hf,F⟩
  ·cases hk with
   |nil=>simp at C
   |@cons N i S P K hk=>cases hk with
    |nil=>simp at C
    |@cons x2 w hh he a2 hk=>cases hk with
     |cons _ _=>simp at C
     |nil=>
      simp only[Mx,OA,List.cons.injEq,and_true] at C;obtain⟨rfl,rfl⟩:=C;let e5:KH [i,w]=J.ll w i:=rfl;by_cases L:J.ll w i=Pm
      ·show⟨[x2.2.1,N.2.1],[w,i],by rw[F,e5,if_pos L];rfl,by change Pj (if J.ll w i=Pm then _ else _)=_;rw[if_pos L],.cons a2 (.cons K .nil)⟩
      ·show⟨[N.2.1,x2.2.1],[i,w],by rw[F,e5,if_neg L];rfl,by change Pj (if J.ll w i=Pm then _ else _)=_;rw[if_neg L],.cons K (.cons a2 .nil)⟩
  ·let R:O.length<2:=by rw[<- Paired.length j];lia
   cases hk with
   |nil=>show⟨[],[],F,rfl,.nil⟩
   |@cons N i S P K hk=>cases hk with
    |nil=>show⟨[N.2.1],[i],F,rfl,.cons K .nil⟩
    |cons _ _=>show absurd R (by simp)
 subst e1;show⟨.ref l,_,B.laid (t':=tk) (a:=l) (o:=.lst (v.map V.ref)) k1 z ?_,rfl,q l v r (B.hok.fresh z) e2 e3⟩;show⟨?_,v.map Value.ref,n,?_,by simpa using Y⟩
 ·have:=Paired.length e3;let h5:g.length=A.length:=by have:=congrArg NJ d;simpa using this.symm
  let h6:r.length<=2:=by
   match g,e2 with
   |[],e2=>cases e2;show ML _
   |[_],e2=>cases e2;show Np 1
   |[p,q],e2=>
    let e2:Pj (if J.ll q p=Pm then [q,p] else [p,q])=Pj r:=e2
    cases e2
    split<;>show Mi _
   |_::_::_::_,e2=>cases e2
  rw[Mh,sizeLine_eq]
  lia
 ·clear e2 e3 Y q f
  induction v with
  |nil=>show .nil
  |cons b v E=>show .cons rfl E
end
open PySem PySem.Spec PySem.W PyProof.Rows
section
variable {X:Cx}
def L6(ta:TA):TE:=λZ H Q=>ta Z H λvs H1=>∃v a kvs,vs=[.ref v]/\H1 v=Pj (.ext (AW v a))/\H1 a=Pj (.dK kvs)/\∀p,H1 p=Pl->Q (.ref p) (upd H1 p (.lst (kvs.map (·.2))))
theorem HV{a:Pp}(F:X.calm=Pm)(M:Gl X "list")(N:X.mg "list" = Pl)(S:PA X [a] ta)(L:Py [a] X.env=[(Po,eval a X.env)]):PE X (.Call (.Name "list" p) [a] [] pos) (L6 ta):=by
 intro d s Z H Q I h;show Call_ (cI I M N boot_list (PyProof.Rows.callWith_type1 (a5 (S pos d s Z H _ I h) λus s1 ⟨j,B,f,T,v,R,kvs,e,K,y,q⟩=>?_) L rfl));subst e;obtain⟨u,rfl,D⟩:=T.one;cases(show u=Value.ref v from D);obtain⟨P,_,_⟩:=(show ObjOk X.prog X.w B s1.heap v (.ext (AW v R)) from f.hok v _ K);obtain⟨z,W,j,l,x⟩:=lV f.hok y;obtain⟨ep,r⟩:=x.dictAt;let m:j.length=kvs.length:=l.length.symm;show kdl_call (kdl_values (kvs:=j) (ep:=ep)) (f.ok.hd F) ⟨P,r⟩ (by lia) λY A b U C O c=>?_;show⟨.ref s1.heap.objs.size,_,f.laid (t':=A) (a:=s1.heap.objs.size) (o:=.lst (kvs.map (·.2))) C (Mi _) ⟨by rw[Mh];show z,b.toList,U,?_,by simpa using O⟩,rfl,q _ (f.hok.fresh (Mi _))⟩
 let e1:b.toList=j.map (·.2):=by
  show NF λi=>?_;rw[Mj,Nh];rcases O1 i j.length with g|g
  ·let n:i<b.size:=by rw[c.1];show g
   obtain⟨k,V⟩:=c.2 i b[i] (Ng n);rw[V,Ng n];rfl
  ·rw[ND.mpr (by rw[c.1];show g),MY g];rfl
 rw[e1];clear r x e1 m q y c z
 induction l with
 |nil=>show .nil
 |cons h t E=>show .cons h.2 E
def rP(v a:Ps):PD->Prop:=λh=>h.IsItemsView v a
def uf:V->List V->Hp->VK->Prop:=λx xs H Q=>∃a,x=.ref a/\xs=[]/\H a=Pj (.dK [])/\∀v,H v=Pl->Q (.ref v) (upd H v (.ext (rP v a)))
theorem yA:FB X "dict.items" uf:=by
 intro b s Z H x n v m Q I r g h;obtain⟨a,rfl,rfl,e,q⟩:=h;cases g;cases(show v=Value.ref a from r);obtain⟨z,d,j,f,c⟩:=lV I.hok e;let i:s.TypeIs (.ref a) "dict":=c.typeIs;show call_meetsIn F.slot_dict_items i F.entry_dict_items (F.args_dict_items_1 _) (meets_dict_items (aG X.prog X.w) a d) ⟨⟨j,c⟩,?_⟩;show⟨.ref s.heap.objs.size,_,I.laid (a:=s.heap.objs.size) (o:=.ext (rP s.heap.objs.size a)) (t':=s.toks) (λ_ _ q=>Mf _ q) (Mi _) ?_,rfl,q _ (I.hok.fresh (Mi _))⟩;show⟨⟨_,Mp _ rfl,rfl,rfl⟩,⟨_,Mp _ rfl⟩,λp l ⟨o,e1,e2⟩ k=>⟨o,k o e1,e2⟩⟩
noncomputable def Jm(a:Ps)(ob:Obj):It:=⟨λ_ _=>False,λ_ _ _ _=>False,λ_ H=>H a=Pj (.frz ob (.dK []))⟩
theorem vA{P:Px}{w:PB}{K:Md}{tg:Pp}{ep:Nat}{ob:Obj}{es:Array DictEntry}(a it:Ps)(j:ob.data=.dict es ep):ql P w K tg (Jm a ob) [it] it (λi h=>∃d f,IsItemIter h it a 0 0 ep d f) where
 mem:=by simp
 obj:=λi h c b g=>by
  let e:b=it:=by simpa using g
  subst e;obtain⟨d,f,e⟩:=c;show⟨_,e,λv z=>by cases z⟩
 keep:=λi h t c k=>by
  obtain⟨d,f,e⟩:=c;show⟨d,f,k it (by simp) _ e⟩
 item:=λ_ _ _ _ _ _ _ _ _ _ _ _ _ _ m=>m.elim
 done:=by
  intro X A F u D i n s Z H E I M c m;subst A F u;obtain⟨d,f,c⟩:=c;obtain⟨O,z,T,W,l,C⟩:=(show ObjOk X.prog X.w H s.heap a (.frz ob (.dK [])) from I.hok a _ m);obtain⟨B,q⟩:=C.dictAt;obtain⟨Y,R,r,U,p,V⟩:=id q;rw[O] at r;cases r;rw[j] at p;cases p;cases l;obtain⟨y,S,f2,x,N,L⟩:=M it (by simp);show wpAny_pyNext_items_end (I.ok.hd D) c q rfl λt Q=>⟨rfl,I.turned (t':=s.toks) (λb o g e=>Q b o g e) y S x N L⟩
 self:=λ_ _ _ _ _ c h=>by
  obtain⟨d,f,c⟩:=c;show kcp_self c h
abbrev yB(R:It->Hp->Prop):VK:=λy H2=>∃v a,y=.ref v/\H2 v=Pj (.ext (rP v a))/\H2 a=Pj (.dK [])/\∀ob,R (Jm a ob) (upd H2 a (.frz ob (.dK [])))
def HW(K:Md)(tl:TE):TI:=λZ H R=>Gz K "dict" uf tl Z H (yB R)
theorem A4{K:Md}{a:Ps}{H:Hp}{R:It->Hp->Prop}(e:H a=Pj (.dK []))(q:∀v ob,H v=Pl->R (Jm a ob) (upd (upd H v (.ext (rP v a))) a (.frz ob (.dK [])))):Jb K "dict" (.ref a) H/\uf (.ref a) [] H (yB R):=
 ⟨.inr ⟨rfl,[],e⟩,a,rfl,rfl,e,λv b=>⟨v,a,rfl,ak,by rw[ah (λz=>by rw[z,b] at e;cases e)];show e,λob=>q v ob b⟩⟩
theorem A5{tg l:Pp}{tl:TE}{ap cp:Pos}(A:PE X l tl)(f:attributeBase l "items" X.env (eval l X.env)=eval l X.env)(d:(ap.endLine==cp.line)=Pm):PI X tg (.Call (.Attribute l "items" ap) [] [] cp) (HW X.K tl):=by
 intro c s Z H R I h;show a5 (qG (T:="dict") (r:=uf) F.plainAttrs_dict F.slot_dict_items F.type_dict_items yA A f d c s Z H (yB R) I h) λy s1 ⟨x,k,g,P,v,a,O,L,n,q⟩=>?_;subst O;cases(show y=Value.ref v from P);obtain⟨M,_,_⟩:=(show ObjOk X.prog X.w k s1.heap v (.ext (rP v a)) from g.hok v _ L);obtain⟨z,S,W,j,D⟩:=lV g.hok n;cases j;obtain⟨u,m⟩:=D.dictAt;obtain⟨p,N,t,U,C,V⟩:=id m;show wpAny_pyIter_items M m ?_;let Q:Inv X c Z k { s1 with heap:=s1.heap.push { cls:=.type "dict_itemiterator",data:=.fields #[.none,.bool Po,.ref a,.int 0 0,.int 0 0,.int u 0,.none,.none] } }:=g.kept (t':=s1.toks) λb o e=>Mf _ e
 let E:=Q.frz n (ob:=p) (Mf _ t) (λ_ z=>nomatch z) (λ_ _ z=>nomatch z) (λ_ z=>nomatch z) (λ_ z=>nomatch z)
 show⟨s1.heap.objs.size,[s1.heap.objs.size],_,_,_,rfl,E,vA a _ C,⟨.none,.none,Mp _ rfl⟩,λb B=>?_,q p⟩;let e:b=s1.heap.objs.size:=by simpa using B
 subst e;let i:s1.heap.objs.size≠a:=λw=>Nl _ (by have:=Ml t;rw[<- w] at this;show this);show g.fpOk (Mi _) ?_;rw[ah i];show g.hok.fresh (Mi _)
end
end L2
namespace J
theorem E1(h:FM k=Pj p):k=.inr (kP p):=by
 unfold FM at h;split at h
 ·cases h;rfl
 ·cases h
theorem yC:∀{ks:List DK} {ps:List (Int×Int)},vp ks=Pj ps->ks=ps.map λp=>.inr (kP p)
 |[],ps,h=>by cases h;rfl
 |k::ks,ps,h=>by
  unfold vp at h
  cases hk:FM k with
  |none=>rw[hk] at h;cases h
  |some p=>
   rw[hk] at h
   cases a:vp ks with
   |none=>rw[a] at h;cases h
   |some b=>
    rw[a] at h;cases h;rw[E1 hk,yC a];rfl
theorem mq{m:Nat}{ps:List (Int×Int)}(h:cR K o (.dic (m+1) ks) xs)(e:vp ks=Pj ps):∃(kvs:List (List (aJ ⊕ List aJ)×V)) (ep:Nat),o=.dT m ep kvs/\kvs.map (·.1)=ps.map kP/\ks=kvs.map (λp=>Sum.inr p.1)/\xs=kvs.map (·.2):=by
 rcases h with⟨z,_⟩|⟨b,z,kvs,ep,rfl,e1,e2⟩
 ·cases z
 ·cases z;show⟨kvs,ep,rfl,?_,e1,e2⟩;have:=yC e;rw[e1] at this
  let a:=congrArg (N7 λk:DK=>match k with|.inr l=>l|.inl _=>[]) this
  rw[MB,MB] at a;show a
section
variable {X:Cx} {U:Tab} {c:Cz}
theorem ug{a:Pp}(b:ae a=Pm):Py [a] env=[(Po,eval a env)]:=(ai b).trans rfl
theorem B9(O:am X U c){f:Ro->Option KD}{a:Pp}(D:f7 c.sc "dict" = Pm)(s:ae a=Pm)(C:SndE X f a):SndE X (λY=>pS (f Y)) (.Call (.Name "dict" p) [a] [] pos):=by
 intro Y P d h g Z H Q u q;dsimp only at h;unfold pS at h;split at h
 ·ext k m t z e;obtain⟨⟨B,hk,L⟩,e2⟩:=uZ h;cases e2;unfold pR at hk;split at hk
  ·ext A j;let y:=of_decide_eq_true hk;show ao (EW (cC O D) (O.tab.bl _ (by simp[aA])) cU (ug s)) (fP s C jV Y [(k,.nd (.dic (m+1) t) z)] (by change ck (f Y) _=_;rw[e];rfl) g Z H _ u λN M s1 K=>?_);obtain⟨v,rfl,r⟩:=VRs.one K;obtain⟨a,o,R,rfl,E,F,w⟩:=r.items B u.mu s1;obtain⟨b,x,rfl,e3,e4,I⟩:=mq F j;show⟨a,m,x,b,rfl,E,?_,λl n i=>q _ _ (s1.trans (ag i)) ((Ha (hd:=.dic (m+1) t) rfl (.inr ⟨m,rfl,b,n,rfl,e4,I⟩) i w).older s1)⟩
   have:(b.map λp=>(bE m (aG X.prog X.w)).hash p.1)=A.map hs2:=by
    have:=congrArg (N7 λk=>(bE m (aG X.prog X.w)).hash k) e3;rw[MB,MB] at this;show this
   rw[this];show y
  ·cases hk
 ·cases h
theorem A6{H:Hp}(m:MuOk H S)(h:H b=Pj (pV q)):Rp K H S (pD q) (.ref b):=by
 unfold pD Rp;show⟨b,_,_,rfl,λz=>?_,h,rfl,.cons (by unfold Rp;rfl) (.cons (by unfold Rp;rfl) .nil)⟩;obtain⟨o,e,n⟩:=m b z;rw[h] at e;cases e;show n _ rfl
theorem HX(O:am X U c){f:Ro->Option KD}{a:Pp}(I:f7 c.sc "sorted" = Pm)(x:ae a=Pm)(F:SndE X f a):SndE X (λY=>vq (f Y)) (.Call (.Name "sorted" p) [a] [] pos):=by
 intro Y kd d h g Z H Q z q;dsimp only at h;unfold vq at h;split at h
 ·ext k m y B e
  cases b:vp y with
  |none=>rw[b] at h;cases h
  |some s=>
   rw[b] at h
   cases i:rN s with
   |none=>rw[MZ,i] at h;cases h
   |some r=>
    rw[MZ,i] at h;cases h;show ao (EZ O.calm (cC O I) (O.tab.bl _ (by simp[aA])) cU (ug x)) (fP x F jV Y [(k,.nd (.dic (m+1) y) B)] (by change ck (f Y) _=_;rw[e];rfl) g Z H _ z λW T s1 M=>?_);obtain⟨v,rfl,N⟩:=VRs.one M;obtain⟨a,o,xs,rfl,_,K,L,w⟩:=N.rd.nd;obtain⟨j,A,rfl,e3,e4,e5⟩:=mq L b;let R:j.length=s.length:=by have:=congrArg NJ e3;simpa using this
    let S:s.length<=2:=by
     match s,i with
     |[],_=>show ML _
     |[_],_=>show Np 1
     |[_,_],_=>show Mi _
     |_::_::_::_,i=>cases i
    show⟨a,m,A,j,s,rfl,K,e3,by lia,λl P V u n C=>?_⟩;rw[i] at n;cases n;show q _ _ (s1.trans (ag u)) ((kA u ?_).older s1);let E:=z.mu.same s1;clear i q
    induction C with
    |nil=>show .nil
    |cons h t D=>show .cons (A6 E h) D
 ·cases h
theorem KJ(O:am X U c){f:Ro->Option KD}{p ap cp pos:Pos}(B:f7 c.sc "list" = Pm)(u:dG a=Pm)(t:(ap.endLine==cp.line)=Pm)(A:SndE X f a):SndE X (λY=>KC (f Y)) (.Call (.Name "list" p) [.Call (.Attribute a "values" ap) [] [] cp] [] pos):=by
 intro Y K d h g Z H Q s q;dsimp only at h;unfold KC at h;split at h
 ·ext k M E e;obtain⟨⟨y,I⟩,e2⟩:=uZ h;cases e2;show ao (HV O.calm (cC O B) (O.tab.bl _ (by simp[aA])) (bf (qG (T:="dict") (r:=B2) F.plainAttrs_dict F.slot_dict_values F.type_dict_values vm au (cX u) t) de rfl) rfl) (A Y _ _ e g Z H _ s λv n s1 D=>?_);obtain⟨a,o,L,rfl,j,C,w⟩:=D.items y s.mu s1;rcases C with⟨_,b,rfl,e3,e4⟩|⟨m,z,_⟩
  ·show⟨.inr ⟨rfl,b,j⟩,a,b,rfl,rfl,j,λv x=>?_⟩;let s2:Same n (upd n v (.ext (AW v a))):=ag x;show⟨v,a,b,rfl,ak,s2 _ _ j,λl i=>q _ _ (s1.trans (s2.trans (ag i))) ((kA i ?_).older (s1.trans s2))⟩;rw[<- e4];show w.same s2
  ·cases z
 ·cases h
theorem KL:i0 K (Jm a ob) (.ob a (.frz ob (.dK [])) [] []) []:=by
 rintro i g H ⟨c,_⟩ m
 show⟨λ_=>c,λd b=>by simp at b⟩
theorem HY(O:am X U c){x:Str}{i:Nat}{tg:Pp}{p ap cp:Pos}(T:e7 c x=Pj i)(s:attributeBase (.Name x p) "items" X.env (eval (.Name x p) X.env)=eval (.Name x p) X.env)(l:(ap.endLine==cp.line)=Pm):jD X (EV i) tg (.Call (.Attribute (.Name x p) "items" ap) [] [] cp):=by
 intro Y bs ds Y1 h g Z H R y q;unfold EV at h;split at h
 ·ext e;cases h;obtain⟨v,F0,e1,e2,e3⟩:=y.slot i _ e;unfold Tr at e3;obtain⟨a,o,xs,F',rfl,W,L,m1,m2,N,ha⟩:=e3;rcases L with⟨_,A,rfl,P,rfl⟩|⟨m,M,_⟩
  ·let D:A=[]:=N0.mp (by have:=congrArg NJ P;simpa using this.symm);subst D;let w:g a=Pj (Pj i):=e2 a ((N a).mpr (.inl ⟨rfl,rfl⟩))
   let u:∀(j:Nat) (r:Sl),(Y.set i Pl)[j]?=Pj (Pj r)->j≠i:=λj r k z=>by
    subst z;cases((MK (Nat.lt_of_lt_of_eq (Mg.mp k).1 NM)).symm.trans k)
   show ku (A5 au s l) (fX O T p e1 (A4 W λv B V=>?_));let nv:∀b o,H b=Pj o->b≠v:=λb o e z=>by rw[z,V] at e;cases e
   let d:∀b o,b≠a->H b=Pj o->upd (upd H v (.ext (rP v a))) a (.frz B (.dK [])) b=Pj o:=λb o n e=>by rw[ah n,ah (nv b o e)];show e
   let C:SE X.K g (Y.set i Pl) Z (upd (upd H v (.ext (rP v a))) a (.frz B (.dK []))):=by
    show⟨λj r k=>?_,λb z=>?_,by rw[NM];show y.len⟩
    ·let E:=u j r k;rw[MG (Ne.symm E)] at k;obtain⟨Q,F,q1,I,S⟩:=y.slot j r k;show⟨Q,F,q1,I,S.go (λb o f e=>d b o (λz=>?_) e) λb o _ n=>n⟩;subst z;rcases f with f|f
     ·show f (by rw[Sg,w];simp)
     ·have:=I b f;rw[w] at this;cases this;show E rfl
    ·obtain⟨o,e,n⟩:=y.mu b z;by_cases f:b=a
     ·subst f;show⟨_,ak,λxs z=>nomatch z⟩
     ·show⟨o,d b o f e,n⟩
   let t:=xK (i:=i) (F:=λ_=>False) (Y':=Y.set i Pl) C (λ_ z=>z.elim) rfl λj r k=>.inl ⟨u j r k,k⟩;rw[aW λ_ z=>z] at t;show q _ (.ob a (.frz B (.dK [])) [] []) (g.off i) _ ⟨λb o n e=>d b o (λz=>n i (z▸w)) e,λb=>((tD (H:=H) (F:=λ_=>False) (i:=i) (g:=g) λ_ z=>z.elim).out b),λb j z=>.inl ⟨j,(kY z).1⟩,λ_ z=>z.elim,λb o e=>?_⟩ t KL ⟨ak,.nil⟩ (.inl (xJ w));by_cases f:b=a
   ·subst f;show⟨_,ak⟩
   ·show⟨o,d b o f e⟩
  ·cases M
 ·cases h
end
def yD(q m:Str)(i:Nat)(B:Fm)(fr:Ro->Option (List RA×Ro))(Y:Ro):MR:=match Y[i]? with
 |some (Pj ⟨Po,_,.nd (.obj c ns) _⟩)=>if c=q/\ns.contains m=Po then Az (Pj B) (l8 i Y[i]? (fr Y)) else Pl
 |_=>Pl
theorem Ca{X:Cx}(O:am X U c){p ap pos:Pos}{es:List Pp}(hc:e7 c x=Pj i)(S:M6 X.K PF cn=Pj (Pj (.ref C)))(cl:Cls X.K C)(mt:om X.K C m f)(F:FnOk X.prog X.w X.K X.mg X.base iS k f fd ps (u9 X.K B))(N:Room k X.A)(V:Binds X.K fd ps [])(l:dG (.Name x p)=Pm)(T:(ap.endLine==pos.line)=Pm)(D:ae e=Pm)(z:es.all ae=Pm)(u:(e::es).length<30)(ha:gr X fr (e::es)):bh X (yD cn m i B fr) (.Call (.Attribute (.Name x p) m ap) (e::es) [] pos):=by
 intro Y kd d Y' h g Z H Q L q;unfold yD at h;split at h
 ·ext k0 c0 ns he n;by_cases b:c0=cn/\ns.contains m=Po
  rotate_left
  ·rw[if_neg b] at h;cases h
  rw[if_pos b] at h;obtain⟨rfl,s⟩:=b;obtain⟨v0,F0,e1,e2,e3⟩:=L.slot i _ n;obtain⟨a,o,xs,rfl,_,ga,P,w⟩:=e3.rd.nd;obtain⟨C',dx,M,_,rfl,I⟩:=P;rw[S] at M;cases M;show ao (si (E:=E0) (ta:=wE X (.Name x p)) (t:=wA X (e::es)) au cl mt F N V .nil ki cU (ai D) (bF z) (sP (cX l) (by rw[No,D,z];rfl) T u)) (fX O hc p e1 ⟨a,dx,_,rfl,ga,qZ s,?_⟩)
  cases y:fr Y with
  |none=>rw[y,n] at h;cases h
  |some pr=>
   obtain⟨j,R⟩:=pr;rw[y,n] at h;show ha Y j R y g Z H _ L λvs g' H' F' W v r=>?_;rw[M5];show tw h W v ⟨.ref a,vs,rfl,e1,r⟩ q
 ·cases h
structure Cb(P:Program)(w:World)(K:Md)(mg:Str->Option Value)(base:Heap)(k:Nat)(X:Cx):Prop where
 prog:X.prog=P
 w:X.w=w
 K:X.K=K
 mg:X.mg=mg
 base:X.base=base
 room:Room k X.A
section
variable {P:Px} {w:PB} {K:Md} {mg:Str->Option Pn} {base:PD} {fns:Nms} {U:GG} {x y z qual:Str} {st:Pz} {f C:Ps} {fd:PL} {N ps:List Str} {k n M i:Nat} {an:An} {body:bw}
theorem yE(F:Fun K x qual st f fd)(S:a7 N ps (ab st))(T:TabF P w K mg base (a8 fns U) k)(C:∀X:Cx,am X (a8 fns U) ⟨ab st,N,λ_=>Pm⟩->PassesOwn (Pw X.prog X.w) X.A X.env X.xe->Cb P w K mg base k X->a6 X pn fb (aC st)) :
  FnOk P w K mg base iS (k+1) f fd ps (u9 K (lm fb ps.length N.length pn)):=by
 let hN:ps.length<=N.length:=by
  have:=congrArg NJ S.pre;rw[MJ] at this
  lia
 show F.ok S (λn H Q E h=>?_) (λB A b s H n Q E I h=>?_)
 ·obtain⟨R,g,k',d,W,y,a,q⟩:=h;unfold lm at a;split at a
  ·ext p;have:=y.len;simp only[Mh] at this;rw[<- this,p]
  ·cases a
 ·obtain⟨R,g,k',d,W,y,a,q⟩:=h;unfold lm at a;split at a
  ·ext p;let L:R.length=n.length:=by simpa using y.len
   let O:am (ly iS P w K mg base N qual (ab st) f B A b s H E).nox (a8 fns U) ⟨ab st,N,λ_=>Pm⟩:=
    ⟨rfl,rfl,λ_ _=>rfl,rfl,S.nd,T.ok I⟩
   let o:=nB (N:=N) y (by rw[p];show hN);let M:a6 _ pn fb (aC st):=C _ O PassesOwn.never ⟨rfl,rfl,rfl,rfl,rfl,I⟩
   let t:∀{l:Gh} {m:Hp} {F:Pr} {r:L2.St} {u:Ro},SE K (l.plus F) u r m->PinOk pn (bO N n) r->SE K (l.plus F) ((outs ps.length pn u).map BM) (n.map Pj) m:=λ{l m F r u} s1 pk=>by
    show⟨λj Z e=>?_,s1.mu,by simp[pI,<- L,p]⟩;obtain⟨h1,Y,h3⟩:=mi e;obtain⟨v,V,q1,q2,q3⟩:=s1.slot j Z h3;show⟨v,V,by rw[<- q1,pk j Y,jh (by rw[<- L,p];show h1)],q2,q3⟩
   show⟨_,fy,?_⟩;unfold gy at a;split at a
   ·ext k2 d2 Y2 c;split at a
    ·cases a
    ·ext hb;cases a;show M _ _ c _ (bO N n) H _ o λv r l m F D i pk vr=>q v l m F D (t i pk) vr
   ·ext u c;cases a;show M _ _ c _ (bO N n) H _ o λr l m D i pk=>q .non l m jX D (t (by rw[aW λ_ z=>z];show i) pk) ⟨λ_ z=>z,by unfold Rp;rfl⟩
   ·cases a
  ·cases a
theorem TabF.addCX{ψ:Fn}(T:TabF P w K mg base (a8 fns U) k)(d:FnOk P w K mg base iS (k+1) f fd ps (u9 K B))(b:Mk K C f)(j:Cls K C)(h:M6 K PF x=Pj (Pj (.ref C)))(g:mg x=Pj (.ref C))(e:Binds K fd ps [])(hd:(x==("__debug__":Str)||oO x)=Po)(hi:fns.fns[i]?=Pj x)(a:∀ds,Le (ψ ds) (yd (.own es r0) x B ds)):TabF P w K mg base (a8 fns (U.addI i ψ)) (k+2):=by
 rw[NU] at hd;show T.up.up.put hi ?_;unfold rF;rw[if_neg (by rw[hd.2];show Mz)];show .inr ⟨k+1,C,f,fd,ps,_,Mi _,b,d,g,e,hd.1,λc H Q s=>AX h j c H Q (nC a s)⟩
theorem TabF.addHX{ψ B:Fn}(T:TabF P w K mg base (a8 fns U) k)(l:FnOk P w K mg base iS (k+1) f fd ps (l5 K B))(m:M6 K PF (mC z)=Pj (Pj (.ref C)))(j:Cls K C)(c:om K C (mM z) f)(d:Binds K fd ps [])(g:oO z=Pm)
  (hi:fns.fns[i]?=Pj z) (hψ:∀a,Le (ψ a) (vn z B a)):TabF P w K mg base (a8 fns (U.addI i ψ)) (k+1):=by
 show T.up.put hi ?_;unfold rF;rw[if_pos g]
 let b:∀a r,ψ a=Pj r->FD (mC z) (mM z) a=Pm/\B a=Pj r:=λa r e=>by
  have:=hψ a r e;unfold vn at this;split at this
  ·ext h;show⟨h,this⟩
  ·cases this
 show⟨C,f,fd,ps,m,j,c,l.imp λn H Q E s=>nC (λa r e=>(b a r e).2) s,d,λa r e=>(b a r e).1⟩
end
end J
section
open PySem L2 J
local macro_rules | `(tactic| walk_at "fsc")=>`(tactic| show ⟨rfl,rfl,rfl,by nofun,rfl,by nofun,by nofun⟩)
local macro_rules | `(tactic| walk_at "bnd")=>`(tactic| show λ_ _ _ _ _ _=>by first | show J.KA (λ_=>rfl) | show J.us2 (λ_ _=>rfl) | show J.HQ (λ_ _ _=>rfl) | show J.Jl (λ_ _ _ _=>rfl) | show J.Lz (λ_ _ _ _ _=>rfl))
namespace K42
open PySem L2 J
noncomputable abbrev nL(i:Int):IE:=.lit (.int i)
noncomputable def ge(i:Nat):Pz:=PySem.Challenge.pw_gatepapers_k42_a_circuit_and_itself.main.body.getD i (.Pass ⟨0,0,0,0⟩)
noncomputable def fns:Nms:=⟨((["is_whole","is_below","bits_of","is_table","is_tuple","places_in","all_trials","column_of","column_told","is_spot","looked","is_paper","is_helper","is_statement","hangs_on_no_in","holds_first","holds_now","holds_next","trials_by","bits_by_free","bits_by_given","_law_mixed","_law_state","_law_take","_law_gates","_law_circuit","_law_paper","_law_case","_law_turned","_law_full"]:List Str)++(["law","Ground.put_circuit","Ground.all_below","Ground.reckoned","Ground"]:List Str)),[("MOST_PLACES",.int 3),("MOST_FREE",.int 8)],λl c=>match l,c with|111,91=>Pj (.own [] .fz)|124,50=>Pj (.own [] .fz)|148,11=>Pj (.own [] .fz)|180,11=>Pj (.own [.own [] .fz] .fz)|43,21=>Pj (.own [] .fz)|44,22=>Pj (.own [] .fz)|45,22=>Pj (.own [] .fz)|60,16=>Pj (.own [] .fz)|_,_=>Pl,λl c=>match l,c with|145,12=>Pj Pm|158,12=>Pj Pm|170,11=>Pj Pm|198,11=>Pj Pm|207,22=>Pj Pm|207,33=>Pj Pm|207,50=>Pj Pm|213,16=>Pj Pm|213,27=>Pj Pm|222,52=>Pj Pm|228,52=>Pj Pm|78,15=>Pj Pm|_,_=>Pl,λi=>match i with|23=>Pj [Pm,Po]|24=>Pj [Pm,Po,Po]|25=>Pj [Pm,Po,Po,Po,Po]|31=>Pj [Pm,Po,Po]|_=>Pl,λ_ _=>[],[("Ground",["gates","begins","afters"])]⟩
noncomputable def an:An:=⟨λl=>match l with|34=>[4]|142=>[10,12,13]|150=>[5,6,7,8,9]|153=>[9]|161=>[6]|167=>[8,7]|192=>[4,5,6]|225=>[2,3,4,5,6]|53=>[8,9]|56=>[7,10,11]|62=>[5]|72=>[5]|_=>[],λ_=>[],λ_=>Po,λl=>match l with|46=>Pm|47=>Pm|68=>Pm|71=>Pm|129=>Pm|165=>Pm|166=>Pm|167=>Pm|49=>Pm|102=>Pm|138=>Pm|143=>Pm|144=>Pm|162=>Pm|163=>Pm|164=>Pm|168=>Pm|169=>Pm|_=>Po⟩
abbrev s0:Pz:=ge 1
section
local macro_rules|`([])=>`(.nil)|`([$a])=>`(.cons $a .nil)|`([$a,$b,*])=>`(.cons $a [$b,*])|`(↑$a)=>`(.var $a)|`(($a:num))=>`(nL $a)
noncomputable def b0:bw:=[.ret (.p (.bool .And [.isi "int" ↑0,.not (.isi "bool" ↑0)]))]
abbrev s1:Pz:=ge 2
noncomputable def b1:bw:=[.ret (.p (.bool .And [.fn 0 [↑0],.chain .LtE .Lt (0) ↑0 ↑1]))]
abbrev s2:Pz:=ge 3
noncomputable def b2:bw:=[.ret (.p (.comp .fz [Pl,Pl,Pj 0] (.nm 1) (.rng (0) ↑1) .non (.bin .BitAnd (.bin .RShift ↑2 ↑1) (1))))]
abbrev s4:Pz:=ge 8
noncomputable def b4:bw:=[.ret (.p (.bool .And [.isi "tuple" ↑0,.cmp .Eq (.blt "len" [↑0]) ↑1]))]
abbrev s5:Pz:=ge 9
def b5:bw:=[.ret (.p (.bin .Add (.bin .Add (.ix ↑0 (0)) (.blt "len" [.ix ↑0 (1)])) (.blt "len" [.ix ↑0 (2)])))]
abbrev s6:Pz:=ge 11
def b6:bw:=[.ret (.p (.bin .Sub (.bin .LShift (1) (.bin .LShift (1) ↑0)) (1)))]
abbrev s7:Pz:=ge 12
def b7:bw:=[.asg 2 (.p (.bin .LShift (1) ↑0)),.asg 3 (.p (.bin .LShift (.fn 6 [↑0]) ↑2)),.asg 4 (.p (.bin .Add ↑2 ↑2)),.wh [] (.p (.cmp .Lt ↑4 (.bin .LShift (1) ↑1))) [.aug 3 .BitOr (.p (.bin .LShift ↑3 ↑4)),.aug 4 .Add (.p ↑4)],.ret (.p ↑3)]
abbrev s8:Pz:=ge 13
def b8:bw:=[.asg 3 (.p (.comp .fz [Pl,Pl,Pj 2] (.nm 1) (.e (.fn 2 [↑0,.bin .LShift (1) (.blt "len" [↑1])])) .non (.bin .Mult ↑2 ↑1))),.fo [4] (.nm 4) (.p (.e ↑1)) [.asg 3 (.p (.comp .fz [Pl,Pl,Pl,Pj 4] (.tp [.nm 1,.nm 2]) (.zp (.stp ↑3 .non (2)) (.stp ↑3 (.som (1)) (2))) .non (.bin .BitXor ↑1 (.bin .BitAnd (.bin .BitXor ↑1 ↑2) ↑3))))],.ret (.p (.ix ↑3 (0)))]
abbrev s9:Pz:=ge 15
def b9:bw:=[.ret (.p (.bool .And [.fn 4 [↑0,(2)],.fn 1 [.ix ↑0 (0),(3)],.fn 1 [.ix ↑0 (1),.ix ↑1 (.ix ↑0 (0))]]))]
abbrev LA:Pz:=ge 19
def KM:bw:=[.ifs (.p (.bool .Or [.cmp .NotEq (.ix ↑0 (0)) (.ix ↑1 (0)),.cmp .NotEq (.blt "len" [.ix ↑0 (3)]) (.blt "len" [.ix ↑1 (3)])])) [.ret (.p (.lit (.bl Po)))] [],.ifs (.p (.not (.fn 11 [↑0,↑1,↑2]))) [.ret (.p (.lit (.bl Po)))] [],.unp [3,4,5,6] (.p ↑2),.asg 7 (.p (.fn 34 [↑0,↑1,↑3])),.asg 8 (.p (.bin .Add (.comp .fz [Pl,Pl] (.nm 1) (.rng (0) (.ix ↑0 (0))) .non (.tup .fz [.tup .fz [(0),↑1],.tup .fz [(1),↑1]])) (.comp .fz [Pl,Pl] (.nm 1) (.e (.bin .Add ↑4 ↑5)) .non (.sl ↑1 .non (.som (2)))))),.asg 9 (.p (.comp .fz [Pl,Pl,Pl] (.tp [.nm 1,.nm 2]) (.zp (.ix ↑0 (3)) (.ix ↑1 (3))) .non (.tup .fz [.tup .fz [(0),↑1],.tup .fz [(1),↑2]]))),.ret (.p (.bool .And [.cmp .Eq (.comp .fz [Pl,Pl,Pj 8] (.nm 1) (.e ↑6) .non (.ix ↑2 ↑1)) ↑9,.blt "all" [.comp .fz [Pl,Pl,Pl,Pj 7] (.nm 1) (.e ↑4) .non (.fn 14 [↑3,↑1])],.blt "all" [.comp .fz [Pl,Pl,Pl,Pj 7] (.nm 1) (.e ↑4) .non (.fn 15 [↑3,↑1])],.blt "all" [.comp .fz [Pl,Pl,Pl,Pj 7,Pj 8] (.nm 1) (.e ↑5) .non (.fn 16 [↑3,↑4,↑1])],.blt "all" [.comp .fz [Pl,Pl,Pl,Pj 7,Pj 8] (.nm 1) (.e ↑4) .non (.fn 17 [↑3,↑4,↑1])]]))]
abbrev LB:Pz:=ge 20
def KN:bw:=[.ifs (.p (.bool .Or [.not (.fn 4 [↑2,(4)]),.not (.blt "all" [.comp .fz [Pl,Pl,Pl,Pl] (.nm 1) (.e ↑2) .non (.isi "list" ↑1)])])) [.ret (.p (.lit (.bl Po)))] [],.unp [3,4,5,6] (.p ↑2),.asg 7 (.p (.lst (.own [] .fz) [.fn 5 [↑0],.fn 5 [↑1],.blt "len" [↑3]])),.asg 8 (.p (.bin .Add (.ix ↑0 (0)) (.blt "len" [↑4]))),.asg 9 (.p (.bin .Add ↑8 (.blt "len" [↑5]))),.ret (.p (.bool .And [.blt "all" [.comp .fz [Pl,Pl,Pl,Pl,Pj 7] (.tp [.nm 1,.nm 2]) (.enm ↑3) .non (.fn 12 [↑2,.bin .Add (.sl ↑4 .non (.som (2))) (.lst (.own [] .fz) [↑1])])],.blt "all" [.comp .fz [Pl,Pl,Pl,Pj 9,Pj 7] (.nm 1) (.e ↑4) .non (.fn 13 [↑1,↑4,↑3])],.blt "all" [.comp .fz [Pl,Pl,Pl,Pl,Pj 8,Pj 7] (.tp [.nm 1,.nm 2]) (.enm ↑5) .non (.fn 13 [↑2,↑5,.bin .Add ↑4 ↑1])],.cmp .Eq (.blt "len" [↑6]) (.blt "len" [.ix ↑0 (3)]),.blt "all" [.comp .fz [Pl,Pl,Pl,Pj 9] (.nm 1) (.e ↑6) .non (.fn 1 [↑1,↑3])]]))]
abbrev s13:Pz:=ge 22
def KO:bw:=[.ifs (.p (.bool .Or [.not (.fn 4 [↑0,(4)]),.not (.fn 9 [.ix ↑0 (0),↑1]),.not (.fn 9 [.ix ↑0 (1),↑1])])) [.ret (.p (.lit (.bl Po)))] [],.unp [3,4] (.p (.sl ↑0 (.som (2)) .non)),.ifs (.p (.bool .Or [.not (.isi "list" ↑3),.not (.isi "list" ↑4),.cmp .Gt (.blt "len" [↑3]) (8)])) [.ret (.p (.lit (.bl Po)))] [],.ret (.p (.bool .And [.blt "all" [.comp .fz [Pl,Pl,Pl,Pl,Pj 2,Pj 1] (.nm 1) (.e ↑3) .non (.bool .Or [.fn 1 [↑1,↑4],.fn 9 [↑1,↑5]])],.blt "all" [.comp .fz [Pl,Pl,Pl,Pj 2] (.nm 1) (.e ↑4) .non (.fn 1 [↑1,↑3])]]))]
abbrev LC:Pz:=ge 23
def KP:bw:=[.ret (.p (.blt "all" [.comp .fz [Pl,Pl,Pj 0] (.nm 1) (.e (.fn 32 [↑0,.dnew 1 .fz,.sl ↑1 .non (.som (2))])) .non (.bool .Or [.cmp .In ↑1 (.fld "gates" ↑2),.cmp .In ↑1 (.fld "begins" ↑2)])]))]
abbrev LD:Pz:=ge 24
def KQ:bw:=[.asg 2 (.p (.fn 33 [↑0,.fld "begins" ↑0,.sl ↑1 .non (.som (2)),(1)])),.ret (.p (.cmp .Eq (.ix ↑2 (.ix ↑1 (0))) (.ix ↑2 (.ix ↑1 (1)))))]
abbrev LF:Pz:=ge 25
def KR:bw:=[.unp [3,4,5,6] (.p ↑2),.asg 7 (.p (.fn 18 [↑0,↑1,↑5,↑6,.lst (.own [] .fz) [↑3,↑4]])),.ifs (.p (.cmp .Is ↑7 (.lit .non))) [.ret (.p (.lit (.bl Po)))] [],.unp [8,9] (.p ↑7),.ret (.p (.cmp .Eq (.bin .BitAnd (.bin .BitXor (.ix ↑8 ↑3) (.ix ↑8 ↑4)) ↑9) (0)))]
abbrev mr:Pz:=ge 26
def Cc:bw:=[.unp [3,4,5,6] (.p ↑2),.asg 7 (.p (.comp .fz [Pl,Pl,Pj 0] (.nm 1) (.e (.fn 32 [↑0,.dnew 1 .fz,.lst (.own [] .fz) [↑3,↑4]])) (.som (.cmp .In ↑1 (.fld "afters" ↑2))) ↑1)),.asg 8 (.p (.fn 18 [↑0,↑1,↑5,↑6,.comp .fz [Pl,Pl,Pj 0] (.nm 1) (.e ↑7) .non (.ix (.fld "afters" ↑2) ↑1)])),.ifs (.p (.cmp .Is ↑8 (.lit .non))) [.ret (.p (.lit (.bl Po)))] [],.unp [9,10] (.p ↑8),.stk,.asg 12 (.p (.fn 33 [↑0,↑11,.lst (.own [] .fz) [↑3,↑4],.fn 6 [.blt "len" [↑5]]])),.ret (.p (.cmp .Eq (.bin .BitAnd (.bin .BitXor (.ix ↑12 ↑3) (.ix ↑12 ↑4)) ↑10) (0)))]
noncomputable abbrev KS:List Str:=["ground","statements","statement","one","other","free","given","memories","trials","found","kept","nexts","later"]
theorem KU:a7 KS ["ground","statements","statement"] (ab mr):=by walk_at "fsc"
abbrev LG:Pz:=ge 27
noncomputable def KW:bw:=[.asg 5 (.p (.fn 6 [.blt "len" [↑2]])),.unp [6,7] (.p (.fn 19 [↑1,↑2])),.asg 8 (.p (.fn 20 [↑0,↑1,↑3,↑6,↑5])),.asg 9 (.p (.blt "list" [↑4])),.fo [] (.nm 10) (.p (.e ↑3)) [.stk],.asg 11 (.p (.fn 33 [↑0,↑8,↑9,↑5])),.ifs (.p (.not (.blt "all" [.comp .fz [Pl,Pl,Pj 11] (.nm 1) (.e ↑9) .non (.cmp .In ↑1 ↑2)]))) [.ret (.p (.lit .non))] [],.fo [10,12,13] (.nm 10) (.p (.e ↑3)) [.stk,.stk],.ret (.tup .fz (.fin (.mv 11) [↑7]))]
abbrev LH:Pz:=ge 28
noncomputable def KY:bw:=[.asg 2 (.p (.fn 6 [.blt "len" [↑1]])),.asg 3 (.p (.dnew 1 .fz)),.asg 4 (.p ↑2),.fo [5,6,7,8,9] (.tp [.nm 5,.nm 6]) (.p (.enm ↑1)) [.asg 7 (.p (.fn 7 [↑5,.blt "len" [↑1]])),.asg 8 (.p (.ifx (.fn 0 [↑6]) (.ix ↑0 ↑6) (.tup .fz [↑6]))),.fo [9] (.nm 9) (.p (.e ↑8)) [.ifs (.p (.cmp .In ↑9 ↑3)) [.aug 4 .BitAnd (.p (.bin .BitXor (.bin .BitXor ↑2 (.ix ↑3 ↑9)) ↑7))] [.put (.nm 3) ↑9 (.p ↑7)]]],.ret (.tup .fz (.fin (.mv 3) [↑4]))]
abbrev rQ:Pz:=ge 29
noncomputable def E2:bw:=[.asg 5 (.p (.dnew 0 .fz)),.fo [6] (.nm 6) (.p (.e ↑2)) [.stk,.stk],.stk,.stk,.stk,.ret (.mv 10)]
noncomputable abbrev KZ:List Str:=["ground","statements","given","bits","whole","firsts","number","first","second","alone","found"]
theorem K0:a7 KZ ["ground","statements","given","bits","whole"] (ab rQ):=by walk_at "fsc"
abbrev LI:Pz:=ge 31
def K1:bw:=[.asg 2 (.p (.bin .Mod (.bin .Add (.bin .Add (.bin .Mult (.bin .Mod ↑0 (2147483647)) (.bin .Add (48271) (.bin .Mult (.bin .Mult (2) ↑1) ↑1))) (.bin .Mult (7919) ↑1)) (12345)) (2147483629))),.asg 2 (.p (.bin .FloorDiv (.bin .Mod (.bin .Mult ↑2 ↑2) (2147483587)) (3))),.ret (.p (.bin .FloorDiv (.bin .Mod (.bin .Mult (.bin .Mod (.bin .Add (.bin .Add (.bin .Mult ↑2 (69621)) (.bin .Mult (16807) ↑1)) (1)) (2147483579)) (.bin .Add (.bin .Mod ↑2 (65521)) (1))) (2147483563)) (5)))]
abbrev LJ:Pz:=ge 32
def K2:bw:=[.asg 1 (.p (0)),.fo [] (.nm 2) (.p (.e ↑0)) [.asg 1 (.p (.bin .Mod (.bin .Add (.bin .Mult ↑1 (31)) ↑2) (.bin .Add (.bin .Pow (10) (18)) (9))))],.ret (.p (.lst (.own [.own [] .fz] .fz) [.comp .fz [Pl,Pl,Pl] (.nm 1) (.e ↑0) (.som (.cmp .GtE (.blt "abs" [↑1]) (.bin .Pow (10) (18)))) (.blt "abs" [↑1]),↑1,(0)]))]
abbrev q8:Pz:=ge 33
def HZ:bw:=[.wh [] (.p (.bool .And [.cmp .Gt (.blt "len" [.ix ↑0 (0)]) (0),.cmp .Eq (.ix (.ix ↑0 (0)) (0)) (0)])) [.exp (.mut "pop" (.ix (.nm 0) (0)) [(0)])],.ifs (.p (.cmp .Gt (.blt "len" [.ix ↑0 (0)]) (0))) [.asg 2 (.p (.bin .Mod (.ix (.ix ↑0 (0)) (0)) ↑1)),.put (.ix (.nm 0) (0)) (0) (.p (.bin .FloorDiv (.ix (.ix ↑0 (0)) (0)) ↑1)),.ret (.p ↑2)] [],.put (.nm 0) (2) (.p (.bin .Add (.ix ↑0 (2)) (1))),.ret (.p (.bin .Mod (.fn 21 [.ix ↑0 (1),.ix ↑0 (2)]) ↑1))]
abbrev FF:Pz:=ge 34
def FN:bw:=[.asg 3 (.p (.lst (.own [] .fz) [])),.fo [4,5,6] (.nm 4) (.p (.rng (0) ↑2)) [.asg 5 (.io 23 (.ref 0 (.val (.p (4)) []))),.ifs (.p (.cmp .Eq (.bin .Add ↑1 ↑4) (0))) [.asg 5 (.p (0))] [],.asg 6 (.io 23 (.ref 0 (.val (.p (.ix (.lst (.own [] .fz) [(2),(4),(16),(256)]) ↑5)) []))),.exp (.mutM "append" 3 (.tup .fz (.cons (.p ↑6) (.fin (.blt "tuple" (.fin (.comp .fz [Pl,Pl,Pl,Pj 1,Pj 4,Pj 0] (.nm 1) (.p (.rng (0) ↑5)) .non (.io 23 (.ref 5 (.val (.p (.bin .Add ↑3 ↑4)) [])))) [])) []))))],.ret (.mv 3)]
abbrev FL:Pz:=ge 35
def K3:bw:=[.asg 5 (.io 23 (.ref 0 (.val (.p (.bin .Add ↑3 (1))) []))),.asg 6 (.io 24 (.ref 0 (.val (.p (.bin .Add ↑1 ↑2)) (.val (.p ↑5) [])))),.asg 7 (.p (.bin .Add (.bin .Add ↑1 ↑2) ↑5)),.asg 8 (.comp .fz [Pl,Pl,Pl,Pj 0,Pj 7] (.nm 1) (.p (.rng (0) ↑2)) .non (.tup .fz (.cons (.io 23 (.ref 3 (.val (.p (2)) []))) (.fin (.io 23 (.ref 3 (.val (.p ↑4) []))) [])))),.asg 9 (.p (.lst (.own [] .fz) [])),.ifs (.p (.cmp .Gt ↑7 (0))) [.asg 9 (.comp .fz [Pl,Pl,Pl,Pj 0,Pj 7] (.nm 1) (.p (.rng (0) ↑4)) .non (.io 23 (.ref 3 (.val (.p ↑4) []))))] [],.ret (.tup .fz (.cons (.p ↑1) (.cons (.mv 8) (.cons (.mv 6) (.fin (.mv 9) [])))))]
abbrev LK:Pz:=ge 36
def K4:bw:=[.unp [1,2,3,4] (.p ↑0),.asg 5 (.p (.comp .fz [Pl,Pl,Pl,Pj 1] (.tp [.nm 1,.nm 2]) (.enm ↑2) .non (.tup .fz [.tup .fz [(0),.bin .Add ↑3 ↑1],.tup .fz [(1),.bin .Add ↑3 ↑1],.lst (.own [] .fz) [.ix ↑2 (1)],.lst (.own [] .fz) []]))),.asg 6 (.p (.bin .Add ↑1 (.blt "len" [↑2]))),.asg 7 (.p (.comp .fz [Pl,Pl,Pl,Pl,Pj 6] (.tp [.nm 1,.nm 2]) (.enm ↑3) .non (.tup .fz [.tup .fz [(0),.bin .Add ↑4 ↑1],.tup .fz [(1),.bin .Add ↑4 ↑1],.blt "list" [.ix ↑2 (1)],.lst (.own [] .fz) []]))),.ret (.tup .fz (.cons (.p (.lst (.own [] .fz) [])) (.cons (.mv 5) (.fin (.mv 7) [.blt "list" [↑4]]))))]
abbrev LL:Pz:=ge 37
def K5:bw:=[.asg 1 (.p (.fn 22 [↑0])),.asg 2 (.ix (.cons (.p (.lst (.own [] .fz) [(5),(5),(5),(10)])) (.fin (.io 23 (.ref 1 (.val (.p (4)) []))) []))),.asg 3 (.io 23 (.ref 1 (.val (.p ↑2) []))),.asg 4 (.io 25 (.ref 1 (.val (.p ↑3) (.val (.io 23 (.ref 1 (.val (.p ↑2) []))) (.val (.p (20)) (.val (.io 23 (.ref 1 (.val (.p ↑2) []))) [])))))),.ret (.p (.tup .fz [↑4,.fn 26 [↑4]]))]
abbrev LM:Pz:=ge 38
def K6:bw:=[.asg 1 (.p (.comp .fz [Pl,Pl,Pl,Pl,Pl,Pl,Pl] (.tp [.nm 1,.nm 2,.nm 3,.nm 4]) (.e (.ix ↑0 (2))) .non (.tup .fz [↑1,↑2,.lrev ↑3,↑4]))),.ret (.tup .fz (.cons (.p (.ix ↑0 (0))) (.cons (.p (.ix ↑0 (1))) (.fin (.mv 1) [.ix ↑0 (3)]))))]
abbrev LN:Pz:=ge 39
noncomputable def K7:bw:=[.asg 1 (.p (.blt "list" [.ix ↑0 (2)])),.fo [2,3,4,5,6] (.tp [.nm 2,.tp [.nm 3,.nm 4,.nm 5,.nm 6]]) (.p (.enm (.sl (.ix ↑0 (2)) .non (.som (4))))) [.ifs (.p (.cmp .Gt (.blt "len" [↑5]) (0))) [.put (.nm 1) ↑2 (.p (.tup .fz [↑3,↑4,.sl (.bin .Mult ↑5 (8)) .non (.som (8)),↑6]))] []],.ret (.tup .fz (.cons (.p (.ix ↑0 (0))) (.cons (.p (.ix ↑0 (1))) (.fin (.mv 1) [.ix ↑0 (3)]))))]
abbrev yF:Pz:=ge 40
noncomputable def K8:bw:=[.unp [1,2] (.p (.fn 27 [↑0])),.ifs (.p (.cmp .IsNot (.fn 10 [↑1,↑1,↑2]) (.lit (.bl Pm)))) [.ret (.p (.lit (.bl Po)))] [],.ifs (.p (.cmp .IsNot (.fn 10 [↑1,.ix (.fn 27 [↑0]) (0),.fn 28 [↑2]]) (.lit (.bl Pm)))) [.ret (.p (.lit (.bl Po)))] [],.ifs (.p (.cmp .IsNot (.fn 10 [↑1,↑1,.fn 29 [↑2]]) (.lit (.bl Pm)))) [.ret (.p (.lit (.bl Po)))] [],.ret (.p (.cmp .Eq (.fn 27 [↑0]) (.tup .fz [↑1,↑2])))]
noncomputable abbrev H9:List Str:=["_law_script","_law_circuit_here","_law_paper_here"]
theorem K9:pH fns an 60 H9 yF=Pj K8:=by rfl
theorem La:a7 H9 ["_law_script"] (ab yF):=by walk_at "fsc"
abbrev Ia:Pz:=match ge 16 with|.ClassDef _ _ _ b ..=>b.getD 1 (.Pass ⟨0,0,0,0⟩)|s=>s
noncomputable def Lb:bw:=[.unp [3,4,5,6] (.p ↑2),.fo [8,9] (.tp [.nm 7,.tp [.nm 8,.nm 9]]) (.p (.enm ↑4)) [.put (.fld (.nm 0) "begins") (.tup .fz [↑1,.bin .Add ↑3 ↑7]) (.p ↑8),.put (.fld (.nm 0) "afters") (.tup .fz [↑1,.bin .Add ↑3 ↑7]) (.p (.tup .fz [↑1,↑9]))],.fo [7,10,11] (.tp [.nm 7,.tp [.nm 10,.nm 11]]) (.p (.enm ↑5)) [.put (.fld (.nm 0) "gates") (.tup .fz [↑1,.bin .Add (.bin .Add ↑3 (.blt "len" [↑4])) ↑7]) (.p (.tup .fz [↑10,.comp .fz [Pl,Pl,Pj 1] (.nm 1) (.e ↑11) .non (.tup .fz [↑2,↑1])]))]]
noncomputable abbrev Ib:List Str:=["self","which","circuit","ins","memories","gates","outs","k","begin","after","table","places"]
theorem Lc:pH fns an 60 Ib Ia=Pj Lb:=by rfl
theorem Ld:a7 Ib ["self","which","circuit"] (ab Ia):=by walk_at "fsc"
abbrev yG:Pz:=match ge 16 with|.ClassDef _ _ _ b ..=>b.getD 2 (.Pass ⟨0,0,0,0⟩)|s=>s
def FO:bw:=[.asg 3 (.p (.dnew 1 .fz)),.asg 4 (.p (.blt "list" [↑2])),.wh [5] (.p ↑4) [.asg 5 (.mut "pop" (.nm 4) []),.ifs (.p (.bool .And [.cmp .NotIn ↑5 ↑3,.cmp .NotIn ↑5 ↑1])) [.put (.nm 3) ↑5 (.p (.lit (.bl Pm))),.ifs (.p (.cmp .In ↑5 (.fld "gates" ↑0))) [.exp (.mut "extend" (.nm 4) [.ix (.ix (.fld "gates" ↑0) ↑5) (1)])] []] []],.stk]
noncomputable abbrev Lf:List Str:=["self","known","wanted","found","left","spot"]
theorem Lg:a7 Lf ["self","known","wanted"] (ab yG):=by walk_at "fsc"
abbrev yH:Pz:=match ge 16 with|.ClassDef _ _ _ b ..=>b.getD 3 (.Pass ⟨0,0,0,0⟩)|s=>s
noncomputable def FQ:bw:=[.stk,.fo [5] (.nm 5) (.p (.e (.fn 32 [↑0,↑1,↑2]))) [.ifs (.p (.cmp .In ↑5 (.fld "gates" ↑0))) [.unp [6,7] (.p (.ix (.fld "gates" ↑0) ↑5)),.asg 8 (.p (.comp .fz [Pl,Pl,Pj 4] (.nm 1) (.e ↑7) (.som (.cmp .In ↑1 ↑2)) (.ix ↑2 ↑1))),.ifs (.p (.cmp .Eq (.blt "len" [↑8]) (.blt "len" [↑7]))) [.put (.nm 4) ↑5 (.p (.fn 8 [↑6,↑8,↑3]))] []] []],.ret (.mv 4)]
noncomputable abbrev Lh:List Str:=["self","known","wanted","whole","found","spot","table","spots","columns"]
theorem Li:a7 Lh ["self","known","wanted","whole"] (ab yH):=by walk_at "fsc"
abbrev uh:Pz:=match ge 16 with|.ClassDef _ _ _ b ..=>b.getD 0 (.Pass ⟨0,0,0,0⟩)|s=>s
noncomputable def FR:bw:=[.putF "Ground" (.nm 0) "gates" (.p (.dnew 1 .fz)),.putF "Ground" (.nm 0) "begins" (.p (.dnew 1 .fz)),.putF "Ground" (.nm 0) "afters" (.p (.dnew 1 .fz)),.stk,.stk,.fo [] (.tp [.nm 4,.nm 5]) (.p (.enm ↑3)) [.stk]]
end
noncomputable abbrev Lj:List Str:=["self","one","other","helpers","k","helper"]
theorem Lk:a7 Lj ["self","one","other","helpers"] (ab uh):=by walk_at "fsc"
noncomputable def U0:GG:=⟨λ_=>Pl,λ_=>Pl⟩
def ψ0:Fn:=bS U0 1000 1 1 b0
def U_0:GG:=U0.addI 0 ψ0
def ψ1:Fn:=bS U_0 1000 2 2 b1
def U_1:GG:=U_0.addI 1 ψ1
def ψ2:Fn:=bS U_1 1000 2 2 b2
def L7:GG:=U_1.addI 2 ψ2
abbrev U_3:GG:=L7
def ψ4:Fn:=bS U_3 1000 2 2 b4
def U_4:GG:=U_3.addI 4 ψ4
def ψ5:Fn:=bS U_4 1000 1 1 b5
def U_5:GG:=U_4.addI 5 ψ5
def ψ6:Fn:=bS U_5 1000 1 1 b6
def U_6:GG:=U_5.addI 6 ψ6
def ψ7:Fn:=bS U_6 1000 2 5 b7
def U_7:GG:=U_6.addI 7 ψ7
def ψ8:Fn:=bS U_7 1000 3 5 b8
def U_8:GG:=U_7.addI 8 ψ8
def ψ9:Fn:=bS U_8 1000 2 2 b9
def L8:GG:=U_8.addI 9 ψ9
abbrev U_12:GG:=L8
def FS:Fn:=bS U_12 1000 3 5 KO
def U_13:GG:=U_12.addI 13 FS
def Ic:Fn:=bS U_13 1000 3 10 KN
def U_11:GG:=U_13.addI 11 Ic
def yI:Ro->Option Res:=λY=>ca (aq U_11 1000 (bp FO 3) [] Y) λY=>pA (v3 (vq (eG 3 Y[3]?)) Y)
def A7:Fn:=vn "Ground.all_below" (jQ yI 3 6)
def U_32:GG:=U_11.addI 32 A7
def Ie:Fn:=bS U_32 1000 2 2 KP
def U_14:GG:=U_32.addI 14 Ie
def vB:Ro->Option Res:=λY=>ca (fB [] 4 (v3 (pS (eG 1 Y[1]?)) Y)) λY=>aq U_14 1000 (bq FQ 1) [] Y
def v4:Fn:=vn "Ground.reckoned" (jQ vB 4 9)
def U_33:GG:=U_14.addI 33 v4
def Ig:Fn:=bS U_33 1000 2 3 KQ
def U_15:GG:=U_33.addI 15 Ig
def E3:Fn:=bS U_15 1000 2 10 KY
def U_19:GG:=U_15.addI 19 E3
def E4:Ro->Option Res:=λY=>fB [] 9 (v3 (sN (U_19.fn 33) (ck (eG 0 Y[0]?) (ck (eG 3 Y[3]?) (ck (KC (eG 5 Y[5]?)) (ck (eG 4 Y[4]?) (Pj [])))))) Y)
def E5:Ro->Option Res:=λY=>fB [] 10 (v3 (pS (eG 3 Y[3]?)) Y)
def E6:Ro->Option Res:=λY=>me [] [] (.tp [.nm 8,.nm 7]) (λ_ _=>Pl) (EV 5 Y)
def vC:Ro->Option Res:=λY=>ca (aq U_19 1000 (bp E2 2) [] Y) λY=>ca (E4 Y) λY=>ca (E5 Y) λY=>ca (E6 Y) λY=>aq U_19 1000 (bq E2 5) [] Y
def Ih:Fn:=jQ vC 5 11
def U_20:GG:=U_19.addI 20 Ih
def FT:Fn:=bS U_20 1000 5 14 KW
def U_18:GG:=U_20.addI 18 FT
def Ii:Fn:=bS U_18 1000 3 10 KR
def U_16:GG:=U_18.addI 16 Ii
def E7:Ro->Option Res:=λY=>fB [] 11 (v3 (eL 1 (dC U_16.fn (.e (.var 7)) Y) (gP (.nm 1) (λ_=>Pj Pm) (aa U_16.fn (.var 1)) (aa U_16.fn (.ix (.var 2) (.ix (.fld "afters" (.var 3)) (.var 1)))) (aT Y [Pl,Pl,Pj 9,Pj 0]))) Y)
def vD:Ro->Option Res:=λY=>ca (aq U_16 1000 (bp Cc 5) [] Y) λY=>ca (E7 Y) λY=>aq U_16 1000 (bq Cc 6) [] Y
def Ij:Fn:=jQ vD 3 13
def Ik:GG:=U_16.addI 17 Ij
def A8:Fm:=k9 Ik 1000 3 12 [0] Lb
abbrev U_31:GG:=Ik
def vF(i:Int)(j:Nat):Ro->Option (List RA×Ro):=cL U_31 (.val (.p (.lit (.int i))) (.val (.p (.var j)) .nil))
def pX(i:Int)(j:Nat):Ro->Option Res:=λY=>rz (yD "Ground" "put_circuit" 0 A8 (vF i j) Y)
def pY:Ro->Option Res:=λY=>ca (aq U_31 1000 (bp FR 3) [0] Y) λY=>ca (pX 0 1 Y) λY=>ca (pX 1 2 Y) λY=>aq U_31 1000 (bq FR 5) [0] Y
def Il:Fn:=yd (.own [] (.own [] .fz)) "Ground" (lm pY 4 6 [0])
def U_34:GG:=U_31.addI 34 Il
def E8:Fn:=bS U_34 1000 3 10 KM
def U_10:GG:=U_34.addI 10 E8
def FU:Fn:=bS U_10 1000 2 3 K1
def U_21:GG:=U_10.addI 21 FU
def Im:Fn:=bS U_21 1000 1 3 K2
def U_22:GG:=U_21.addI 22 Im
def Io:Fm:=k9 U_22 1000 2 3 [0] HZ
def U_23:GG:=U_22.addM 23 Io
def Ip:Fm:=k9 U_23 1000 3 7 [0] FN
def U_24:GG:=U_23.addM 24 Ip
def Iq:Fm:=k9 U_24 1000 5 10 [0] K3
def U_25:GG:=U_24.addM 25 Iq
def Ir:Fn:=bS U_25 1000 1 8 K4
def U_26:GG:=U_25.addI 26 Ir
def FV:Fn:=bS U_26 1000 1 5 K5
def U_27:GG:=U_26.addI 27 FV
def Iu:Fn:=bS U_27 1000 1 2 K6
def U_28:GG:=U_27.addI 28 Iu
def FW:Fn:=bS U_28 1000 1 7 K7
def U_29:GG:=U_28.addI 29 FW
def Iv:Fn:=bS U_29 1000 1 3 K8
noncomputable abbrev n0:Pp:=.Name "" ⟨0,0,0,0⟩
abbrev cut(s:Pz)(i n:Nat):List Pz:=((aC s).drop i).take n
abbrev Cd(s:Pz)(i:Nat):Pz:=(cut s i 1).getD 0 (.Pass ⟨0,0,0,0⟩)
theorem Ce{s:Pz}(h:du X pn f s):a6 X pn f [s]:=λY r e g Z H a b q=>rn (zo HD) (h Y r e g Z H a b q)
abbrev LO:Cz:=⟨ab yG,["self","known","wanted","found","left","spot"],λ_=>Pm⟩
theorem vG(X:Cx)(O:am X (a8 fns U_11) LO)(b:PassesOwn (Pw X.prog X.w) X.A X.env X.xe):a6 X [] yI (aC yG):=by
 let a:a6 X [] (aq U_11 1000 (bp FO 3) []) (cut yG 0 3):=eK U_11 (λs d h=>jG fns U_11 O b 60 h) (show cB fns an 60 LO 60 (cut yG 0 3)=Pj (bp FO 3) by rfl) [];let c:a6 X [] (λY=>pA (v3 (vq (eG 3 Y[3]?)) Y)) (cut yG 3 1):=Ce (BW (HX O (by rfl) (by rfl) (hV O (by rfl) _)).m);show(fC a c:a6 X [] yI (cut yG 0 3++cut yG 3 1))
abbrev LP:Cz:=⟨ab yH,["self","known","wanted","whole","found","spot","table","spots","columns"],λ_=>Pm⟩
theorem yJ(X:Cx)(O:am X (a8 fns U_14) LP)(b:PassesOwn (Pw X.prog X.w) X.A X.env X.xe):a6 X [] vB (aC yH):=by
 let a:a6 X [] (λY=>fB [] 4 (v3 (pS (eG 1 Y[1]?)) Y)) (cut yH 0 1):=Ce (tJ O (by rfl) (by rfl) (by rfl) (B9 O (by rfl) (by rfl) (hV O (by rfl) _)).m);let c:a6 X [] (aq U_14 1000 (bq FQ 1) []) (cut yH 1 2):=eK U_14 (λs d h=>jG fns U_14 O b 60 h) (show cB fns an 60 LP 60 (cut yH 1 2)=Pj (bq FQ 1) by rfl) [];show(fC a c:a6 X [] vB (cut yH 0 1++cut yH 1 2))
abbrev LQ:Cz:=⟨ab rQ,["ground","statements","given","bits","whole","firsts","number","first","second","alone","found"],λ_=>Pm⟩
theorem vH(X:Cx)(O:am X (a8 fns U_19) LQ)(c:PassesOwn (Pw X.prog X.w) X.A X.env X.xe):a6 X [] vC (aC rQ):=by
 let a:∀{d:List Pz} {b:bw},cB fns an 60 LQ 60 d=Pj b->a6 X [] (aq U_19 1000 b []) d:=λh=>eK U_19 (λs k h=>jG fns U_19 O c 60 h) h [];let j:a6 X [] (aq U_19 1000 (bp E2 2) []) (cut rQ 0 2):=a (by rfl);let i:a6 X [] E4 (cut rQ 2 1):=Ce (tJ O (by rfl) (by rfl) (by rfl) (BH O (y:="Ground.reckoned") (by rfl) (hV O (by rfl) _) (fP (by rfl) (hV O (by rfl) _) (fP (by rfl) (KJ O (by rfl) (by rfl) (by rfl) (hV O (by rfl) _)) (fP (by rfl) (hV O (by rfl) _) jV))) (by rfl) (by rfl) (by rfl) (by rfl) (by decide)).m);let f:a6 X [] E5 (cut rQ 3 1):=Ce (tJ O (by rfl) (by rfl) (by rfl) (B9 O (by rfl) (by rfl) (hV O (by rfl) _)).m)
 let e:a6 X [] E6 (cut rQ 4 1):=Ce (xX O c (fg:=[]) (t:=.tp [.nm 8,.nm 7]) (n:=4) (by rfl) (HY O (by rfl) (by rfl) (by rfl)) (λl Y r h=>nomatch h) (by rfl))
 let g:a6 X [] (aq U_19 1000 (bq E2 5) []) (cut rQ 5 1):=a (by rfl);show(fC j (fC i (fC f (fC e g))):a6 X [] vC (cut rQ 0 2++(cut rQ 2 1++(cut rQ 3 1++(cut rQ 4 1++cut rQ 5 1)))))
abbrev Jn:Cz:=⟨ab mr,["ground","statements","statement","one","other","free","given","memories","trials","found","kept","nexts","later"],λ_=>Pm⟩
abbrev kE:Pp:=match Cd mr 5 with|.Assign _ (.DictComp k _ _ _ _) _=>k|_=>n0
abbrev vE:Pp:=match Cd mr 5 with|.Assign _ (.DictComp _ v _ _ _) _=>v|_=>n0
abbrev tE:Pp:=match Cd mr 5 with|.Assign _ (.DictComp _ _ (g::_) _ _) _=>g.target|_=>n0
abbrev iE:Pp:=match Cd mr 5 with|.Assign _ (.DictComp _ _ (g::_) _ _) _=>g.iter|_=>n0
abbrev sE:PH:=match Cd mr 5 with|.Assign _ (.DictComp _ _ _ s _) _=>s|_=>ab mr
abbrev L9:Pos:=match Cd mr 5 with|.Assign _ (.DictComp _ _ _ _ p) _=>p|_=>⟨0,0,0,0⟩
abbrev pE:Pos:=match Cd mr 5 with|.Assign [.Name _ p] _ _=>p|_=>⟨0,0,0,0⟩
abbrev qE:Pos:=match Cd mr 5 with|.Assign _ _ p=>p|_=>⟨0,0,0,0⟩
theorem yK(X:Cx)(O:am X (a8 fns U_16) Jn)(l:PassesOwn (Pw X.prog X.w) X.A X.env X.xe):a6 X [] vD (aC mr):=by
 let i:∀{g:List Pz} {b:bw},cB fns an 60 Jn 60 g=Pj b->a6 X [] (aq U_16 1000 b []) g:=λh=>eK U_16 (λs o h=>jG fns U_16 O l 60 h) h [];let d:=λ(f:Cx) (c:Cz) (P:am f (a8 fns U_16) c)=>(cF fns U_16.fn 60).1 f c P;let k:a6 X [] (aq U_16 1000 (bp Cc 5) []) (cut mr 0 5):=i (by rfl)
 let m:a6 X [] E7 (cut mr 5 1):=by
  let h:=EF (pn:=[]) O (x:="nexts") (z:=1) (n:=4) (kx:=kE) (elt:=vE) (tg:=tE) (iter:=iE) (scope:=sE) (cp:=L9) (p:=pE) (pos:=qE) (by rfl) (by rfl) (by rfl) (by rfl) (sY fns U_16.fn O (d X Jn O) (show _=Pj (II.e (.var 7)) by rfl)) (by rfl) (λC s H a=>BJ) (λC s H a=>d _ _ (cZ O (by rfl) C s H a) _ (.var 1) (by rfl)) (λC s H a=>d _ _ (cZ O (by rfl) C s H a) _ (.ix (.var 2) (.ix (.fld "afters" (.var 3)) (.var 1))) (by rfl));rw[show aw Jn sE=[Pl,Pl,Pj 9,Pj 0] by rfl] at h;show Ce h
 let j:a6 X [] (aq U_16 1000 (bq Cc 6) []) (cut mr 6 2):=i (by rfl);show(fC k (fC m j):a6 X [] vD (cut mr 0 5++(cut mr 5 1++cut mr 6 2)))
abbrev Iw:Cz:=⟨ab uh,["self","one","other","helpers","k","helper"],λ_=>Pm⟩
theorem rR(e:M6 K PF "Ground" = Pj (Pj (.ref C)))(g:Cls K C)(p:om K C "put_circuit" f)(F:FnOk P w K mg base iS k f fd ps (u9 K A8))(l:Binds K fd ps [])(X:Cx)(O:am X (a8 fns U_31) Iw)(x:PassesOwn (Pw X.prog X.w) X.A X.env X.xe)(y:Cb P w K mg base k X):a6 X [0] pY (aC uh):=by
 obtain⟨rfl,rfl,rfl,rfl,rfl,c⟩:=y;let o:∀{n:List Pz} {b:bw},cB fns an 60 Iw 60 n=Pj b->a6 X [0] (aq U_31 1000 b [0]) n:=λh=>eK U_31 (λs B h=>jG fns U_31 O x 60 h) h [0];let m:=(cF fns U_31.fn 60).1 X Iw O;let t:a6 X [0] (aq U_31 1000 (bp FR 3) [0]) (cut uh 0 3):=o (by rfl)
 let d:∀(i:Int) (j:Nat) (a b:Pp),ae a=Pm->ae b=Pm->cE fns 60 Iw a=Pj (.lit (.int i))->cE fns 60 Iw b=Pj (.var j)->gr X (vF i j) [a,b]:=λi j a b u q e1 e2=>
  xF u (rm U_31 (m _ _ e1)) (xF q (rm U_31 (m _ _ e2)) BN)
 let z:a6 X [0] (pX 0 1) (cut uh 3 1):=Ce (xT (by rfl) (Ca O (by rfl) e g p F c l (by rfl) (by rfl) (by rfl) (by rfl) (by decide) (d 0 1 _ _ (by rfl) (by rfl) (by rfl) (by rfl))));let r:a6 X [0] (pX 1 2) (cut uh 4 1):=Ce (xT (by rfl) (Ca O (by rfl) e g p F c l (by rfl) (by rfl) (by rfl) (by rfl) (by decide) (d 1 2 _ _ (by rfl) (by rfl) (by rfl) (by rfl))));let v:a6 X [0] (aq U_31 1000 (bq FR 5) [0]) (cut uh 5 1):=o (by rfl);show(fC t (fC z (fC r v)):a6 X [0] pY (cut uh 0 3++(cut uh 3 1++(cut uh 4 1++cut uh 5 1))))
noncomputable abbrev k0:Ow:=.own [] .fz
noncomputable abbrev iD(n:Nat):D:=.int (n:Int)
noncomputable abbrev fS(d:D):Option Sl:=Pj ⟨Po,.fz,d⟩
abbrev bJ(d:D):Option Sl:=Pj ⟨Po,k0,d⟩
theorem aH(h:Wp B λx=>x=r):B=Pj r:=by obtain⟨x,e,rfl⟩:=h;show e
theorem n5{α:Type}{B:Option α}{r:α}(h:Wp B λx=>x=r):B=Pj r:=by obtain⟨x,e,rfl⟩:=h;show e
theorem wv{α:Type}{a:Option α}{r:α}{Q:α->Prop}(h:a=Pj r)(q:Q r):Wp a Q:=⟨r,h,q⟩
section
variable {U:Nat->Option Fn} {Y:Ro} {a b c:IE} {r:fU} {k k' k'':Kd} {i j l:Int} {x y z:Bool} {d d':D} {xs:List D} {hd:Hd}
theorem bx(c:aa U a Y=Pj (k,.int i))(d:aa U b Y=Pj (k',.int j)):aa U (.bin .Add a b) Y=Pj (.sh,.int (i+j)):=aH (bc (wv c (wv d (yn rfl))))
theorem iC(h:0<j)(c:aa U a Y=Pj (k,.int i))(d:aa U b Y=Pj (k',.int j)):aa U (.bin .Mod a b) Y=Pj (.sh,.int (i%j)):=aH (bc (wv c (wv d (EI h rfl))))
theorem Cf{xs ys:List D}(h:eA k xs=Pm/\eA k' ys=Pm/\xs.length+ys.length<=100000)(c:aa U a Y=Pj (k,.lst xs))(d:aa U b Y=Pj (k',.lst ys)):aa U (.bin .Add a b) Y=Pj (.fr aO,.lst (xs++ys)):=aH (bc (wv c (wv d (EK h rfl))))
theorem Cg{z:Int}{n:Nat}(c:hd=.lst\/hd=.tup)(a:jx xs.length z=Pj n)(b:xs[n]?=Pj d):vY (Pj (k,.nd hd xs)) (Pj (k',.int z))=Pj (oN k n,d):=by
 rcases c with rfl|rfl
 ·show aH (EN a b rfl)
 ·show aH (EO a b rfl)
theorem yL{m n:Nat}{z:Int}(a:z=n)(h:n<m):jx m z=Pj n:=by subst a;rw[t8 (by lia) (by lia)];rfl
theorem cN{n:Nat}{z:Int}(g:aa U a Y=Pj (k,.nd hd xs))(h:aa U b Y=Pj (k',.int z))(f:hd=.lst\/hd=.tup)(e:z=n)(c:xs[n]?=Pj d):aa U (.ix a b) Y=Pj (oN k n,d):=by
 rw[xp,g,h];show Cg f (yL e (Mg.mp c).1) c
theorem mw(b:aa U a Y=Pj (k,d))(h:Ab d=Pj n):aa U (.blt "len" (.cons a .nil)) Y=Pj (.sh,.int n):=aH (dU (aD (wv b (bt (EQ h rfl)))))
theorem e1{p:KD}(b:aa U a Y=Pj p):aP U (.cons a .nil) Y=Pj [p]:=n5 (aD (wv b (bt rfl)))
theorem e2(c:aa U a Y=Pj p)(d:aa U b Y=Pj q):aP U (.cons a (.cons b .nil)) Y=Pj [p,q]:=n5 (aD (wv c (aD (wv d (bt rfl)))))
theorem e3(e:aa U a Y=Pj p)(f:aa U b Y=Pj q)(d:aa U c Y=Pj u):aP U (.cons a (.cons b (.cons c .nil))) Y=Pj [p,q,u]:=n5 (aD (wv e (aD (wv f (aD (wv d (bt rfl)))))))
theorem e4(g:aa U a Y=Pj p)(h:aa U b Y=Pj q)(d:aa U c Y=Pj u)(f:aa U e Y=Pj t):aP U (.cons a (.cons b (.cons c (.cons e .nil)))) Y=Pj [p,q,u,t]:=n5 (aD (wv g (aD (wv h (aD (wv d (aD (wv f (bt rfl)))))))))
theorem bK{B:Fn}{kds:List KD}{p:KD}(b:U n=Pj B)(c:aP U es Y=Pj kds)(hk:(kds.all λp=>qM p.1 p.2)=Pm)(hd:kds.map (·.2)=ds)(a:B ds=Pj p)(d:bA p.1=Po):aa U (.fn n es) Y=Pj p:=
 aH (yk b (wv c (ua ⟨p,by rw[hd];show a,d,.inl hk,rfl⟩)))
theorem iF{B:Fn}{kds:List KD}{p:KD}(b:U n=Pj B)(c:aP U es Y=Pj kds)(hk:kI p.1 p.2=Pm)(hd:kds.map (·.2)=ds)(a:B ds=Pj p)(d:bA p.1=Po):aa U (.fn n es) Y=Pj p:=
 aH (yk b (wv c (ua ⟨p,by rw[hd];show a,d,.inr hk,rfl⟩)))
/- tests -/
theorem dF(c:aa U a Y=Pj (k,d))(e:aa U b Y=Pj (k',d'))(h:cA op d d'=Pj x):aE U (.cmp op a b) Y=Pj x:=n5 (rJ (wv c (wv e (wv h rfl))))
theorem A9(c:aa U a Y=Pj (k,.int i))(d:aa U b Y=Pj (k',.int j)):aE U (.cmp .Gt a b) Y=Pj (decide (j<i)):=dF c d rfl
theorem rS(c:aa U a Y=Pj (k,.int i))(d:aa U b Y=Pj (k',.int j)):aE U (.cmp .Eq a b) Y=Pj (decide (i=j)):=dF c d (n5 (B5 rfl))
theorem Ix(c:aa U a Y=Pj (k,.int i))(d:aa U b Y=Pj (k',.int j)):aE U (.cmp .NotEq a b) Y=Pj (!decide (i=j)):=dF c d (n5 (B6 rfl))
theorem ui(b:aa U a Y=Pj (k,d)):aE U (.cmp .Is a (.lit .non)) Y=Pj (w5 d):=dF b rfl rfl
theorem fj(h:aE U a Y=Pj x):aE U (.not a) Y=Pj (!x):=by rw[xt,h];rfl
theorem jH(h:aE U a Y=Pj x):aE U (.bool op (.cons a .nil)) Y=Pj x:=n5 (pL (wv h rfl))
theorem vI(h:aE U a Y=Pj x)(h2:x=Po->aE U (.bool .Or (.cons b r)) Y=Pj y):aE U (.bool .Or (.cons a (.cons b r))) Y=Pj (x||y):=by
 show n5 (lc (wv h ?_));cases x
 ·show⟨λ_=>wv (h2 rfl) rfl,λh=>absurd rfl h⟩
 ·show⟨λh=>absurd h (by decide),λ_=>rfl⟩
theorem pZ(h:aE U a Y=Pj x)(h2:x=Pm->aE U (.bool .And (.cons b r)) Y=Pj y):aE U (.bool .And (.cons a (.cons b r))) Y=Pj (x&&y):=by
 show n5 (lc (wv h ?_));cases x
 ·show⟨λh=>absurd h (by decide),λ_=>rfl⟩
 ·show⟨λ_=>wv (h2 rfl) rfl,λh=>absurd rfl h⟩
theorem vJ(h:aa U (.fn n es) Y=Pj (k,.bl x)):aE U (.fn n es) Y=Pj x:=by rw[As,<- xr,h];rfl
theorem Ch(h:aa U (.blt n es) Y=Pj (k,.bl x)):aE U (.blt n es) Y=Pj x:=by rw[xw,<- sV,h];rfl
theorem Cj(b:aa U a Y=Pj (k,d))(h:oZ T d=Pj x):aE U (.isi T a) Y=Pj x:=by
 rw[xv,<- sU,show aa U (.isi T a) Y=Pj (.sh,.bl x) from aH (rH (wv b (wv h rfl)))];rfl
theorem Iy{n:Nat}{s:Sl}(h:Y[n]?=Pj (Pj s))(a:u4 s.d=Pj x):aE U (.var n) Y=Pj x:=by
 rw[xu,h];change d7 (Pj (oI n s))=_;unfold d7;obtain⟨b,c,e⟩:=s
 cases b<;>(unfold oI;first|show a|(split<;>show a))
/- truths as values -/
theorem iG(h:aE U (.cmp op a b) Y=Pj x):aa U (.cmp op a b) Y=Pj (.sh,.bl x):=by rw[Al,<- o9,h];rfl
theorem Ba(e:aa U a Y=Pj (k,.int i))(f:aa U b Y=Pj (k',.int j))(d:aa U c Y=Pj (k'',.int l)):aa U (.chain .LtE .Lt a b c) Y=Pj (.sh,.bl (decide (i<=j)&&decide (j<l))):=by
 rw[u8,e,f,d]
 change bV (match Pj (decide (i<=j)) with|some Pm=>Pj (decide (j<l))|some Po=>Pj Po|none=>Pl)=_
 cases decide (i<=j)<;>rfl
theorem uj(b:aa U a Y=Pj (k,d))(h:oZ T d=Pj x):aa U (.isi T a) Y=Pj (.sh,.bl x):=aH (rH (wv b (wv h rfl)))
theorem Iz(h:aa U a Y=Pj (k,d))(b:u4 d=Pj x):aa U (.not a) Y=Pj (.sh,.bl (!x)):=aH (yf (wv h (wv b rfl)))
theorem jI(h:aa U a Y=Pj p):aa U (.bool op (.cons a .nil)) Y=Pj p:=aH (pK (wv h rfl))
theorem dP(h:aa U a Y=Pj (k,.bl x))(h2:x=Pm->aa U (.bool .And (.cons b r)) Y=Pj (.sh,.bl y)):aa U (.bool .And (.cons a (.cons b r))) Y=Pj (.sh,.bl (x&&y)):=by
 show aH (la (wv h ⟨x,rfl,?_⟩));cases x
 ·show⟨λh=>absurd h (by decide),λ_=>rfl⟩
 ·show⟨λ_=>wv (h2 rfl) rfl,λh=>absurd rfl h⟩
theorem IA(h:aa U a Y=Pj (k,.bl x))(h2:x=Po->aa U (.bool .Or (.cons b r)) Y=Pj (.sh,.bl y)):aa U (.bool .Or (.cons a (.cons b r))) Y=Pj (.sh,.bl (x||y)):=by
 show aH (la (wv h ⟨x,rfl,?_⟩));cases x
 ·show⟨λ_=>wv (h2 rfl) rfl,λh=>absurd rfl h⟩
 ·show⟨λh=>absurd h (by decide),λ_=>rfl⟩
theorem IB(h:aE U t Y=Pj x)(h1:x=Pm->aa U a Y=Pj p)(h2:x=Po->aa U b Y=Pj p):aa U (.ifx t a b) Y=Pj p:=aH (yg (wv h ⟨λe=>wv (h1 e) rfl,λe=>wv (h2 e) rfl⟩))
/- comprehensions -/
theorem E9{α:Type}{f:α->D}{l:List α}{ys:List D}(b:ys.length=l.length)(h:∀(i:Nat) y,ys[i]?=Pj y->∃a,l[i]?=Pj a/\y=f a):ys=l.map f:=by
 show NF λi=>?_;rw[Mj]
 cases e:ys[i]? with
 |none=>
  have:l[i]?=Pl:=MY (by have:=NG.mp e;lia);rw[this];rfl
 |some y=>
  obtain⟨a,e1,rfl⟩:=h i y e;rw[e1];rfl
theorem ln{α:Type}{l:List α}{f g:α->D}{r:Ow}{i:D->Option (Option KD)}(h:∀a∈l,Wp (i (f a)) λo=>∃c,o=Pj (c,g a)/\bM r (c,g a)=Pm):Wp (aU r i (l.map f)) λys=>ys=l.map g:=by
 show KB (λj y=>∃a,l[j]?=Pj a/\y=g a) (λj d b=>?_) λys k m=>E9 (by rw[k,Mh]) m;rw[Mj] at b
 cases e:l[j]? with
 |none=>rw[e] at b;cases b
 |some a=>
  rw[e] at b;cases b;show(h a (Mu e)).mono λo ⟨c,e1,e2⟩=>⟨_,e1,e2,a,rfl,rfl⟩
theorem nP(n:Nat):dQ 0 n=(MH n).map iD:=by
 unfold dQ;rw[Int.sub_zero,Nd];show Oe λk _=>by rw[Int.zero_add]
theorem rT{α:Type}{l:List α}{f g:α->D}{hd:Hd}{r:Ow}{cap:List (Option Nat)}{tg:IT}{a elt:IE}(i:hd=.lst\/hd=.tup)(j:aa U a Y=Pj (k,.nd hd (l.map f)))(b:eA k (l.map f)=Pm)(c:l.length<=100000)
  (h:∀a∈l,Wp (dR tg (di U .non) (aa U elt) (aT Y cap) (f a)) λo=>∃d,o=Pj (d,g a)/\bM r (d,g a)=Pm):aa U (.comp r cap tg (.e a) .non elt) Y=Pj (.fr (.own [] r),.lst (l.map g)):=by
 show aH (eM (ji (wv j ?_)));rcases i with rfl|rfl
 ·show fF b ⟨by simpa using c,(ln h).mono λm e=>by rw[e]⟩
 ·show nM b ⟨by simpa using c,(ln h).mono λm e=>by rw[e]⟩
theorem IC{n:Nat}{g:Nat->D}{r:Ow}{cap:List (Option Nat)}{tg:IT}{a elt:IE}(c:aa U a Y=Pj (k,iD n))(f:n<=100000)
  (h:∀i,i<n->Wp (dR tg (di U .non) (aa U elt) (aT Y cap) (iD i)) λo=>∃b,o=Pj (b,g i)/\bM r (b,g i)=Pm):aa U (.comp r cap tg (.rng (.lit (.int 0)) a) .non elt) Y=Pj (.fr (.own [] r),.lst ((MH n).map g)):=by
 show aH (eM (jk (bb (wv c (li (dw (by lia) (by lia) (by lia) (by lia) (by lia)) ⟨?_,?_⟩)))))
 ·change(dQ 0 (n:Int)).length<=_;rw[nP,Mh,N3];show f
 ·change Wp (aU r _ (dQ 0 (n:Int))) _;rw[nP];show(ln λi d=>h i (NK.mp d)).mono λj e=>by rw[e]
theorem Ck{a:Ro->Option KD}{Q:Option KD->Prop}(b:bY [(1,d)] Y0=Pm)(h:Wp (a (setAll [(1,d)] Y0)) λx=>Q (Pj x)):Wp (dR (.nm 1) (di U .non) a Y0 d) Q:=pO (ps:=[(1,d)]) rfl b rfl h
theorem ID{a b:D}{d:Ro->Option KD}{c:Ro}{Q:Option KD->Prop}(e:bY [(1,a),(2,b)] c=Pm)(h:Wp (d (setAll [(1,a),(2,b)] c)) λx=>Q (Pj x)):Wp (dR (.tp [.nm 1,.nm 2]) (di U .non) d c (.tup [a,b])) Q:=pO (ps:=[(1,a),(2,b)]) rfl e rfl h
/- all,any,sum,min over a comprehension -/
theorem Cm{bs:List Bool}(h:aa U a Y=Pj (k,.lst (bs.map D.bl))):aa U (.blt "all" (.cons a .nil)) Y=Pj (.sh,.bl (bs.all id)):=aH (dU (aD (wv h (bt (ER rfl)))))
end
section
variable {U:GG} {N:Nat} {pn:List Nat} {Y:Ro} {Q:Res->Prop} {rest:bw}
theorem gz(h:Wp (aq U N rest pn Y) Q):Wp (aq U N .nil pn Y) (Kt U N rest pn Q):=ba (dN h)
theorem iH(h:aE U.fn t Y=Pj z)(h1:z=Pm->Wp (aq U N a pn Y) (Kt U N rest pn Q))(h2:z=Po->Wp (aq U N b pn Y) (Kt U N rest pn Q)):Wp (aq U N (.cons (.ifs (.p t) a b) rest) pn Y) Q:=
 HS (mj (wv h ⟨h1,h2⟩))
theorem fG{x:KD}(h:aE U.fn t Y=Pj z)(h1:z=Pm->aa U.fn e Y=Pj x/\bA (dJ x.1 x.2)=Po/\Q (.rt (dJ x.1 x.2) x.2 Y))(h2:z=Po->Wp (aq U N rest pn Y) Q):Wp (aq U N (.cons (.ifs (.p t) (.cons (.ret (.p e)) .nil) .nil) rest) pn Y) Q:=
 iH h (λa=>dA (ci (wv (h1 a).1 ⟨(h1 a).2.1,ub (h1 a).2.2⟩))) λa=>gz (h2 a)
theorem aN{x:KD}(h:aa U.fn e Y=Pj x)(b:bA (dJ x.1 x.2)=Po)(a:i∉pn)(w:Wp (aq U N rest pn (Y.set i (Pj ⟨Po,FI (dJ x.1 x.2),x.2⟩))) Q):Wp (aq U N (.cons (.asg i (.p e)) rest) pn Y) Q:=
 dO (ci (wv h ⟨⟨b,a⟩,w⟩))
theorem cg{x:KD}(h:aa U.fn e Y=Pj x)(a:bA (dJ x.1 x.2)=Po)(q:Q (.rt (dJ x.1 x.2) x.2 Y)):Wp (aq U N (.cons (.ret (.p e)) rest) pn Y) Q:=dA (ci (wv h ⟨a,q⟩))
end
theorem gQ{ds:List D}(a:ds.length=m)(h:Wp (aq U N body [] (k8 k (ds.map tX))) λr=>Wp (f9 (Pj r)) λx=>x=p):bS U N m k body ds=Pj p:=aH (nN a h)
theorem iI(a:bA kd=Po)(q:(kd,d)=p):Wp (f9 (Pj (.rt kd d Y))) λx=>x=p:=ee a q
theorem mx{ft:Ro->Option (Bool×Ro)}{fb:Ro->Option Res}{Q:Res->Prop}(I:Nat->Ro->Prop)(f:∀m Y,I m Y->Wp (ft (clrN fg Y)) λp=>(p.1=Po->Q (.nx p.2))/\(p.1=Pm->Wp (fb p.2) λr=>(∃Y' a,(r=.nx Y'\/r=.ct Y')/\a<m/\I a Y')\/∃k d Y',r=.rt k d Y'/\Q (.rt k d Y'))):∀n m Y,m<n->I m Y->Wp (jf fg ft fb n Y) Q
 |0,m,Y,h,_=>absurd h (Nat.not_lt_zero _)
 |n+1,m,Y,h,hI=>by
  obtain⟨⟨b,g⟩,e1,i,j⟩:=f m Y hI
  cases b with
  |false=>show⟨.nx g,by unfold jf;rw[e1],i rfl⟩
  |true=>
   obtain⟨r,e2,c⟩:=j rfl;rcases c with⟨Y',a,c,o,e⟩|⟨k,d,Y',rfl,q⟩
   ·obtain⟨x,e3,l⟩:=mx I f n a Y' (by lia) e;show⟨x,?_,l⟩;unfold jf;rw[e1];dsimp only at e2⊢;rw[e2]
    rcases c with rfl|rfl<;>show e3
   ·show⟨_,?_,q⟩;unfold jf;rw[e1];dsimp only at e2⊢;rw[e2]
theorem Cn{U:GG}{N:Nat}{pn:List Nat}{Y:Ro}{Q:Res->Prop}{rest:bw}{fg:List Nat}{t:MT}{b:bw}(I:Nat->Ro->Prop){m0:Nat}(j:m0<N)(i:I m0 Y)
  (hs:∀m Y,I m Y->Wp (bH U t (clrN fg Y)) λp=>(p.1=Po->Wp (aq U N rest pn p.2) Q)/\(p.1=Pm->Wp (aq U N b pn p.2) λr=>(∃a f,(r=.nx a\/r=.ct a)/\f<m/\I f a)\/∃k d a,r=.rt k d a/\Q (.rt k d a))):Wp (aq U N (.cons (.wh fg t b) rest) pn Y) Q:=by
 obtain⟨r,e,q⟩:=mx (fg:=fg) (ft:=bH U t) (fb:=aq U N b pn) (Q:=Kt U N rest pn Q) I (λm Y h=>(hs m Y h).mono λp c=>⟨c.1,λe=>(c.2 e).mono λr g=>g.imp id λ⟨k,d,a,e,q⟩=>⟨k,d,a,e,q⟩⟩) N m0 Y j i;show dW ⟨r,by rw[EC];show e,q⟩
noncomputable abbrev sp(w p:Nat):Int×Int:=((w:Int),(p:Int))
def pk(p:Int×Int):DK:=.inr (kP p)
noncomputable abbrev dic(ks:List (Int×Int))(vs:List D):D:=.nd (.dic 1 (ks.map pk)) vs
theorem yM(h:pk p=pk q):p=q:=by
 unfold pk at h;injection h with h;injection h with h1 h2;injection h2 with h2 _;injection h1 with h1;injection h1 with h1;injection h2 with h2;injection h2 with h2;show Prod.ext h1 h2
theorem p4{p:Int×Int}:∀{ks:List (Int×Int)} {n:Nat},ks.Nodup->ks[n]?=Pj p->aS (ks.map pk) (pk p)=Pj n
 |[],n,_,h=>by simp at h
 |q::ks,0,_,h=>by
  simp at h;subst h;unfold aS;rw[Mx,MV,if_pos (by simp)]
 |q::ks,n+1,nd,h=>by
  let h:ks[n]?=Pj p:=by simpa using h
  let a:¬pk q=pk p:=λe=>(Mw.mp nd).1 (yM e▸Mu h);have:=p4 (Mw.mp nd).2 h;unfold aS at this⊢;rw[Mx,MV,if_neg (by simpa using a),this];rfl
theorem iJ:∀{ks:List (Int×Int)},(aS (ks.map pk) (pk p)).isSome=decide (p∈ks)
 |[]=>by simp[aS]
 |q::ks=>by
  have:=iJ (p:=p) (ks:=ks);unfold aS at this⊢;rw[Mx,MV];by_cases e:pk q=pk p
  ·rw[if_pos (by simpa using e),yM e];simp
  ·let e2:¬p=q:=λz=>e (by rw[z]);rw[if_neg (by simpa using e),N1,this];simp[e2]
theorem p5{ks:List (Int×Int)}(h:p∉ks):aS (ks.map pk) (pk p)=Pl:=by
 have:=iJ (p:=p) (ks:=ks);rw[decide_eq_false h] at this;simpa using this
section
variable {U:Nat->Option Fn} {Y:Ro} {a b c:IE} {r:fU} {k k' k'':Kd} {i j l:Int} {x y z:Bool} {d d':D} {xs vs:List D} {hd:Hd} {p:Int×Int} {ks:List (Int×Int)}
theorem gA{n:Nat}(f:aa U a Y=Pj (k,dic ks vs))(h:aa U b Y=Pj (k',pD p))(e:ks.Nodup)(g:ks[n]?=Pj p)(c:vs[n]?=Pj d):aa U (.ix a b) Y=Pj (oN k n,d):=by
 rw[xp,f,h];change qR k (1,ks.map pk,vs) (pD p)=_;unfold qR;rw[show iW (pD p)=Pj (pk p) from rfl]
 change(if hUq 1 (pk p)=Pm then(match aS (ks.map pk) (pk p) with|some j=>(vs[j]?).map λd=>(oN k j,d)|none=>Pl) else Pl)=_
 rw[if_pos (by rfl),p4 e g];change(vs[n]?).map _=_;rw[c];rfl
theorem Ll(p:Int×Int)(ks:List (Int×Int))(vs:List D):cA .In (pD p) (dic ks vs)=Pj (decide (p∈ks)):=by
 change(if hUq 1 (pk p)=Pm then Pj (aS (ks.map pk) (pk p)).isSome else Pl)=_
 rw[if_pos (by rfl),iJ]
theorem IF(p:Int×Int)(ks:List (Int×Int))(vs:List D):cA .NotIn (pD p) (dic ks vs)=Pj (!decide (p∈ks)):=by
 change(if hUq 1 (pk p)=Pm then Pj (!(aS (ks.map pk) (pk p)).isSome) else Pl)=_
 rw[if_pos (by rfl),iJ]
theorem lI(c:aa U a Y=Pj (k,pD p))(d:aa U b Y=Pj (k',dic ks vs)):aE U (.cmp .In a b) Y=Pj (decide (p∈ks)):=dF c d (Ll p ks vs)
theorem uk(c:aa U a Y=Pj (k,pD p))(d:aa U b Y=Pj (k',dic ks vs)):aE U (.cmp .NotIn a b) Y=Pj (!decide (p∈ks)):=dF c d (IF p ks vs)
theorem my{n:Nat}(c:aa U a Y=Pj (k,.obj cn ns xs))(e:aZ f ns=Pj n)(b:xs[n]?=Pj d):aa U (.fld f a) Y=Pj (oN k n,d):=by
 rw[Ar,c]
 change(match aZ f ns with|some j=>(xs[j]?).map λd=>(oN k j,d)|none=>Pl)=_
 rw[e];change(xs[n]?).map _=_;rw[b];rfl
end
theorem ul{ks:List (Int×Int)}{vs:List D}{p:Int×Int}{x:KD}(c:p∉ks)(a:vs.length<100000)(b:bM .fz x=Pm):ny [] .fz (.dic 1 (ks.map pk)) vs (pD p) x=Pj (.dic 1 ((ks++[p]).map pk),vs++[x.2]):=by
 change(if hUq 1 (pk p)=Pm/\vs.length<100000 then(match aS (ks.map pk) (pk p) with|some j=>if bM (([]:List Ow).getD j .fz) x=Pm/\(ks.map pk).Nodup/\j<vs.length then Pj (Hd.dic 1 (ks.map pk),vs.set j x.2) else Pl|none=>if([]:List Ow).length<=vs.length/\bM .fz x=Pm then Pj (Hd.dic 1 (ks.map pk++[pk p]),vs++[x.2]) else Pl) else Pl)=_
 rw[if_pos ⟨rfl,a⟩,p5 c]
 change(if([]:List Ow).length<=vs.length/\bM .fz x=Pm then Pj (Hd.dic 1 (ks.map pk++[pk p]),vs++[x.2]) else Pl)=_
 rw[if_pos ⟨ML _,b⟩,MS];rfl
section
variable {U:GG} {N:Nat} {pn:List Nat} {Y:Ro} {Q:Res->Prop} {rest:bw}
theorem yN{i:Nat}{ks:List (Int×Int)}{vs:List D}{p:Int×Int}{x y:KD}(a:Y[i]?=Pj (Pj ⟨Po,k0,dic ks vs⟩))(f:aa U.fn e Y=Pj x)(hk:aa U.fn kx Y=Pj y)(g:y.2=pD p)(b:p∉ks)(c:vs.length<100000)(d:bM .fz (dJ x.1 x.2,x.2)=Pm)(w:Wp (aq U N rest pn (Y.set i (Pj ⟨Po,k0,dic (ks++[p]) (vs++[x.2])⟩))) Q):Wp (aq U N (.cons (.put (.nm i) kx (.p e)) rest) pn Y) Q:=by
 show mn (ci (wv f (vo (r:=(k0,dic ks vs,id)) ?_ (wv hk (jl rfl rfl a (jm (r:=(.dic 1 ((ks++[p]).map pk),vs++[x.2])) ?_ w))))))
 ·change gu Y[i]?=_;rw[a];rfl
 ·rw[g];show ul b c d
end
structure Ci where
 ins:Nat
 mems:List (Bool×Nat)
 gates:List (Nat×List Nat)
 outs:List Nat
noncomputable abbrev bD(b:Bool):D:=.int (b.toNat:Int)
def dD(m:Bool×Nat):D:=.tup [bD m.1,iD m.2]
def bu(g:Nat×List Nat):D:=.tup [iD g.1,.tup (g.2.map iD)]
def cD(c:Ci):D:=.tup [iD c.ins,.lst (c.mems.map dD),.lst (c.gates.map bu),.lst (c.outs.map iD)]
noncomputable def Ci.f(c:Ci):Nat:=c.ins+c.mems.length
def Ci.n(c:Ci):Nat:=c.f+c.gates.length
structure Ok(c:Ci):Prop where
 g:∀(k:Nat) g,c.gates[k]?=Pj g->g.2.length<=3/\∀p∈g.2,p<c.f+k
 m:∀m∈c.mems,m.2<c.n
 o:∀o∈c.outs,o<c.n
 bi:c.ins<=10
 bm:c.mems.length<=10
 bg:c.gates.length<=20
 bo:c.outs.length<=10
theorem Ok.bn{c:Ci}(h:Ok c):c.n<=40:=by
 have:=h.bi;have:=h.bm;have:=h.bg;unfold Ci.n Ci.f
 lia
theorem Co{p q:Prop}[Decidable p][Decidable q](h:p↔q):((Kd.sh,D.bl (decide p)):KD)=(.sh,.bl (decide q)):=by rw[decide_eq_decide.mpr h]
theorem p6(i:Int):ψ0 [.int i]=Pj (.sh,.bl Pm):=by
 unfold ψ0;show gQ rfl ?_;unfold b0;show cg (dP (x:=Pm) (uj (d:=.int i) (k:=.sh) rfl rfl) λ_=>jI (Iz (uj (d:=.int i) (k:=.sh) rfl rfl) rfl)) rfl (iI rfl rfl)
theorem iK(a b:Nat):ψ1 [iD a,iD b]=Pj (.sh,.bl (decide (a<b))):=by
 unfold ψ1;show gQ rfl ?_;unfold b1;show cg (x:=(.sh,.bl (Pm&&(decide ((0:Int)<=a)&&decide ((a:Int)<b))))) (dP (x:=Pm) (bK (B:=ψ0) (ds:=[iD a]) rfl (e1 (p:=(.sh,iD a)) rfl) rfl rfl (p6 _) rfl) λ_=>jI (Ba (k:=.sh) (k':=.sh) (k'':=.sh) rfl rfl rfl)) rfl (iI rfl ?_);rw[Os,decide_eq_true (show(0:Int)<=a by lia),Os];show Co Int.ofNat_lt
theorem lp(ds:List D)(n:Nat):ψ4 [.tup ds,iD n]=Pj (.sh,.bl (decide (ds.length=n))):=by
 unfold ψ4;show gQ rfl ?_;unfold b4;show cg (x:=(.sh,.bl (Pm&&decide ((ds.length:Int)=n)))) (dP (x:=Pm) (uj (d:=.tup ds) (k:=.sh) rfl rfl) λ_=>jI (iG (rS (k:=.sh) (k':=.sh) (mw (k:=.sh) (d:=.tup ds) (n:=ds.length) rfl rfl) rfl))) rfl (iI rfl ?_);rw[Os];show Co Int.natCast_inj
theorem mz(c:Ci):ψ5 [cD c]=Pj (.sh,iD c.n):=by
 unfold ψ5;show gQ rfl ?_;unfold b5;let a:∀(n:Nat) d,[iD c.ins,D.lst (c.mems.map dD),.lst (c.gates.map bu),.lst (c.outs.map iD)][n]?=Pj d->aa U_4.fn (.ix (.var 0) (.lit (.int (n:Int)))) [fS (cD c)]=Pj (.sh,d):=λn d h=>cN (k:=.sh) (k':=.sh) (n:=n) rfl rfl (.inr rfl) rfl h;show cg (bx (k:=.sh) (k':=.sh) (bx (k:=.sh) (k':=.sh) (a 0 _ rfl) (mw (n:=c.mems.length) (a 1 _ rfl) (by change Pj _=_;rw[Mh]))) (mw (n:=c.gates.length) (a 2 _ rfl) (by change Pj _=_;rw[Mh]))) rfl (iI rfl ?_);unfold Ci.n Ci.f;change(Kd.sh,D.int _)=(Kd.sh,D.int _);rfl
theorem um{w p a b c:Nat}(e:w<2)(f:p < [a,b].getD w 0):ψ9 [pD (sp w p),.lst [iD a,iD b,iD c]]=Pj (.sh,.bl Pm):=by
 unfold ψ9;show gQ rfl ?_;unfold b9;let d:aa U_8.fn (.ix (.var 0) (.lit (.int 0))) [fS (pD (sp w p)),fS (.lst [iD a,iD b,iD c])]=Pj (.sh,iD w):=cN (k:=.sh) (k':=.sh) (n:=0) (hd:=.tup) (xs:=[iD w,iD p]) rfl rfl (.inr rfl) rfl rfl;let h:aa U_8.fn (.ix (.var 0) (.lit (.int 1))) [fS (pD (sp w p)),fS (.lst [iD a,iD b,iD c])]=Pj (.sh,iD p):=cN (k:=.sh) (k':=.sh) (n:=1) (hd:=.tup) (xs:=[iD w,iD p]) rfl rfl (.inr rfl) rfl rfl
 let g:aa U_8.fn (.ix (.var 1) (.ix (.var 0) (.lit (.int 0)))) [fS (pD (sp w p)),fS (.lst [iD a,iD b,iD c])]=Pj (.sh,iD ([a,b].getD w 0)):=cN (k:=.sh) (k':=.sh) (n:=w) (hd:=.lst) (xs:=[iD a,iD b,iD c]) rfl d (.inl rfl) rfl (by
  match w,e with
  |0,_=>rfl
  |1,_=>rfl)
 show cg (x:=(.sh,.bl (Pm&&(Pm&&Pm)))) (dP (x:=Pm) (bK (B:=ψ4) (ds:=[pD (sp w p),iD 2]) rfl (e2 (p:=(.sh,pD (sp w p))) (q:=(.sh,iD 2)) rfl rfl) rfl rfl (lp [iD w,iD p] 2) rfl) λ_=>dP (x:=Pm) (bK (B:=ψ1) (p:=(.sh,.bl Pm)) (ds:=[iD w,iD 3]) rfl (e2 d (q:=(.sh,iD 3)) rfl) rfl rfl ?_ rfl) λ_=>jI (bK (B:=ψ1) (p:=(.sh,.bl Pm)) (ds:=[iD p,iD ([a,b].getD w 0)]) rfl (e2 h g) rfl rfl ?_ rfl)) rfl (iI rfl rfl)
 ·rw[iK,decide_eq_true (by lia)]
 ·rw[iK,decide_eq_true f]
theorem nQ(a b:Nat):Builtin.bitAnd (a:Int) b=((a &&& b:Nat):Int):=by
 rw[PyProof.Rows.bitAnd_pp (by lia) (by lia)];rfl
theorem Bb:∀a b:Nat,a+b=(a ^^^ b)+2*(a &&& b):=by
 intro a
 induction a using Nat.strongRecOn with
 |ind a c=>
  intro b;by_cases d:a=0
  ·subst d;simp
  have:=c (a / 2) (by lia) (b / 2);rw[<- Nat.xor_div_two,<- Nat.and_div_two] at this;let f:(a &&& b)%2=1↔a%2=1/\b%2=1:=Nat.and_mod_two_eq_one;let e:(a ^^^ b)%2=1↔¬(a%2=1↔b%2=1):=Nat.xor_mod_two_eq_one
  lia
theorem Bc(a b:Nat):Builtin.bitXor (a:Int) b=((a ^^^ b:Nat):Int):=by
 rw[PyProof.Rows.bitXor_and,nQ];have:=Bb a b
 lia
theorem Bd(a i:Nat):Builtin.bitAnd ((a:Int) / 2^i) 1=((a.testBit i).toNat:Int):=by
 rw[PyProof.Rows.bitAnd_m1,Nat.testBit_eq_decide_div_mod_eq];have:(a:Int) / 2^i=((a / 2^i:Nat):Int):=by simp
 rw[this];rcases Nat.mod_two_eq_zero_or_one (a / 2^i) with h|h
 ·rw[decide_eq_false (by lia)];change _=((0:Nat):Int);lia
 ·rw[decide_eq_true h];change _=((1:Nat):Int);lia
noncomputable abbrev W(n:Nat):Nat:=2^2^n-1
theorem Ma{α:Type}{a:Option α}{r:α}{Q:α->Prop}(h:Wp a λx=>x=r)(q:Q r):Wp a Q:=h.mono λx e=>by subst e;show q
section
variable {U:Nat->Option Fn} {Y:Ro} {Q:KD->Prop} {k k':Kd}
theorem lq(q:Q (.sh,iD (a ^^^ b))):Wp (f6 .BitXor (k,iD a) (k',iD b)) Q:=⟨(.sh,.int (Builtin.bitXor a b)),rfl,by rw[Bc];show q⟩
theorem yO(q:Q (.sh,iD (a &&& b))):Wp (f6 .BitAnd (k,iD a) (k',iD b)) Q:=⟨(.sh,.int (Builtin.bitAnd a b)),rfl,by rw[nQ];show q⟩
theorem Fa{x i:Nat}(d:Wp (aa U a Y) λy=>y.2=iD x)(h:Wp (aa U b Y) λy=>y.2=iD i)(q:Q (.sh,bD (x.testBit i))):Wp (aa U (.bin .BitAnd (.bin .RShift a b) (.lit (.int 1))) Y) Q:=by
 show bc (bc (d.mono λy g=>h.mono λz c=>?_));obtain⟨k,e⟩:=y;obtain⟨j,f⟩:=z;cases(show e=_ from g);cases(show f=_ from c);show EJ (by lia) (bb ⟨(.sh,.int (Builtin.bitAnd ((x:Int) / 2^((i:Int)).toNat) 1)),rfl,?_⟩);rw[show((i:Int)).toNat=i from Nd i,Bd];show q
end
theorem Be(a:Nat){w:Nat}(b:w<=1000):ψ2 [iD a,iD w]=Pj (.fr k0,.lst ((MH w).map λk=>bD (a.testBit k))):=by
 unfold ψ2;show gQ rfl ?_;unfold b2;show cg (IC (k:=.sh) (n:=w) (g:=λk=>bD (a.testBit k)) rfl (by lia) λi c=>Ck rfl (Fa (x:=a) (i:=i) (aL rfl rfl) (aL rfl rfl) ⟨_,rfl,rfl⟩)) rfl (iI rfl rfl)
theorem jo{n:Nat}(c:n<=8):ψ6 [iD n]=Pj (.sh,iD (W n)):=by
 unfold ψ6;show aH (nN rfl ?_);unfold b6;let a:(1:Int)*2^((n:Int)).toNat=((2^n:Nat):Int):=by rw[Nd];simp
 let d:2^n<=256:=NI (n:=2) (by decide) c;let b:0<=(1:Int)*2^((n:Int)).toNat/\(1:Int)*2^((n:Int)).toNat<=1000000:=by rw[a];clear a;generalize 2^n=p at d;lia
 show dA (ci (bc (bc (bb (bc (bb (aL rfl (rK ⟨by lia,by lia,by decide⟩ (rK ⟨b.1,b.2,by decide⟩ (bb (yo ⟨rfl,ee rfl ?_⟩)))))))))));rw[a,Nd];have:0<2^2^n:=OJ _;change(Kd.sh,D.int _)=(Kd.sh,D.int _);congr 2;rw[Int.one_mul,show((2:Int)^2^n)=((2^2^n:Nat):Int) by simp,Int.ofNat_sub (by lia)];rfl
noncomputable def combos:List (Nat×Nat):=((MH 9).map λn=>(MH n).map λk=>(k,n)).flatten
theorem vK:∀n,n<=8->∀k,k<n->(k,n)∈combos:=by nofun
def gR(k n:Nat):Nat:=match ψ7 [iD k,iD n] with|some (_,.int z)=>z.toNat|_=>0
def Cp(p:Nat×Nat):Bool:=match ψ7 [iD p.1,iD p.2] with|some (.sh,.int z)=>decide (0<=z)|_=>Po
theorem yP:combos.all Cp=Pm:=by kernel_rfl
theorem vL{k n:Nat}(a:n<=8)(hk:k<n):ψ7 [iD k,iD n]=Pj (.sh,iD (gR k n)):=by
 let h:=Nx.mp yP _ (vK n a k hk);unfold Cp at h;unfold gR;dsimp only at h;split at h
 ·ext z e;rw[e];have:=of_decide_eq_true h;change Pj (Kd.sh,D.int z)=Pj (Kd.sh,D.int _);rw[Int.toNat_of_nonneg this]
 ·cases h
theorem IG:G.jy 2 Pl (Pj 2)=[0]/\G.jy 2 (Pj 1) (Pj 2)=[1]:=by nofun
theorem IH:G.jy 4 Pl (Pj 2)=[0,2]/\G.jy 4 (Pj 1) (Pj 2)=[1,3]:=by nofun
theorem IJ:G.jy 8 Pl (Pj 2)=[0,2,4,6]/\G.jy 8 (Pj 1) (Pj 2)=[1,3,5,7]:=by nofun
theorem Cq{Q:KD->Prop}(h:eA k xs=Pm/\1<=z)(q:Q (.fr aO,.lst (G.cj xs l (Pj z)))):Wp (u6 (Pj (k,.nd .lst xs)) (Pj l) (Pj (k',.int z))) Q:=⟨_,if_pos h,q⟩
theorem yQ:∀{L:List Nat} {m:Nat},m<=2->L.length=2^(m+1)->oY (Pj (.fr aO,.lst (G.cj (L.map iD) Pl (Pj 2)))) (Pj (.fr aO,.lst (G.cj (L.map iD) (Pj 1) (Pj 2))))=Pj ([],(MH (2^m)).map λj=>D.tup [iD (L.getD (2*j) 0),iD (L.getD (2*j+1) 0)]):=by
 intro L m k i
 match m,k with
 |0,_=>
  match L,i with
  |[a,b],_=>
   unfold G.cj;rw[show(N7 iD [a,b]).length=2 from rfl,IG.1,IG.2];rfl
 |1,_=>
  match L,i with
  |[a,b,c,d],_=>
   unfold G.cj;rw[show(N7 iD [a,b,c,d]).length=4 from rfl,IH.1,IH.2];rfl
 |2,_=>
  match L,i with
  |[a,b,c,d,e,f,g,h],_=>
   unfold G.cj;rw[show(N7 iD [a,b,c,d,e,f,g,h]).length=8 from rfl,IJ.1,IJ.2];rfl
theorem IK{n:Nat}(a:n<=8):((W n:Nat):Int).natAbs<lim:=by
 have:2^n<=256:=NI (n:=2) (by decide) a;have:W n<2^256:=Mo (Nat.sub_lt (OJ _) (by decide)) (NI (by decide) this);rw[O3];show NY this (by unfold lim;decide)
theorem Bf(t:Nat){n:Nat}{xs:List Nat}(w:n<=8)(z:xs.length<=3):∃y:Nat,ψ8 [iD t,.lst (xs.map iD),iD (W n)]=Pj (.sh,iD y):=by
 suffices h:Wp (ψ8 [iD t,.lst (xs.map iD),iD (W n)]) λr=>∃y:Nat,r=(.sh,iD y) by
  obtain⟨r,e,y,rfl⟩:=h;show⟨y,e⟩
 unfold ψ8;show nN rfl ?_;unfold b8;let H:2^xs.length<=8:=NI (n:=2) (by decide) z
 let F:aa U_7.fn (.bin .LShift (.lit (.int 1)) (.blt "len" (.cons (.var 1) .nil))) [fS (iD t),fS (.lst (xs.map iD)),fS (iD (W n)),Pl,Pl]=Pj (.sh,iD (2^xs.length)):=by
  have:=aH (bc (bb (wv (mw (U:=U_7.fn) (a:=.var 1) (Y:=[fS (iD t),fS (.lst (xs.map iD)),fS (iD (W n)),Pl,Pl]) (k:=.sh) (d:=.lst (xs.map iD)) (n:=xs.length) rfl (by change Pj _=_;rw[Mh])) (rK (i:=1) (j:=(xs.length:Int)) (k:=.sh) (k':=.sh) ⟨by lia,by lia,by decide⟩ rfl))));rw[this];change Pj (Kd.sh,D.int _)=Pj (Kd.sh,D.int _);rw[Nd];simp
 show aN (rT (l:=MH (2^xs.length)) (f:=λj=>bD (t.testBit j)) (g:=λj=>iD (W n*(t.testBit j).toNat)) (.inl rfl) (bK (B:=ψ2) (ds:=[iD t,iD (2^xs.length)]) rfl (e2 (p:=(.sh,iD t)) rfl F) rfl rfl (Be t (by lia)) rfl) rfl (by simp;lia) λj _=>Ck rfl (bc (aL rfl (aL rfl (yp ⟨IK w,?_⟩ ⟨.sh,?_,rfl⟩))))) rfl (by decide) ?_
 ·cases t.testBit j<;>decide
 ·change Pj (Kd.sh,D.int _)=Pj (Kd.sh,D.int _);rw[Int.natCast_mul]
 change Wp (aq _ _ _ _ [fS (iD t),fS (.lst (xs.map iD)),fS (iD (W n)),bJ (.lst ((MH (2^xs.length)).map λj=>iD (W n*(t.testBit j).toNat))),Pl]) _;show eR (cQ (ji (aL rfl (fF rfl ⟨λs Y=>s<=xs.length/\∃L q,Y=[fS (iD t),fS (.lst (xs.map iD)),fS (iD (W n)),bJ (.lst (L.map iD)),q]/\L.length=2^(xs.length-s),⟨ML _,(MH (2^xs.length)).map (λj=>W n*(t.testBit j).toNat),Pl,?_,by simp⟩,λs d Y hd o=>?_,λY o=>?_⟩))))
 ·rw[MB];rfl
 ·obtain⟨v,L,q,rfl,b⟩:=o;let hd:(xs.map iD)[s]?=Pj d:=hd;rw[Mj] at hd
  cases e:xs[s]? with
  |none=>rw[e] at hd;cases hd
  |some x=>
   rw[e] at hd;cases hd;let E:=(Mg.mp e).1;obtain⟨m,A⟩:∃m,xs.length-s=m+1:=⟨xs.length-s-1,by lia⟩;rw[A] at b;show⟨[(4,iD x)],rfl,rfl,?_⟩;change Wp (aq _ _ _ [] [fS (iD t),fS (.lst (xs.map iD)),fS (iD (W n)),bJ (.lst (L.map iD)),fS (iD x)]) _;let u:=yQ (L:=L) (m:=m) (by lia) b;show dO (ci (eM (ym (yj (aL rfl (lg (bb (Cq ⟨rfl,by decide⟩ (yj (aL rfl (nG (bb ⟨1,rfl,bb (Cq ⟨rfl,by decide⟩ ⟨_,u,?_⟩)⟩))))))))))));let C:2^m<=8:=NI (n:=2) (by decide) (show m<=3 by lia);show⟨by simp;lia,Ma (ln (g:=λj=>iD (L.getD (2*j) 0 ^^^ ((L.getD (2*j) 0 ^^^ L.getD (2*j+1) 0) &&& x))) λj _=>ID rfl (bc (aL rfl (bc (bc (aL rfl (aL rfl (lq (aL rfl (yO (lq ⟨_,rfl,rfl⟩))))))))))) ⟨⟨rfl,by decide⟩,ba ⟨_,.inl rfl,by lia,(MH (2^m)).map (λj=>L.getD (2*j) 0 ^^^ ((L.getD (2*j) 0 ^^^ L.getD (2*j+1) 0) &&& x)),Pj ⟨Po,.fz,iD x⟩,?_,?_⟩⟩⟩
   ·rw[MB];rfl
   ·rw[show xs.length-(s+1)=m by lia];simp
 ·obtain⟨v,L,q,rfl,b⟩:=o;let c:(xs.map iD).length=xs.length:=Mh _;let b:L.length=2^(xs.length-(xs.map iD).length):=b;rw[c,OC] at b
  match L,b with
  |[y],_=>show cg (cN (k:=.bo 3 k0) (k':=.sh) (n:=0) (hd:=.lst) (xs:=[iD y]) rfl rfl (.inl rfl) rfl rfl) rfl (ee rfl ⟨y,rfl⟩)
section
variable {U:Nat->Option Fn} {Y:Ro} {a b c:IE} {r:fU} {k k' k'':Kd} {d d':D} {hd:Hd}
theorem nR{α:Type}(l:List α)(f:α->D):(l.map f).mapIdx (λi d=>D.tup [.int i,d])=l.zipIdx.map λp=>D.tup [iD p.2,f p.1]:=by
 rw[List.mapIdx_eq_zipIdx_map,Ph,MB];rfl
theorem rU{ds:List D}{P:List Nat×List D->Prop}(h:eA k ds=Pm)(q:P (oW k,ds.mapIdx λi d=>D.tup [.int i,d])):Wp (oX (Pj (k,.nd .lst ds))) P:=⟨(oW k,ds.mapIdx λi d=>D.tup [.int i,d]),by unfold oX;rw[show ia (Pj (k,.nd .lst ds))=Pj (oW k,ds) from if_pos h];rfl,q⟩
theorem Fb{α:Type}{l:List α}{f:α->D}{g:α×Nat->D}{r:Ow}{cap:List (Option Nat)}{tg:IT}{a elt:IE}(j:aa U a Y=Pj (k,.lst (l.map f)))(c:eA k (l.map f)=Pm)(d:l.length<=100000)
  (h:∀(i:Nat) a,l[i]?=Pj a->Wp (dR tg (di U .non) (aa U elt) (aT Y cap) (.tup [iD i,f a])) λo=>∃b,o=Pj (b,g (a,i))/\bM r (b,g (a,i))=Pm):aa U (.comp r cap tg (.enm a) .non elt) Y=Pj (.fr (.own [] r),.lst (l.zipIdx.map g)):=by
 show aH (eM (nH (wv j (rU c ⟨by simpa using d,?_⟩))));rw[nR];show(ln (g:=g) λp m=>?_).mono λn e=>by rw[e]
 show h p.2 p.1 (Oi.mp m)
theorem p7{α:Type}(l:List α):(l.map λ_=>D.bl Pm)=((l.map λ_=>Pm).map D.bl):=by rw[MB];rfl
theorem yR{α:Type}(l:List α):(l.map λ_=>Pm).all id=Pm:=by simp
theorem fH{α:Type}{l:List α}{f:α->D}(i:hd=.lst\/hd=.tup)(c:aa U a Y=Pj (k,.nd hd (l.map f)))(b:eA k (l.map f)=Pm)(m:l.length<=100000)(j:∀d,bY [(1,d)] (aT Y cap)=Pm)(h:∀a∈l,aa U elt (setAll [(1,f a)] (aT Y cap))=Pj (.sh,.bl Pm)):aa U (.blt "all" (.cons (.comp .fz cap (.nm 1) (.e a) .non elt) .nil)) Y=Pj (.sh,.bl Pm):=by
 have:=rT (r:=.fz) (tg:=.nm 1) (elt:=elt) (cap:=cap) (g:=λ_=>D.bl Pm) i c b m λx n=>Ck (j _) (wv (h x n) ⟨.sh,rfl,rfl⟩);rw[p7] at this;have:=Cm this;rw[yR] at this;show this
theorem Cr{α:Type}{l:List α}{f:α->D}{cap:List (Option Nat)}{a elt:IE}(c:aa U a Y=Pj (k,.lst (l.map f)))(b:eA k (l.map f)=Pm)(j:l.length<=100000)(e:∀d d',bY [(1,d),(2,d')] (aT Y cap)=Pm)
  (h:∀(i:Nat) a,l[i]?=Pj a->aa U elt (setAll [(1,iD i),(2,f a)] (aT Y cap))=Pj (.sh,.bl Pm)):aa U (.blt "all" (.cons (.comp .fz cap (.tp [.nm 1,.nm 2]) (.enm a) .non elt) .nil)) Y=Pj (.sh,.bl Pm):=by
 have:=Fb (r:=.fz) (tg:=.tp [.nm 1,.nm 2]) (elt:=elt) (cap:=cap) (g:=λ_=>D.bl Pm) c b j λi x m=>ID (e _ _) (wv (h i x m) ⟨.sh,rfl,rfl⟩);rw[p7] at this;have:=Cm this;rw[yR] at this;show this
theorem bP{α:Type}{l:List α}{f:α->D}(c:aa U a Y=Pj (k,.nd hd (l.map f)))(b:hd=.lst\/hd=.tup):aa U (.blt "len" (.cons a .nil)) Y=Pj (.sh,iD l.length):=
 mw c (by rcases b with rfl|rfl<;>show congrArg Pj (Mh _))
theorem IL(xs:List D)(lo hi:Option Int):DJ (Pj (.sh,.tup xs)) (Pj lo) (Pj hi)=Pj (.sh,.tup (jN xs lo hi)):=by
 change(if eA Kd.sh xs=Pm then Pj (Kd.sh,D.tup (jN xs lo hi)) else Pl)=_
 show if_pos rfl
theorem yS{xs:List D}{n:Nat}(c:aa U a Y=Pj (.sh,.tup xs))(b:n<=xs.length):aa U (.sl a .non (.som (.lit (.int (n:Int))))) Y=Pj (.sh,.tup (xs.take n)):=by
 show aH (t6 (wv c (lg (nG (bb ⟨(n:Int),rfl,⟨_,IL xs Pl (Pj (n:Int)),?_⟩⟩)))));unfold jN;rw[HT.ox,HT.sj,Nat.min_eq_left b,OO,O0]
theorem p8{es:fU}{kds:List KD}{r:Ow}(b:aP U es Y=Pj kds)(a:oP [] r kds=Pm/\kds.length<=100000):aa U (.lst (.own [] r) es) Y=Pj (.fr (.own [] r),.lst (kds.map (·.2))):=aH (rG (wv b (rM (if_pos a) rfl)))
theorem gB{kds:List KD}(b:aP U es Y=Pj kds)(a:(kds.all λp=>qM p.1 p.2)=Pm/\kds.length<=100000):aa U (.tup .fz es) Y=Pj (.sh,.tup (kds.map (·.2))):=aH (yh (wv b (dX (if_pos a) rfl)))
end
theorem eS{U:GG}{N:Nat}{pn:List Nat}{Y:Ro}{Q:Res->Prop}{rest:bw}{a:List Nat}{e:IE}{ds:List D}(h:aa U.fn e Y=Pj (.sh,.tup ds))(b:a.length=ds.length/\(a.all λi=>!pn.contains i)=Pm)(w:Wp (aq U N rest pn (rq a ds [] .fz Y)) Q):Wp (aq U N (.cons (.unp a (.p e)) rest) pn Y) Q:=
 ET (ci (wv h ⟨ds,[],.fz,rfl,rfl,b,w⟩))
def gT(a:Nat)(fr:List Nat):D:=.tup [pD (sp 0 a),pD (sp 1 a),.lst (fr.map iD),.lst (([]:List Nat).map iD)]
theorem yT{n m a:Nat}{fr:List Nat}(c:a<n)(o:fr.length<=8)(i:∀p∈fr,p<m):FS [gT a fr,.lst [iD n,iD n,iD 0],iD m]=Pj (.sh,.bl Pm):=by
 unfold FS;show gQ rfl ?_;unfold KO;change Wp (aq _ _ _ [] [fS (gT a fr),fS (.lst [iD n,iD n,iD 0]),fS (iD m),Pl,Pl]) _;let g:∀(j:Nat) d,[pD (sp 0 a),pD (sp 1 a),.lst (fr.map iD),.lst (([]:List Nat).map iD)][j]?=Pj d->aa U_12.fn (.ix (.var 0) (.lit (.int (j:Int)))) [fS (gT a fr),fS (.lst [iD n,iD n,iD 0]),fS (iD m),Pl,Pl]=Pj (.sh,d):=λj d h=>cN (k:=.sh) (k':=.sh) (n:=j) rfl rfl (.inr rfl) rfl h;show fG (z:=Po||(Po||false)) (x:=(.sh,.bl Po)) (vI (fj (x:=Pm) (vJ (k:=.sh) (bK (B:=ψ4) (p:=(.sh,.bl Pm)) (ds:=[gT a fr,iD 4]) rfl (e2 (p:=(.sh,gT a fr)) (q:=(.sh,iD 4)) rfl rfl) rfl rfl (lp _ 4) rfl))) λ_=>vI (fj (x:=Pm) (vJ (k:=.sh) (bK (B:=ψ9) (p:=(.sh,.bl Pm)) (ds:=[pD (sp 0 a),.lst [iD n,iD n,iD 0]]) rfl (e2 (g 0 _ rfl) (q:=(.sh,.lst [iD n,iD n,iD 0])) rfl) rfl rfl (um (by decide) c) rfl))) λ_=>jH (fj (x:=Pm) (vJ (k:=.sh) (bK (B:=ψ9) (p:=(.sh,.bl Pm)) (ds:=[pD (sp 1 a),.lst [iD n,iD n,iD 0]]) rfl (e2 (g 1 _ rfl) (q:=(.sh,.lst [iD n,iD n,iD 0])) rfl) rfl rfl (um (by decide) c) rfl)))) (λe=>by cases e) λ_=>?_;show eS (ds:=[.lst (fr.map iD),.lst (([]:List Nat).map iD)]) (aH (t6 (wv (show aa U_12.fn (.var 0) _=Pj (.sh,gT a fr) from rfl) (nG (bb ⟨2,rfl,lg ⟨_,IL _ (Pj 2) Pl,rfl⟩⟩))))) ⟨rfl,rfl⟩ ?_;change Wp (aq _ _ _ [] [fS (gT a fr),fS (.lst [iD n,iD n,iD 0]),fS (iD m),fS (.lst (fr.map iD)),fS (.lst (([]:List Nat).map iD))]) _;show fG (z:=Po||(Po||false)) (x:=(.sh,.bl Po)) (vI (fj (x:=Pm) (Cj (d:=.lst (fr.map iD)) (k:=.sh) rfl rfl)) λ_=>vI (fj (x:=Pm) (Cj (d:=.lst (([]:List Nat).map iD)) (k:=.sh) rfl rfl)) λ_=>jH ?_) (λe=>by cases e) λ_=>?_
 ·have:=A9 (U:=U_12.fn) (k:=.sh) (k':=.sh) (bP (U:=U_12.fn) (a:=.var 3) (Y:=[fS (gT a fr),fS (.lst [iD n,iD n,iD 0]),fS (iD m),fS (.lst (fr.map iD)),fS (.lst (([]:List Nat).map iD))]) (k:=.sh) (l:=fr) (f:=iD) rfl (.inl rfl)) (show aa U_12.fn (.lit (.int 8)) [fS (gT a fr),fS (.lst [iD n,iD n,iD 0]),fS (iD m),fS (.lst (fr.map iD)),fS (.lst (([]:List Nat).map iD))]=Pj (.sh,.int 8) from rfl);rw[this,decide_eq_false (by lia)]
 show cg (x:=(.sh,.bl (Pm&&Pm))) (dP (x:=Pm) (fH (l:=fr) (f:=iD) (k:=.sh) (.inl rfl) rfl rfl (by lia) (λ_=>rfl) λp b=>IA (x:=Pm) (y:=Pm) (bK (B:=ψ1) (p:=(.sh,.bl Pm)) (ds:=[iD p,iD m]) rfl (e2 (p:=(.sh,iD p)) (q:=(.sh,iD m)) rfl rfl) rfl rfl ?_ rfl) λe=>by cases e) λ_=>jI (fH (l:=([]:List Nat)) (f:=iD) (k:=.sh) (.inl rfl) rfl rfl (by simp) (λ_=>rfl) λp b=>by cases b)) rfl (iI rfl rfl);rw[iK,decide_eq_true (i p b)]
abbrev c9:D:=.lst (([]:List Nat).map iD)
def iL(c:Ci)(p:(Bool×Nat)×Nat):D:=gT (c.ins+p.2) [p.1.2]
def ef(c:Ci)(p:List Nat×Nat):D:=gT (c.f+p.2) p.1
def aR(c:Ci)(fs:List (List Nat)):D:=.tup [c9,.lst (c.mems.zipIdx.map (iL c)),.lst (fs.zipIdx.map (ef c)),.lst (c.outs.map iD)]
structure Bg(c:Ci)(fs:List (List Nat)):Prop where
 len:fs.length=c.gates.length
 fit:∀(k:Nat) fr,fs[k]?=Pj fr->fr.length<=8/\∀p∈fr,p<c.f+k
 has:∀(k:Nat) fr g,fs[k]?=Pj fr->c.gates[k]?=Pj g->∀p∈g.2,p∈fr
theorem Jo{α:Type}{l:List α}{p:α×Nat}{i:Nat}(h:l.zipIdx[i]?=Pj p):l[i]?=Pj p.1/\p.2=i:=by
 rw[NV] at h
 cases e:l[i]? with
 |none=>rw[e] at h;cases h
 |some a=>
  rw[e] at h;cases h;show⟨rfl,by simp⟩
theorem vM{α:Type}{l:List α}{p:α×Nat}(h:p∈l.zipIdx):l[p.2]?=Pj p.1:=Oi.mp h
theorem yU{c:Ci}{fs:List (List Nat)}(h:Ok c)(s:Bg c fs):Ic [cD c,cD c,aR c fs]=Pj (.sh,.bl Pm):=by
 let I:=h.bn;let K:=h.bm;let M:=h.bg;let L:=h.bo;let H:=s.len;unfold Ic;show gQ rfl ?_;unfold KN;change Wp (aq _ _ _ [] [fS (cD c),fS (cD c),fS (aR c fs),Pl,Pl,Pl,Pl,Pl,Pl,Pl]) _;show fG (z:=Po||false) (x:=(.sh,.bl Po)) (vI (fj (x:=Pm) (vJ (k:=.sh) (bK (B:=ψ4) (p:=(.sh,.bl Pm)) (ds:=[aR c fs,iD 4]) rfl (e2 (p:=(.sh,aR c fs)) (q:=(.sh,iD 4)) rfl rfl) rfl rfl (lp _ 4) rfl))) λ_=>jH (fj (x:=Pm) (Ch (k:=.sh) (fH (l:=[c9,.lst (c.mems.zipIdx.map (iL c)),.lst (fs.zipIdx.map (ef c)),.lst (c.outs.map iD)]) (f:=id) (k:=.sh) (.inr rfl) rfl rfl (by simp) (λ_=>rfl) λd hd=>?_)))) (λe=>by cases e) λ_=>?_
 ·let hd:d∈[c9,D.lst (c.mems.zipIdx.map (iL c)),.lst (fs.zipIdx.map (ef c)),.lst (c.outs.map iD)]:=hd;simp only[Mn,Mv,or_false] at hd
  rcases hd with rfl|rfl|rfl|rfl<;>show uj (k:=.sh) rfl rfl
 show eS (ds:=[c9,.lst (c.mems.zipIdx.map (iL c)),.lst (fs.zipIdx.map (ef c)),.lst (c.outs.map iD)]) rfl ⟨rfl,rfl⟩ ?_;change Wp (aq _ _ _ [] [fS (cD c),fS (cD c),fS (aR c fs),fS c9,fS (.lst (c.mems.zipIdx.map (iL c))),fS (.lst (fs.zipIdx.map (ef c))),fS (.lst (c.outs.map iD)),Pl,Pl,Pl]) _;show aN (p8 (kds:=[(.sh,iD c.n),(.sh,iD c.n),(.sh,iD 0)]) (e3 (bK (B:=ψ5) (ds:=[cD c]) rfl (e1 (p:=(.sh,cD c)) rfl) rfl rfl (mz c) rfl) (bK (B:=ψ5) (ds:=[cD c]) rfl (e1 (p:=(.sh,cD c)) rfl) rfl rfl (mz c) rfl) (bP (l:=([]:List Nat)) (f:=iD) (k:=.sh) rfl (.inl rfl))) ⟨rfl,by simp⟩) rfl (by decide) ?_;show aN (bx (k:=.sh) (k':=.sh) (cN (k:=.sh) (k':=.sh) (n:=0) (hd:=.tup) (xs:=[iD c.ins,.lst (c.mems.map dD),.lst (c.gates.map bu),.lst (c.outs.map iD)]) rfl rfl (.inr rfl) rfl rfl) (bP (l:=c.mems.zipIdx) (f:=iL c) (k:=.sh) rfl (.inl rfl))) rfl (by decide) ?_;show aN (bx (k:=.sh) (k':=.sh) (i:=(c.ins:Int)+(c.mems.zipIdx.length:Nat)) rfl (bP (l:=fs.zipIdx) (f:=ef c) (k:=.sh) rfl (.inl rfl))) rfl (by decide) ?_;let r:((c.ins:Int)+(c.mems.zipIdx.length:Nat))=((c.f:Nat):Int):=by rw[M4];rfl
 let g:((c.ins:Int)+(c.mems.zipIdx.length:Nat)+(fs.zipIdx.length:Nat))=((c.n:Nat):Int):=by rw[r,M4,H];rfl
 rw[g,r];change Wp (aq _ _ _ [] [fS (cD c),fS (cD c),fS (aR c fs),fS c9,fS (.lst (c.mems.zipIdx.map (iL c))),fS (.lst (fs.zipIdx.map (ef c))),fS (.lst (c.outs.map iD)),bJ (.lst [iD c.n,iD c.n,iD 0]),fS (iD c.f),fS (iD c.n)]) _;show cg (x:=(.sh,.bl (Pm&&(Pm&&(Pm&&(Pm&&Pm)))))) (dP (x:=Pm) (Cr (l:=([]:List Nat)) (f:=iD) (k:=.sh) rfl rfl (by simp) (λ_ _=>rfl) λi a E=>by simp at E) λ_=>dP (x:=Pm) (fH (l:=c.mems.zipIdx) (f:=iL c) (k:=.sh) (.inl rfl) rfl rfl (by rw[M4];lia) (λ_=>rfl) λp b=>?_) λ_=>dP (x:=Pm) (Cr (l:=fs.zipIdx) (f:=ef c) (k:=.sh) rfl rfl (by rw[M4];lia) (λ_ _=>rfl) λi p b=>?_) λ_=>dP (x:=Pm) (iG ?_) λ_=>jI (fH (l:=c.outs) (f:=iD) (k:=.sh) (.inl rfl) rfl rfl (by lia) (λ_=>rfl) λo t=>?_)) rfl (iI rfl rfl)
 ·let e:=vM b;let v:=(Mg.mp e).1;let w:=h.m _ (Mu e);show iF (B:=FS) (p:=(.sh,.bl Pm)) (ds:=[iL c p,.lst [iD c.n,iD c.n,iD 0],iD c.n]) rfl (e3 (p:=(.sh,iL c p)) (q:=(.bo 4 k0,.lst [iD c.n,iD c.n,iD 0])) (u:=(.sh,iD c.n)) rfl rfl rfl) rfl rfl (yT (by unfold Ci.n Ci.f;lia) (by simp) (λq y=>by rw[MN.mp y];show w)) rfl
 ·obtain⟨e,C⟩:=Jo b;let v:=(Mg.mp e).1;obtain⟨A,F⟩:=s.fit _ _ e;show iF (B:=FS) (p:=(.sh,.bl Pm)) (ds:=[ef c p,.lst [iD c.n,iD c.n,iD 0],iD (c.f+i)]) rfl (e3 (p:=(.sh,ef c p)) (q:=(.bo 5 k0,.lst [iD c.n,iD c.n,iD 0])) (u:=(.sh,iD (c.f+i))) rfl rfl (bx (k:=.sh) (k':=.sh) (i:=(c.f:Int)) (j:=(i:Int)) rfl rfl)) rfl rfl ?_ rfl;show yT (by rw[C];unfold Ci.n;lia) A F
 ·have:=rS (U:=U_13.fn) (k:=.sh) (k':=.sh) (bP (U:=U_13.fn) (a:=.var 6) (Y:=[fS (cD c),fS (cD c),fS (aR c fs),fS c9,fS (.lst (c.mems.zipIdx.map (iL c))),fS (.lst (fs.zipIdx.map (ef c))),fS (.lst (c.outs.map iD)),bJ (.lst [iD c.n,iD c.n,iD 0]),fS (iD c.f),fS (iD c.n)]) (l:=c.outs) (f:=iD) (k:=.sh) rfl (.inl rfl)) (bP (U:=U_13.fn) (a:=.ix (.var 0) (.lit (.int 3))) (l:=c.outs) (f:=iD) (k:=.sh) (cN (k:=.sh) (k':=.sh) (n:=3) (hd:=.tup) (xs:=[iD c.ins,.lst (c.mems.map dD),.lst (c.gates.map bu),.lst (c.outs.map iD)]) rfl rfl (.inr rfl) rfl rfl) (.inl rfl));rw[this,decide_eq_true rfl]
 ·show bK (B:=ψ1) (p:=(.sh,.bl Pm)) (ds:=[iD o,iD c.n]) rfl (e2 (p:=(.sh,iD o)) (q:=(.sh,iD c.n)) rfl rfl) rfl rfl ?_ rfl;rw[iK,decide_eq_true (h.o o t)]
section
variable {U:GG} {N:Nat} {pn:List Nat} {Y:Ro} {Q:Res->Prop} {rest:bw}
theorem uo{α:Type}{l:List α}{f:α->D}(m:aa U.fn a Y=Pj (.sh,.lst (l.map f)))(I:Nat->Ro->Prop)(j:I 0 Y)(h:∀(i:Nat) x Y,l[i]?=Pj x->I i Y->∃ps,nZ tg (.tup [iD i,f x])=Pj ps/\(ps.all λq=>!pn.contains q.1)=Pm/\Wp (aq U N b pn (setAll ps (clrN fg Y))) λr=>∃Y',(r=.nx Y'\/r=.ct Y')/\I (i+1) Y')(k:∀Y,I l.length Y->Wp (aq U N rest pn (clrN fg Y)) Q):Wp (aq U N (.cons (.fo fg tg (.p (.enm a)) b) rest) pn Y) Q:=by
 show eR (cQ (nH (wv m (rU rfl ⟨I,j,λi d Y c g=>?_,λY g=>?_⟩))))
 ·rw[nR] at c;let c:(l.zipIdx.map λp=>D.tup [iD p.2,f p.1])[i]?=Pj d:=c;rw[Mj] at c
  cases e:l.zipIdx[i]? with
  |none=>rw[e] at c;cases c
  |some p=>
   rw[e] at c;cases c;obtain⟨e1,e2⟩:=Jo e;subst e2;rw[show pn++(oW Kd.sh:List Nat)=pn from M5 pn];show h p.2 p.1 Y e1 g
 ·have:((l.map f).mapIdx λi d=>D.tup [.int i,d]).length=l.length:=by simp
  let g:I ((l.map f).mapIdx λi d=>D.tup [.int i,d]).length Y:=g;rw[this] at g;show k Y g
noncomputable abbrev kG:Ow:=.own [] (.own [] .fz)
noncomputable abbrev fl3:List Str:=["gates","begins","afters"]
abbrev lJ(ds:List D):D:=.nd (.obj "Ground" fl3) ds
theorem rV{n:Nat}{ks:List (Int×Int)}{vs ds:List D}{p:Int×Int}{x y:KD}(b:Y[0]?=Pj (Pj ⟨Po,kG,lJ ds⟩))(a:aZ f fl3=Pj n)(hd:ds[n]?=Pj (dic ks vs))(h:aa U.fn e Y=Pj x)(hk:aa U.fn kx Y=Pj y)(i:y.2=pD p)(k:p∉ks)(c:vs.length<100000)(g:bM .fz (dJ x.1 x.2,x.2)=Pm)(w:Wp (aq U N rest pn (Y.set 0 (Pj ⟨Po,kG,lJ (ds.set n (dic (ks++[p]) (vs++[x.2])))⟩))) Q):Wp (aq U N (.cons (.put (.fld (.nm 0) f) kx (.p e)) rest) pn Y) Q:=by
 show mn (ci (wv h (vo (r:=(k0,dic ks vs,λz=>lJ (ds.set n z))) ?_ (wv hk (jl rfl rfl b (jm (r:=(.dic 1 ((ks++[p]).map pk),vs++[x.2])) ?_ w))))))
 ·change tF f (gu Y[0]?)=_;rw[b]
  change(match aZ f fl3 with|some j=>(match ds[j]? with|some d=>Pj (([]:List Ow).getD j k0,d,λz=>id (D.nd (.obj "Ground" fl3) (ds.set j z)))|none=>Pl)|none=>Pl)=_
  rw[a]
  change(match ds[n]? with|some d=>Pj (([]:List Ow).getD n k0,d,λz=>id (D.nd (.obj "Ground" fl3) (ds.set n z)))|none=>Pl)=_
  rw[hd];rfl
 ·rw[i];show ul k c g
end
def gK(c:Ci)(w n:Nat):List (Int×Int):=(MH n).map λk=>sp w (c.f+k)
def mK(c:Ci)(w n:Nat):List (Int×Int):=(MH n).map λk=>sp w (c.ins+k)
def nS(w:Nat)(g:Nat×List Nat):D:=.tup [iD g.1,.lst (g.2.map λp=>pD (sp w p))]
theorem Bh(c:Ci)(w n:Nat):gK c w (n+1)=gK c w n++[sp w (c.f+n)]:=by unfold gK;rw[Pi,MS];rfl
theorem Bi(c:Ci)(w n:Nat):mK c w (n+1)=mK c w n++[sp w (c.ins+n)]:=by unfold mK;rw[Pi,MS];rfl
theorem gK_mem{c:Ci}{w n:Nat}:p∈gK c w n↔∃k,k<n/\p=sp w (c.f+k):=by
 unfold gK;rw[Na];show⟨λ⟨k,b,a⟩=>⟨k,NK.mp b,a.symm⟩,λ⟨k,b,a⟩=>⟨k,NK.mpr b,a.symm⟩⟩
theorem mK_mem{c:Ci}{w n:Nat}:p∈mK c w n↔∃k,k<n/\p=sp w (c.ins+k):=by
 unfold mK;rw[Na];show⟨λ⟨k,b,a⟩=>⟨k,NK.mp b,a.symm⟩,λ⟨k,b,a⟩=>⟨k,NK.mpr b,a.symm⟩⟩
theorem bQ{w b p a:Nat}(h:sp w p=sp b a):w=b/\p=a:=by
 let d:(w:Int)=b:=congrArg Prod.fst h;let c:(p:Int)=a:=congrArg Prod.snd h;show⟨by lia,by lia⟩
theorem nT{α:Type}{l:List α}{s:Nat}{a:α}(h:l[s]?=Pj a):l.take (s+1)=l.take s++[a]:=by rw[N2,h];rfl
theorem dB(c:aa U a Y=Pj (.sh,.int i))(d:aa U b Y=Pj (.sh,.int j)):aa U (.tup .fz (.cons a (.cons b .nil))) Y=Pj (.sh,.tup [.int i,.int j]):=
 gB (kds:=[(.sh,.int i),(.sh,.int j)]) (e2 c d) ⟨rfl,by simp⟩
theorem yV{c:Ci}(h:Ok c){w:Nat}{gk bk:List (Int×Int)}{gv bv av:List D}(fg:∀p,sp w p∉gk)(fb:∀p,sp w p∉bk)(I:gv.length<=1000)(E:bv.length<=1000)(K:av.length<=1000) :
  A8 [(kG,lJ [dic gk gv,dic bk bv,dic bk av]),(.fz,iD w),(.fz,cD c)]=Pj (.sh,.non,[Pj (kG,lJ [dic (gk++gK c w c.gates.length) (gv++c.gates.map (nS w)),dic (bk++mK c w c.mems.length) (bv++c.mems.map λm=>bD m.1),dic (bk++mK c w c.mems.length) (av++c.mems.map λm=>pD (sp w m.2))]),Pl,Pl]):=by
 let H:=h.bm;let F:=h.bg;unfold A8;show n5 (A0 rfl ?_);unfold Lb;change Wp (aq _ _ _ [0] [Pj ⟨Po,kG,lJ [dic gk gv,dic bk bv,dic bk av]⟩,fS (iD w),fS (cD c),Pl,Pl,Pl,Pl,Pl,Pl,Pl,Pl,Pl]) _;show eS (ds:=[iD c.ins,.lst (c.mems.map dD),.lst (c.gates.map bu),.lst (c.outs.map iD)]) rfl ⟨rfl,rfl⟩ ?_;show uo (l:=c.mems) (f:=dD) rfl (λs Y=>∃a u q,Y=[Pj ⟨Po,kG,lJ [dic gk gv,dic (bk++mK c w s) (bv++(c.mems.take s).map λm=>bD m.1),dic (bk++mK c w s) (av++(c.mems.take s).map λm=>pD (sp w m.2))]⟩,fS (iD w),fS (cD c),fS (iD c.ins),fS (.lst (c.mems.map dD)),fS (.lst (c.gates.map bu)),fS (.lst (c.outs.map iD)),a,u,q,Pl,Pl])
  ⟨Pl,Pl,Pl,by simp[mK];rfl⟩ (λs m Y v b=>?_) λY b=>?_
 ·obtain⟨a,u,q,rfl⟩:=b;let A:=(Mg.mp v).1;show⟨[(7,iD s),(8,bD m.1),(9,iD m.2)],rfl,rfl,?_⟩
  let o:sp w (c.ins+s)∉bk++mK c w s:=λz=>by
   rcases MQ.mp z with z|z
   ·show fb _ z
   ·obtain⟨k,C,r⟩:=mK_mem.mp z;have:=(bQ r).2
    lia
  show rV (n:=1) (p:=sp w (c.ins+s)) (x:=(.sh,bD m.1)) (y:=(.sh,pD (sp w (c.ins+s)))) rfl rfl rfl rfl (dB rfl (bx (k:=.sh) (k':=.sh) (i:=(c.ins:Int)) (j:=(s:Int)) rfl rfl)) rfl o (by rw[MF,Mh,MJ];lia) rfl ?_;show rV (n:=2) (p:=sp w (c.ins+s)) (x:=(.sh,pD (sp w m.2))) (y:=(.sh,pD (sp w (c.ins+s)))) rfl rfl rfl (dB rfl rfl) (dB rfl (bx (k:=.sh) (k':=.sh) (i:=(c.ins:Int)) (j:=(s:Int)) rfl rfl)) rfl o (by rw[MF,Mh,MJ];lia) rfl ?_;show ba ⟨_,.inl rfl,fS (iD s),fS (bD m.1),fS (iD m.2),?_⟩;rw[Bi,nT v,MS,MS,<- MX,<- MX,<- MX];rfl
 ·obtain⟨a,u,q,rfl⟩:=b;rw[Nk];show uo (l:=c.gates) (f:=bu) rfl (λs Y=>∃a d e,Y=[Pj ⟨Po,kG,lJ [dic (gk++gK c w s) (gv++(c.gates.take s).map (nS w)),dic (bk++mK c w c.mems.length) (bv++c.mems.map λm=>bD m.1),dic (bk++mK c w c.mems.length) (av++c.mems.map λm=>pD (sp w m.2))]⟩,fS (iD w),fS (cD c),fS (iD c.ins),fS (.lst (c.mems.map dD)),fS (.lst (c.gates.map bu)),fS (.lst (c.outs.map iD)),a,Pl,Pl,d,e])
   ⟨a,Pl,Pl,by simp[gK];rfl⟩ (λs g Y t b=>?_) λY b=>?_
  ·obtain⟨a,d,e,rfl⟩:=b;let A:=(Mg.mp t).1;let B:=(h.g s g t).1;show⟨[(7,iD s),(10,iD g.1),(11,.tup (g.2.map iD))],rfl,rfl,?_⟩
   let o:sp w (c.f+s)∉gk++gK c w s:=λz=>by
    rcases MQ.mp z with z|z
    ·show fg _ z
    ·obtain⟨k,C,r⟩:=gK_mem.mp z;have:=(bQ r).2
     lia
   show rV (n:=0) (p:=sp w (c.f+s)) (x:=(.sh,nS w g)) (y:=(.sh,pD (sp w (c.f+s)))) rfl rfl rfl (gB (kds:=[(.sh,iD g.1),(.fr k0,.lst (g.2.map λp=>pD (sp w p)))]) (e2 rfl (rT (k:=.sh) (f:=iD) (g:=λp=>pD (sp w p)) (.inr rfl) rfl rfl (by lia) λp _=>Ck rfl (wv (dB rfl rfl) ⟨.sh,rfl,rfl⟩))) ⟨rfl,by simp⟩) (dB rfl (bx (k:=.sh) (k':=.sh) (i:=(c.f:Int)) (j:=(s:Int)) ?_ rfl)) rfl o (by rw[MF,Mh,MJ];lia) rfl ?_
   ·show bx (k:=.sh) (k':=.sh) (i:=(c.ins:Int)) (j:=(c.mems.length:Int)) rfl (bP (l:=c.mems) (f:=dD) (k:=.sh) rfl (.inl rfl))
   show ba ⟨_,.inl rfl,fS (iD s),fS (iD g.1),fS (.tup (g.2.map iD)),?_⟩;rw[Bh,nT t,MS,<- MX,<- MX];rfl
  ·obtain⟨a,d,e,rfl⟩:=b;rw[Nk];show ba (B8 rfl)
def v5(c:Ci):List (Int×Int):=gK c 0 c.gates.length++gK c 1 c.gates.length
def nU(c:Ci):List (Int×Int):=mK c 0 c.mems.length++mK c 1 c.mems.length
def Cs(c:Ci):List D:=c.gates.map (nS 0)++c.gates.map (nS 1)
def v6(c:Ci):List D:=(c.mems.map λm=>bD m.1)++c.mems.map λm=>bD m.1
def IM(c:Ci):List D:=(c.mems.map λm=>pD (sp 0 m.2))++c.mems.map λm=>pD (sp 1 m.2)
def br(c:Ci):D:=lJ [dic (v5 c) (Cs c),dic (nU c) (v6 c),dic (nU c) (IM c)]
abbrev mB(c:Ci)(g:D):Ro:=[Pj ⟨Po,kG,g⟩,fS (cD c),fS (cD c),fS c9,Pl,Pl]
theorem uq(a:j=1\/j=2)(e:A8 [(kG,lJ ds),(.fz,.int i),(.fz,cD c)]=Pj (.sh,.non,[Pj (kG,g1),Pl,Pl])):pX i j (mB c (lJ ds))=Pj (.nx (mB c g1)):=by
 unfold pX
 let b:vF i j (mB c (lJ ds))=Pj ([.val .sh (.int i),.val .sh (cD c)],mB c (lJ ds)):=by rcases a with rfl|rfl<;>rfl
 let e1:yD "Ground" "put_circuit" 0 A8 (vF i j) (mB c (lJ ds))=Pj (.sh,.non,mB c g1):=by
  change(if("Ground":Str)="Ground"/\fl3.contains "put_circuit" = Po then Az (Pj A8) (l8 0 (mB c (lJ ds))[0]? (vF i j (mB c (lJ ds)))) else Pl)=_
  rw[if_pos ⟨rfl,by decide⟩,b]
  change(if(cK [.ref 0,.val .sh (.int i),.val .sh (cD c)]).Nodup then _ else Pl)=_
  rw[if_pos (by simp[cK])]
  change(match A8 [(kG,lJ ds),(.fz,.int i),(.fz,cD c)] with|some (kd,d,outs)=>if bA kd=Pm\/outs.length≠([.ref 0,.val .sh (.int i),.val .sh (cD c)]:List RA).length then Pl else Pj (kd,d,cP [.ref 0,.val .sh (.int i),.val .sh (cD c)] (outs.map BM) (mB c (lJ ds)))|none=>Pl)=_
  rw[e];rfl
 change rz (yD "Ground" "put_circuit" 0 A8 (vF i j) (mB c (lJ ds)))=_;rw[e1];rfl
theorem vN(h:Ok c):Il [cD c,cD c,c9]=Pj (.fr kG,br c):=by
 let o:=h.bm;let n:=h.bg;let b:=yV h (w:=0) (gk:=[]) (bk:=[]) (gv:=[]) (bv:=[]) (av:=[]) (λ_ h=>by cases h) (λ_ h=>by cases h) (by simp) (by simp) (by simp);rw[NA,NA,NA,NA,NA] at b
 let g:=yV h (w:=1) (gk:=gK c 0 c.gates.length) (bk:=mK c 0 c.mems.length) (gv:=c.gates.map (nS 0)) (bv:=c.mems.map λm=>bD m.1) (av:=c.mems.map λm=>pD (sp 0 m.2)) (λp h=>by
  obtain⟨k,_,a⟩:=gK_mem.mp h;have:=(bQ a).1
  lia) (λp h=>by
  obtain⟨k,_,a⟩:=mK_mem.mp h;have:=(bQ a).1
  lia) (by rw[Mh];lia) (by rw[Mh];lia) (by rw[Mh];lia)
 let s1:=uq (i:=0) (j:=1) (.inl rfl) b;let s2:=uq (i:=1) (j:=2) (.inr rfl) g;let s0:aq U_31 1000 (bp FR 3) [0] (mB c (.nd (.obj "Ground" []) []))=Pj (.nx (mB c (lJ [dic [] [],dic [] [],dic [] []]))):=rfl
 let d:aq U_31 1000 (bq FR 5) [0] (mB c (br c))=Pj (.nx (mB c (br c))):=by
  show n5 (uo (l:=([]:List Nat)) (f:=iD) rfl (λ_ Y=>Y=mB c (br c)) rfl (λi x Y e=>by simp at e) λY e=>?_);subst e;show ba rfl
 let e:pY (mB c (.nd (.obj "Ground" []) []))=Pj (.nx (mB c (br c))):=by
  unfold pY;rw[s0];change ca (pX 0 1 (mB c (lJ [dic [] [],dic [] [],dic [] []]))) _=_;rw[s1];change ca (pX 1 2 (mB c _)) _=_;rw[s2];show d
 unfold Il yd
 change(match lm pY 4 6 [0] [(kG,.nd (.obj "Ground" []) []),tX (cD c),tX (cD c),tX c9] with|some (.sh,.non,Pj (k',d')::_)=>Pj (Kd.fr k',d')|_=>Pl)=_
 let e2:lm pY 4 6 [0] [(kG,.nd (.obj "Ground" []) []),tX (cD c),tX (cD c),tX c9]=Pj (.sh,.non,[Pj (kG,br c),Pl,Pl,Pl]):=by
  unfold lm;rw[if_pos (by rfl)];change gy 4 [0] (pY (mB c (.nd (.obj "Ground" []) [])))=_;rw[e];rfl
 rw[e2]
theorem yW(c:Ci):(v5 c).Nodup:=by
 let d:∀w,(gK c w c.gates.length).Nodup:=λw=>by
  unfold gK;show List.Pairwise.map _ (λa b f e=>f (by have:=(bQ e).2;lia)) Pd
 show N4.mpr ⟨d 0,d 1,λa g b j e=>?_⟩;obtain⟨k,_,i⟩:=gK_mem.mp g;obtain⟨l,_,h⟩:=gK_mem.mp j;have:=(bQ (i.symm.trans (e.trans h))).1
 lia
theorem nV(c:Ci):(nU c).Nodup:=by
 let d:∀w,(mK c w c.mems.length).Nodup:=λw=>by
  unfold mK;show List.Pairwise.map _ (λa b f e=>f (by have:=(bQ e).2;lia)) Pd
 show N4.mpr ⟨d 0,d 1,λa g b j e=>?_⟩;obtain⟨k,_,i⟩:=mK_mem.mp g;obtain⟨l,_,h⟩:=mK_mem.mp j;have:=(bQ (i.symm.trans (e.trans h))).1
 lia
theorem gKs_mem{c:Ci}{w p:Nat}:sp w p∈v5 c↔w<2/\c.f<=p/\p<c.n:=by
 unfold v5;rw[MQ,gK_mem,gK_mem];unfold Ci.n;constructor
 ·rintro (⟨k,b,a⟩|⟨k,b,a⟩)<;>(obtain⟨rfl,rfl⟩:=bQ a;lia)
 ·rintro ⟨b,a,d⟩
  have:w=0\/w=1:=by lia
  rcases this with rfl|rfl
  ·show .inl ⟨p-c.f,by lia,by congr 2;lia⟩
  ·show .inr ⟨p-c.f,by lia,by congr 2;lia⟩
theorem mKs_mem{c:Ci}{w p:Nat}:sp w p∈nU c↔w<2/\c.ins<=p/\p<c.f:=by
 unfold nU;rw[MQ,mK_mem,mK_mem];unfold Ci.f;constructor
 ·rintro (⟨k,b,a⟩|⟨k,b,a⟩)<;>(obtain⟨rfl,rfl⟩:=bQ a;lia)
 ·rintro ⟨b,a,d⟩
  have:w=0\/w=1:=by lia
  rcases this with rfl|rfl
  ·show .inl ⟨p-c.ins,by lia,by congr 2;lia⟩
  ·show .inr ⟨p-c.ins,by lia,by congr 2;lia⟩
theorem LR{c:Ci}{w k:Nat}(h:w<2)(d:c.gates[k]?=Pj g):∃n:Nat,(v5 c)[n]?=Pj (sp w (c.f+k))/\(Cs c)[n]?=Pj (nS w g):=by
 let hk:=(Mg.mp d).1;let b:∀w,(gK c w c.gates.length)[k]?=Pj (sp w (c.f+k)):=λw=>by unfold gK;rw[Mj,M7 hk];rfl
 let a:∀w,(gK c w c.gates.length).length=c.gates.length:=λw=>by simp[gK]
 let e:∀w,(c.gates.map (nS w))[k]?=Pj (nS w g):=λw=>by rw[Mj,d];rfl
 have:w=0\/w=1:=by lia
 rcases this with rfl|rfl
 ·show⟨k,by unfold v5;rw[My (by rw[a];show hk)];show b 0,by unfold Cs;rw[My (by rw[Mh];show hk)];show e 0⟩
 ·show⟨c.gates.length+k,?_,?_⟩
  ·unfold v5;rw[MM (by rw[a];lia),a,M9];show b 1
  ·unfold Cs;rw[MM (by rw[Mh];lia),Mh,M9];show e 1
theorem Lm{c:Ci}{w k:Nat}{m:Bool×Nat}(g:w<2)(b:c.mems[k]?=Pj m):∃n:Nat,(nU c)[n]?=Pj (sp w (c.ins+k))/\(v6 c)[n]?=Pj (bD m.1)/\(IM c)[n]?=Pj (pD (sp w m.2)):=by
 let hk:=(Mg.mp b).1;let d:∀w,(mK c w c.mems.length)[k]?=Pj (sp w (c.ins+k)):=λw=>by unfold mK;rw[Mj,M7 hk];rfl
 let a:∀w,(mK c w c.mems.length).length=c.mems.length:=λw=>by simp[mK]
 let f:(c.mems.map λm=>bD m.1)[k]?=Pj (bD m.1):=by rw[Mj,b];rfl
 let e:∀w,(c.mems.map λm=>pD (sp w m.2))[k]?=Pj (pD (sp w m.2)):=λw=>by rw[Mj,b];rfl
 have:w=0\/w=1:=by lia
 rcases this with rfl|rfl
 ·show⟨k,by unfold nU;rw[My (by rw[a];show hk)];show d 0,by unfold v6;rw[My (by rw[Mh];show hk)];show f,by unfold IM;rw[My (by rw[Mh];show hk)];show e 0⟩
 ·show⟨c.mems.length+k,?_,?_,?_⟩
  ·unfold nU;rw[MM (by rw[a];lia),a,M9];show d 1
  ·unfold v6;rw[MM (by rw[Mh];lia),Mh,M9];show f
  ·unfold IM;rw[MM (by rw[Mh];lia),Mh,M9];show e 1
theorem yX{Q:KD->Prop}(h:eA k ds=Pm)(q:Q (.fr aO,.lst ds)):Wp (eI "list" [(k,.nd .tup ds)]) Q:=⟨_,if_pos h,q⟩
theorem fI(a:hd=.lst\/hd=.tup):Wp (eI "list" [(Kd.sh,.nd hd ds)]) λx=>x=(.fr k0,.lst ds):=by
 rcases a with rfl|rfl
 ·show t9 (k:=.sh) rfl rfl
 ·show yX (k:=.sh) rfl rfl
theorem Fc{Y:Ro}{i:Nat}{d:D}{ds:List D}{Q:Kd×D×Ro->Prop}(h:Y[i]?=Pj (Pj ⟨Po,k0,.lst (ds++[d])⟩))(q:Q (.sh,d,Y.set i (Pj ⟨Po,k0,.lst ds⟩))):Wp (aQ U (.mut "pop" (.nm i) .nil) Y) Q:=by
 show⟨_,?_,q⟩;rw[iy,aP];change fx "pop" i (gu Y[i]?) (Pj []) Y=_;rw[h]
 change(match k4 "pop" [] .fz (ds++[d]) [],Y[i]? with|some (d',ds'),Pj (Pj ⟨Po,k,_⟩)=>Pj (Kd.sh,d',Y.set i (Pj ⟨Po,k,id (.lst ds')⟩))|_,_=>Pl)=_
 have:k4 "pop" [] .fz (ds++[d]) []=Pj (d,ds):=by
  change(if eY (.own [] .fz)=Pm then((ds++[d])[(ds++[d]).length-1]?).map λx=>(x,(ds++[d]).dropLast) else Pl)=_
  rw[if_pos (show eY (.own [] .fz)=Pm from rfl),MF,N9,Oo,MM (Mi _),OC,List.dropLast_concat];rfl
 rw[this,h];rfl
theorem Fd{U:GG}{Y:Ro}{i:Nat}{ds ys:List D}{Q:Kd×D×Ro->Prop}(h:Y[i]?=Pj (Pj ⟨Po,k0,.lst ds⟩))(c:aa U.fn e Y=Pj (.sh,.lst ys))(a:ds.length+ys.length<=100000)(q:Q (.sh,.non,Y.set i (Pj ⟨Po,k0,.lst (ds++ys)⟩))):Wp (aQ U (.mut "extend" (.nm i) (.cons e .nil)) Y) Q:=by
 show⟨_,?_,q⟩;rw[iy,e1 c];change fx "extend" i (gu Y[i]?) (Pj [(.sh,.lst ys)]) Y=_;rw[h]
 change(match k4 "extend" [] .fz ds [(.sh,.lst ys)],Y[i]? with|some (d',ds'),Pj (Pj ⟨Po,k,_⟩)=>Pj (Kd.sh,d',Y.set i (Pj ⟨Po,k,id (.lst ds')⟩))|_,_=>Pl)=_
 let b:k4 "extend" [] .fz ds [(.sh,.lst ys)]=Pj (.non,ds++ys):=by
  change(if eY (.own [] .fz)=Pm/\eA Kd.sh ys=Pm/\bA Kd.sh=Po/\ds.length+ys.length<=100000 then Pj (D.non,ds++ys) else Pl)=_
  show if_pos ⟨rfl,rfl,rfl,a⟩
 rw[b,h];rfl
def IN(c:Ci)(s:Int×Int)(q:List (Int×Int)):Prop:=(s∉v5 c/\q=[])\/∃(n:Nat) (t:D),(v5 c)[n]?=Pj s/\(Cs c)[n]?=Pj (.tup [t,.lst (q.map pD)])/\q.length<=3
abbrev vO(c:Ci)(kk:List (Int×Int))(kv:List D)(hd:Hd)(q fk L:List (Int×Int))(x5:Option Sl):Ro:=[fS (br c),fS (dic kk kv),fS (.nd hd (q.map pD)),Pj ⟨Po,k0,dic fk (fk.map λ_=>.bl Pm)⟩,Pj ⟨Po,k0,.lst (L.map pD)⟩,x5]
theorem jp(f:Hd)(hh:f=.lst\/f=.tup){kk:List (Int×Int)}{L0 ks0 r:List (Int×Int)}(hn:L0.Nodup)(l0:L0.length<=2)(lk:ks0.length<=3)(hk:∀s∈L0,s∉kk/\∃u,IN c s u/\∀q∈u,q∈kk)(h0:∀s∈ks0,s∈kk)(X:rN L0.reverse=Pj r) :
  A7 [br c,dic kk kv,.nd f ((L0++ks0).map pD)]=Pj (.fr k0,.lst (r.map pD)):=by
 unfold A7 vn;rw[if_pos (show FD (mC "Ground.all_below") (mM "Ground.all_below") [br c,dic kk kv,.nd f ((L0++ks0).map pD)]=Pm from(show(decide (("Ground":Str)=mC "Ground.all_below")&&!fl3.contains (mM "Ground.all_below"))=Pm by nofun))];unfold jQ;rw[if_pos (by rfl)];change f9 (yI [fS (br c),fS (dic kk kv),fS (.nd f ((L0++ks0).map pD)),Pl,Pl,Pl])=_
 suffices h:∃g,aq U_11 1000 (bp FO 3) [] [fS (br c),fS (dic kk kv),fS (.nd f ((L0++ks0).map pD)),Pl,Pl,Pl]=Pj (.nx (vO c kk kv f (L0++ks0) L0.reverse [] g)) by
  obtain⟨g,e⟩:=h;unfold yI;rw[e];change f9 (pA (v3 (vq (eG 3 (vO c kk kv f (L0++ks0) L0.reverse [] g)[3]?)) (vO c kk kv f (L0++ks0) L0.reverse [] g)))=_
  let e2:vq (eG 3 (vO c kk kv f (L0++ks0) L0.reverse [] g)[3]?)=Pj (.fr k0,.lst (r.map pD)):=by
   let ep:∀l:List (Int×Int),vp (l.map pk)=Pj l:=λl=>by
    induction l with
    |nil=>rfl
    |cons a l ih=>
     change((FM (pk a)).bind λp=>(vp (l.map pk)).map λN=>p::N)=_;rw[ih];rfl
   change((vp (L0.reverse.map pk)).bind λN=>(rN N).map λr=>(Kd.fr k0,D.lst (r.map pD)))=_;rw[ep,MZ,X];rfl
  rw[e2];rfl
 suffices h:Wp (aq U_11 1000 (bp FO 3) [] [fS (br c),fS (dic kk kv),fS (.nd f ((L0++ks0).map pD)),Pl,Pl,Pl]) λr=>∃g,r=.nx (vO c kk kv f (L0++ks0) L0.reverse [] g) by
  obtain⟨r,e,g,rfl⟩:=h;show⟨g,e⟩
 unfold FO bp bp bp bp;show aN (x:=(.fr k0,dic [] [])) rfl rfl (by decide) ?_;show aN (x:=(.fr k0,.lst ((L0++ks0).map pD))) (aH (dU (aD (wv (r:=(Kd.sh,D.nd f ((L0++ks0).map pD))) rfl (bt (fI hh)))))) rfl (by decide) ?_;change Wp (aq _ _ _ _ (vO c kk kv f (L0++ks0) [] (L0++ks0) Pl)) _;show Cn (λm Y=>∃j o g,j<=L0.length/\o.length<=3/\(∀s∈o,s∈kk)/\m=100*j+o.length/\Y=vO c kk kv f (L0++ks0) (L0.drop j).reverse (L0.take j++o) g) (m0:=100*L0.length+ks0.length) (by lia) ⟨L0.length,ks0,Pl,Mi _,lk,h0,rfl,by rw[N8,Nk];rfl⟩ λm Y Z=>?_;obtain⟨j,o,g,U,H,v,rfl,rfl⟩:=Z;let ht:aE U_11.fn (.var 4) (vO c kk kv f (L0++ks0) (L0.drop j).reverse (L0.take j++o) Pl)=Pj (!((L0.take j++o).map pD).isEmpty):=Iy (n:=4) rfl rfl;show mj (wv ht ⟨λe=>?_,λe=>?_⟩)
 ·let e:(!((L0.take j++o).map pD).isEmpty)=Po:=e
  let W:L0.take j++o=[]:=by
   cases q:L0.take j++o with
   |nil=>rfl
   |cons a l=>rw[q] at e;cases e
  let e3:=List.append_eq_nil_iff.mp W
  let R:j=0:=by
   have:=congrArg NJ e3.1;rw[MJ] at this;simp at this;rcases this with h|h
   ·show h
   ·subst h;simpa using U
  subst R;rw[W];show ba ⟨Pl,rfl⟩
 ·let e:(!((L0.take j++o).map pD).isEmpty)=Pm:=e
  -- one B
  let B:∀(L:List (Int×Int)) (s:Int×Int) (S:List (Int×Int)) {Q:Res->Prop} {rest:bw},Wp (aq U_11 1000 rest [] (vO c kk kv f (L0++ks0) S L (fS (pD s)))) Q->Wp (aq U_11 1000 (.cons (.asg 5 (.mut "pop" (.nm 4) .nil)) rest) [] (vO c kk kv f (L0++ks0) S (L++[s]) Pl)) Q:=λL s S Q rest w=>
   dO (Fc (d:=pD s) (ds:=L.map pD) (by change Pj (Pj _)=_;rw[MS];rfl) ⟨⟨rfl,by decide⟩,w⟩)
  rcases List.eq_nil_or_concat o with rfl|⟨F,s,rfl⟩
  ·let ha:0<j:=by
    rcases O2 j with h|h
    ·subst h;cases e
    ·show h
   obtain⟨i,rfl⟩:∃i,j=i+1:=⟨j-1,by lia⟩;let E:L0[i]?=Pj (L0[i]'(by lia)):=Ms (by lia);generalize L0[i]'(by lia)=s at E;rw[M5,nT E];obtain⟨A,u,hb,M⟩:=hk s (Mu E)
   let T:L0.drop i=s::L0.drop (i+1):=by
    rw[M0 (by lia)];congr 1;have:=Ms (l:=L0) (i:=i) (by lia);rw[this] at E;show Option.some.inj E
   let C:s∉(L0.drop (i+1)).reverse:=by
    rw[OD];have:(L0.drop i).Nodup:=hn.sublist (List.drop_sublist _ _);rw[T,Mw] at this;show this.1
   let V:(L0.drop i).reverse=(L0.drop (i+1)).reverse++[s]:=by rw[T,Nr]
   show B _ s _ ?_;show iH (z:=!decide (s∈(L0.drop (i+1)).reverse)&&!decide (s∈kk)) (pZ (uk (k:=.sh) (k':=.bo 3 k0) rfl rfl) λ_=>jH (uk (k:=.sh) (k':=.sh) rfl rfl)) (λ_=>?_) λe=>?_
   ·show yN (p:=s) (x:=(.sh,.bl Pm)) (y:=(.sh,pD s)) rfl rfl rfl rfl C (by simp;lia) rfl ?_;let e5:((L0.drop (i+1)).reverse.map λ_=>D.bl Pm)++[D.bl Pm]=((L0.drop i).reverse.map λ_=>D.bl Pm):=by rw[V,MS];rfl
    rw[e5,<- V];change Wp (aq _ _ _ _ (vO c kk kv f (L0++ks0) (L0.drop i).reverse (L0.take i) (fS (pD s)))) _;let O:aa U_11.fn (.fld "gates" (.var 0)) (vO c kk kv f (L0++ks0) (L0.drop i).reverse (L0.take i) (fS (pD s)))=Pj (.sh,dic (v5 c) (Cs c)):=my (k:=.sh) (n:=0) rfl rfl rfl;rcases hb with⟨I,rfl⟩|⟨n,t,I,h2,h3⟩
    ·show iH (z:=Po) (by rw[lI (k:=.sh) (p:=s) rfl O,decide_eq_false I]) (λe=>by cases e) λ_=>gz (ba (dN (ba (.inl ⟨_,100*i,.inl rfl,by simp,i,[],fS (pD s),by lia,by simp,(λ_ h=>nomatch h),by simp,by rw[M5]⟩))))
    ·show iH (z:=Pm) (by rw[lI (k:=.sh) (p:=s) rfl O,decide_eq_true (Mu I)]) (λ_=>?_) λe=>by cases e
     let P:=gA (k':=.sh) (b:=.var 5) (p:=s) O rfl (yW c) I h2;let K:=cN (k':=.sh) (b:=.lit (.int 1)) (n:=1) P rfl (.inr rfl) rfl (show [t,D.lst (u.map pD)][1]?=Pj (.lst (u.map pD)) from rfl);show uc (Fd (ds:=(L0.take i).map pD) (ys:=u.map pD) rfl K (by simp;lia) (gz (ba (dN (ba (.inl ⟨_,100*i+u.length,.inl rfl,by simp;lia,i,u,fS (pD s),by lia,h3,M,rfl,?_⟩))))));unfold vO;rw[MS (l₁:=L0.take i)];rfl
   ·rw[decide_eq_false C,decide_eq_false A] at e;cases e
  ·rw[OR,<- MX];rw[OR] at H v;show B _ s _ ?_;let A:s∈kk:=v s (by simp);show iH (z:=!decide (s∈(L0.drop j).reverse)&&!decide (s∈kk)) (pZ (uk (k:=.sh) (k':=.bo 3 k0) rfl rfl) λ_=>jH (uk (k:=.sh) (k':=.sh) rfl rfl)) (λe=>?_) λ_=>?_
   ·rw[decide_eq_true A,NW,Bool.and_false] at e;cases e
   ·show gz (ba (.inl ⟨_,100*j+F.length,.inl rfl,by simp,j,F,fS (pD s),U,by simp at H;lia,λq hq=>v q (by simp[hq]),rfl,rfl⟩))
def hk(i:Nat):Int:=hs2 (sp (i / 41) (i%41))
theorem IP:((MH 82).map hk).Nodup:=by nofun
theorem p9{α:Type}{a:α}:∀{l:List α} {i j:Nat},l.Nodup->l[i]?=Pj a->l[j]?=Pj a->i=j
 |[],i,j,_,h,_=>by simp at h
 |b::l,0,0,_,_,_=>rfl
 |b::l,0,j+1,nd,h,h2=>by
  simp at h h2;subst h;show absurd (Mu h2) (Mw.mp nd).1
 |b::l,i+1,0,nd,h,h2=>by
  simp at h h2;subst h2;show absurd (Mu h) (Mw.mp nd).1
 |b::l,i+1,j+1,nd,h,h2=>by
  show congrArg (·+1) (p9 (Mw.mp nd).2 (by simpa using h) (by simpa using h2))
def Bj(l:List (Int×Int)):Prop:=∀p∈l,∃w q,w<2/\q<41/\p=sp w q
theorem IQ{w q:Nat}(h:q<41):hk (w*41+q)=hs2 (sp w q):=by
 let e1:(w*41+q) / 41=w:=by lia
 let e2:(w*41+q)%41=q:=by lia
 unfold hk;rw[e1,e2]
theorem Fe{w q b a:Nat}(h1:w<2)(h2:q<41)(d:b<2)(f:a<41)(e:hs2 (sp w q)=hs2 (sp b a)):sp w q=sp b a:=by
 let c:∀w q:Nat,w<2->q<41->((MH 82).map hk)[w*41+q]?=Pj (hs2 (sp w q)):=λw q h1 h2=>by
  rw[Mj,M7 (by lia),OI,IQ h2]
 have:=p9 IP (c w q h1 h2) ((c b a d f).trans (congrArg Pj e.symm));let e1:w=b:=by lia
 let e2:q=a:=by lia
 rw[e1,e2]
theorem yY:∀l:List (Int×Int),vp (l.map pk)=Pj l
 |[]=>rfl
 |a::l=>by
  change((FM (pk a)).bind λp=>(vp (l.map pk)).map λb=>p::b)=_;rw[yY l];rfl
theorem Ff{ks:List (Int×Int)}(f:ks.Nodup)(d:Bj ks):pR (ks.map pk)=Pm:=by
 unfold pR;rw[yY];show decide_eq_true (List.pairwise_map.mpr (f.imp_of_mem λ{a b} i c j e=>j ?_));obtain⟨w,q,l,g,rfl⟩:=d a i;obtain⟨n,m,k,h,rfl⟩:=d b c;show Fe l g k h e
theorem ur{ks:List (Int×Int)}{vs:List D}(c:ks.Nodup)(b:Bj ks)(d:vs.length<=1000)(a:eA k vs=Pm):pS (Pj (k,dic ks vs))=Pj (.fr k0,dic ks vs):=by
 change(if eA k vs=Pm/\pR (ks.map pk)=Pm/\vs.length<=100000 then Pj (Kd.fr (.own [] .fz),D.nd (.dic (0+1) (ks.map pk)) vs) else Pl)=_
 rw[if_pos ⟨a,Ff c b,by lia⟩]
section
variable {U:Nat->Option Fn} {Y:Ro} {k:Kd}
theorem IU{α:Type}{l:List α}{f g:α->D}(q:hd=.lst\/hd=.tup)(s:aa U a Y=Pj (k,.nd hd (l.map f)))(i:eA k (l.map f)=Pm)(j:l.length<=100000)(o:∀d,bY [(1,d)] (aT Y cap)=Pm)(p:∀a∈l,aE U t (setAll [(1,f a)] (aT Y cap))=Pj Pm)(h:∀a∈l,Wp (aa U elt (setAll [(1,f a)] (aT Y cap))) λx=>bM r (x.1,g a)=Pm/\x.2=g a):aa U (.comp r cap (.nm 1) (.e a) (.som t) elt) Y=Pj (.fr (.own [] r),.lst (l.map g)):=by
 let b:Wp (aU r (dR (.nm 1) (di U (.som t)) (aa U elt) (aT Y cap)) (l.map f)) λc=>c=l.map g:=ln λx m=>pO (ps:=[(1,f x)]) rfl (o _) (p x m) ((h x m).mono λy n=>⟨y.1,by obtain⟨v,u⟩:=y;cases n.2;rfl,n.1⟩);show aH (eM (ji (wv s ?_)));rcases q with rfl|rfl
 ·show fF i ⟨by simpa using j,b.mono λc e=>by rw[e]⟩
 ·show nM i ⟨by simpa using j,b.mono λc e=>by rw[e]⟩
end
abbrev IV(c:Ci)(kk:List (Int×Int))(kv:List D)(O d3:D)(fk:List (Int×Int))(fv:List D)(x5 x6 B q:Option Sl):Ro:=[fS (br c),fS (dic kk kv),fS O,fS d3,Pj ⟨Po,k0,dic fk fv⟩,x5,x6,B,q]
theorem lr{kk:List (Int×Int)}{kv:List D}(a:kk.Nodup)(f:Bj kk)(b:kv.length<=1000)(h:Wp (aq U_14 1000 (bq FQ 1) [] (IV c kk kv wd d3 kk kv Pl Pl Pl Pl)) λr=>Wp (f9 (Pj r)) λx=>x=q):v4 [br c,dic kk kv,wd,d3]=Pj q:=by
 unfold v4 vn;rw[if_pos (show FD (mC "Ground.reckoned") (mM "Ground.reckoned") [br c,dic kk kv,wd,d3]=Pm from(show(decide (("Ground":Str)=mC "Ground.reckoned")&&!fl3.contains (mM "Ground.reckoned"))=Pm by nofun))];unfold jQ;rw[if_pos (by rfl)];change f9 (vB [fS (br c),fS (dic kk kv),fS wd,fS d3,Pl,Pl,Pl,Pl,Pl])=_;obtain⟨r,e,x,e2,rfl⟩:=h
 let d:vB [fS (br c),fS (dic kk kv),fS wd,fS d3,Pl,Pl,Pl,Pl,Pl]=Pj r:=by
  unfold vB;change ca (fB [] 4 (v3 (pS (Pj (.sh,dic kk kv))) [fS (br c),fS (dic kk kv),fS wd,fS d3,Pl,Pl,Pl,Pl,Pl])) _=_;rw[ur a f b rfl];show e
 rw[d,e2]
theorem eQ(hd:Hd)(k:hd=.lst\/hd=.tup){kk ks:List (Int×Int)}{kv:List D}(e:kk.Nodup)(j:Bj kk)(f:kv.length<=1000)(l:ks.length<=3)(g:∀s∈ks,s∈kk):v4 [br c,dic kk kv,.nd hd (ks.map pD),d3]=Pj (.fr k0,dic kk kv):=by
 show lr e j f ?_;unfold FQ bq bq
 let a:=jp hd k (c:=c) (kk:=kk) (kv:=kv) (L0:=[]) (ks0:=ks) (r:=[]) Oh (by simp) l (λ_ h=>nomatch h) g rfl
 show eR (cQ (ji (wv (bK (B:=A7) (ds:=[br c,dic kk kv,.nd hd (ks.map pD)]) rfl (e3 (p:=(.sh,br c)) (q:=(.sh,dic kk kv)) (u:=(.sh,.nd hd (ks.map pD))) rfl rfl rfl) rfl rfl a rfl) (fF rfl ⟨λ_ Y=>Y=IV c kk kv (.nd hd (ks.map pD)) d3 kk kv Pl Pl Pl Pl,rfl,λi d Y hd _=>by simp at hd,λY b=>?_⟩))));subst b;show dA (dM rfl ⟨rfl,ee rfl rfl⟩)
theorem vP{c:Ci}(h:Ok c){k n:Nat}{g:Nat×List Nat}{col:Nat->Nat}{kk:List (Int×Int)}{kv:List D}(hg:c.gates[k]?=Pj g)(he:n<=8)(T:kk.Nodup)(U:Bj kk)(hl:kv.length<=1000)(hc:∀w,w<2->∀p∈g.2,∃i:Nat,kk[i]?=Pj (sp w p)/\kv[i]?=Pj (iD (col p)))(E:∀w,w<2->sp w (c.f+k)∉kk)(hh:kk.length=kv.length) :
  ∃v:Nat,v4 [br c,dic kk kv,.lst ([sp 0 (c.f+k),sp 1 (c.f+k)].map pD),iD (W n)]=Pj (.fr k0,dic (kk++[sp 0 (c.f+k),sp 1 (c.f+k)]) (kv++[iD v,iD v])):=by
 let N:=(h.g k g hg).1;obtain⟨v,hv⟩:=Bf g.1 (n:=n) (xs:=g.2.map col) he (by rw[Mh];show N);show⟨v,lr T U hl ?_⟩;unfold FQ bq bq
 let M:=jp .lst (.inl rfl) (c:=c) (kk:=kk) (kv:=kv) (L0:=[sp 0 (c.f+k),sp 1 (c.f+k)]) (ks0:=[]) (r:=[sp 0 (c.f+k),sp 1 (c.f+k)]) (by
  show Mw.mpr ⟨λz=>?_,Mw.mpr ⟨by simp,.nil⟩⟩;have:=(bQ (MN.mp z)).1
  lia) (by simp) (by simp) (λs R=>by
  let hf:∃w,w<2/\s=sp w (c.f+k):=by
   simp only[Mn,Mv,or_false] at R;rcases R with rfl|rfl
   ·show⟨0,by decide,rfl⟩
   ·show⟨1,by decide,rfl⟩
  obtain⟨w,o,rfl⟩:=hf;obtain⟨i,P,Z⟩:=LR o hg;show⟨E w o,g.2.map (sp w),.inr ⟨i,iD g.1,P,?_,by rw[Mh];show N⟩,λq hq=>?_⟩
  ·rw[Z,MB];rfl
  ·obtain⟨p,A,rfl⟩:=Na.mp hq;obtain⟨j,t,_⟩:=hc w o p A
   show Mu t) (λ_ h=>nomatch h) (by
  change Pj (if ll (sp 0 (c.f+k)) (sp 1 (c.f+k))=Pm then _ else _)=_
  rw[if_pos (by simp[ll])])
 rw[M5] at M;show eR (cQ (ji (wv (bK (B:=A7) (ds:=[br c,dic kk kv,.lst ([sp 0 (c.f+k),sp 1 (c.f+k)].map pD)]) rfl (e3 (p:=(.sh,br c)) (q:=(.sh,dic kk kv)) (u:=(.sh,.lst ([sp 0 (c.f+k),sp 1 (c.f+k)].map pD))) rfl rfl rfl) rfl rfl M rfl) (fF rfl ⟨λs Y=>s<=2/\∃K I H F,Y=IV c kk kv (.lst ([sp 0 (c.f+k),sp 1 (c.f+k)].map pD)) (iD (W n)) (kk++[sp 0 (c.f+k),sp 1 (c.f+k)].take s) (kv++[iD v,iD v].take s) K I H F,⟨by lia,Pl,Pl,Pl,Pl,by simp;rfl⟩,λs d Y hd S=>?_,λY S=>?_⟩))))
 ·obtain⟨R,K,I,H,F,rfl⟩:=S
  obtain⟨w,o,rfl,rfl⟩:∃w,w<2/\w=s/\d=pD (sp w (c.f+k)):=by
   match s,hd with
   |0,hd=>show⟨0,by decide,rfl,(Option.some.inj hd).symm⟩
   |1,hd=>show⟨1,by decide,rfl,(Option.some.inj hd).symm⟩
   |s+2,hd=>simp at hd
  show⟨[(5,pD (sp w (c.f+k)))],rfl,rfl,?_⟩
  let tk:[sp 0 (c.f+k),sp 1 (c.f+k)].take (w+1)=[sp 0 (c.f+k),sp 1 (c.f+k)].take w++[sp w (c.f+k)]:=by
   match w,o with
   |0,_=>rfl
   |1,_=>rfl
  let tv:[iD v,iD v].take (w+1)=[iD v,iD v].take w++[iD v]:=by
   match w,o with
   |0,_=>rfl
   |1,_=>rfl
  let nw:sp w (c.f+k)∉kk++[sp 0 (c.f+k),sp 1 (c.f+k)].take w:=λz=>by
   rcases MQ.mp z with z|z
   ·show E w o z
   ·match w,o,z with
    |0,_,z=>cases z
    |1,_,z=>have:=(bQ (MN.mp z)).1;lia
  let V:(kk++[sp 0 (c.f+k),sp 1 (c.f+k)].take w).Nodup:=by
   match w,o with
   |0,_=>rw[List.take_zero,M5];show T
   |1,_=>
    show N4.mpr ⟨T,by simp,λa ha b U e=>?_⟩;have:b=sp 0 (c.f+k):=by simpa using U
    show E 0 (by decide) (this▸e▸ha)
  obtain⟨i,P,Z⟩:=LR o hg;generalize L:kk++[sp 0 (c.f+k),sp 1 (c.f+k)].take w=fk at *;generalize C:kv++[iD v,iD v].take w=fv at *;let lv:fv.length<=1010:=by rw[<- C,MF,MJ];simp;lia
  let m:∀p∈g.2,∃i:Nat,fk[i]?=Pj (sp w p)/\fv[i]?=Pj (iD (col p)):=λp A=>by
   obtain⟨j,t,Q⟩:=hc w o p A;let hj:=(Mg.mp t).1;show⟨j,by rw[<- L,My hj];show t,by rw[<- C,My (by lia)];show Q⟩
  let O:∀{K I H F:Option Sl},aa U_14.fn (.fld "gates" (.var 0)) (IV c kk kv (.lst ([sp 0 (c.f+k),sp 1 (c.f+k)].map pD)) (iD (W n)) fk fv K I H F)=Pj (.sh,dic (v5 c) (Cs c)):=my (k:=.sh) (n:=0) rfl rfl rfl;change Wp (aq _ _ _ [] (IV c kk kv (.lst ([sp 0 (c.f+k),sp 1 (c.f+k)].map pD)) (iD (W n)) fk fv (fS (pD (sp w (c.f+k)))) I H F)) _;show iH (z:=Pm) (by rw[lI (k:=.sh) (p:=sp w (c.f+k)) rfl O,decide_eq_true (Mu P)]) (λ_=>?_) λe=>by cases e
  show eS (ds:=[iD g.1,.lst (g.2.map λp=>pD (sp w p))]) (gA (k':=.sh) (b:=.var 5) (p:=sp w (c.f+k)) O rfl (yW c) P Z) ⟨rfl,rfl⟩ ?_;show aN (IU (k:=.sh) (f:=λp=>pD (sp w p)) (g:=λp=>iD (col p)) (.inl rfl) rfl rfl (by lia) (λ_=>rfl) (λp A=>?_) λp A=>?_) rfl (by decide) ?_
  ·obtain⟨j,t,Q⟩:=m p A;rw[lI (k:=.sh) (k':=.bo 2 k0) (p:=sp w p) (ks:=fk) (vs:=fv) rfl rfl,decide_eq_true (Mu t)]
  ·obtain⟨j,t,Q⟩:=m p A;show wv (gA (k:=.bo 2 k0) (k':=.sh) (p:=sp w p) (ks:=fk) (vs:=fv) rfl rfl V t Q) ⟨rfl,rfl⟩
  show iH (z:=Pm) ?_ (λ_=>?_) λe=>by cases e
  ·rw[rS (k:=.sh) (k':=.sh) (bP (l:=g.2) (f:=λp=>iD (col p)) (hd:=.lst) (k:=.bo 8 k0) rfl (.inl rfl)) (bP (l:=g.2) (f:=λp=>pD (sp w p)) (hd:=.lst) (k:=.sh) rfl (.inl rfl)),decide_eq_true rfl]
  ·let X:ψ8 [iD g.1,.lst (g.2.map λp=>iD (col p)),iD (W n)]=Pj (.sh,iD v):=by rw[<- hv,MB];rfl
   show yN (p:=sp w (c.f+k)) (x:=(.sh,iD v)) (y:=(.sh,pD (sp w (c.f+k)))) rfl (iF (B:=ψ8) (p:=(.sh,iD v)) (ds:=[iD g.1,.lst (g.2.map λp=>iD (col p)),iD (W n)]) rfl (e3 (p:=(.sh,iD g.1)) (q:=(.bo 8 k0,.lst (g.2.map λp=>iD (col p)))) (u:=(.sh,iD (W n))) rfl rfl rfl) rfl rfl X rfl) rfl rfl nw (by lia) rfl ?_;show ba (dN (ba (dN (ba ⟨_,.inl rfl,by lia,fS (pD (sp w (c.f+k))),fS (iD g.1),fS (.lst (g.2.map λp=>pD (sp w p))),bJ (.lst (g.2.map λp=>iD (col p))),?_⟩))));rw[tk,tv,<- MX,<- MX,L,C];rfl
 ·obtain⟨R,K,I,H,F,rfl⟩:=S;show dA (dM rfl ⟨rfl,ee rfl rfl⟩)
theorem Bk(a:Nat):rN [sp 1 a,sp 0 a]=Pj [sp 0 a,sp 1 a]:=by
 change Pj (if ll (sp 0 a) (sp 1 a)=Pm then _ else _)=_
 rw[if_pos (by simp[ll])]
theorem nW(a:Nat):[sp 0 a,sp 1 a].Nodup:=Mw.mpr ⟨λz=>by
 have:=(bQ (MN.mp z)).1
 lia,Mw.mpr ⟨by simp,.nil⟩⟩
theorem eP(b:s∈[sp 0 a,sp 1 a]):∃w,w<2/\s=sp w a:=by
 simp only[Mn,Mv,or_false] at b;rcases b with rfl|rfl
 ·show⟨0,by decide,rfl⟩
 ·show⟨1,by decide,rfl⟩
theorem mE(hd:Hd)(b:hd=.lst\/hd=.tup){c:Ci}{a:Nat}(h2:a<c.f):A7 [br c,dic [] [],.nd hd ([sp 0 a,sp 1 a].map pD)]=Pj (.fr k0,.lst ([sp 0 a,sp 1 a].map pD)):=
 jp hd b (c:=c) (kk:=[]) (kv:=[]) (L0:=[sp 0 a,sp 1 a]) (ks0:=[]) (r:=[sp 0 a,sp 1 a]) (nW a) (by simp) (by simp) (λs d=>by
  obtain⟨w,e,rfl⟩:=eP d
  show⟨by simp,[],.inl ⟨λz=>?_,rfl⟩,λ_ h=>nomatch h⟩
  have:=(gKs_mem.mp z).2.1
  lia) (λ_ h=>nomatch h) (Bk a)
theorem yZ{c:Ci}{a:Nat}(h1:c.ins<=a)(h2:a<c.f):Ie [br c,gT a fr]=Pj (.sh,.bl Pm):=by
 unfold Ie;show gQ rfl ?_;unfold KP;change Wp (aq _ _ _ [] [fS (br c),fS (gT a fr)]) _;show cg (fH (l:=[sp 0 a,sp 1 a]) (f:=pD) (k:=.fr k0) (hd:=.lst) (.inl rfl) (bK (B:=A7) (ds:=[br c,dic [] [],.tup ([sp 0 a,sp 1 a].map pD)]) rfl (e3 (p:=(.sh,br c)) (q:=(.fr k0,dic [] [])) (u:=(.sh,.tup ([sp 0 a,sp 1 a].map pD))) rfl rfl (yS (n:=2) (xs:=[pD (sp 0 a),pD (sp 1 a),.lst (fr.map iD),.lst (([]:List Nat).map iD)]) rfl (by simp))) rfl rfl (mE .tup (.inr rfl) h2) rfl) rfl (by simp) (λ_=>rfl) λs d=>?_) rfl (iI rfl rfl);obtain⟨w,b,rfl⟩:=eP d;let e:aa U_32.fn (.fld "gates" (.var 2)) (setAll [(1,pD (sp w a))] (aT [fS (br c),fS (gT a fr)] [Pl,Pl,Pj 0]))=Pj (.sh,dic (v5 c) (Cs c)):=my (k:=.sh) (n:=0) rfl rfl rfl;let g:aa U_32.fn (.fld "begins" (.var 2)) (setAll [(1,pD (sp w a))] (aT [fS (br c),fS (gT a fr)] [Pl,Pl,Pj 0]))=Pj (.sh,dic (nU c) (v6 c)):=my (k:=.sh) (n:=1) rfl rfl rfl;show IA (k:=.sh) (x:=Po) (y:=Pm) (iG ?_) λ_=>jI (iG ?_)
 ·rw[lI (k:=.sh) (p:=sp w a) rfl e,decide_eq_false (λz=>by have:=(gKs_mem.mp z).2.1;lia)]
 ·rw[lI (k:=.sh) (p:=sp w a) rfl g,decide_eq_true (mKs_mem.mpr ⟨b,h1,h2⟩)]
theorem Bl(h:Ok c):Bj (nU c):=λp a=>by
 have:=h.bi;have:=h.bm;unfold nU at a
 rcases MQ.mp a with z|z<;>obtain⟨k,b,rfl⟩:=mK_mem.mp z
 ·show⟨0,c.ins+k,by decide,by lia,rfl⟩
 ·show⟨1,c.ins+k,by decide,by lia,rfl⟩
theorem y3{c:Ci}(h:Ok c){k:Nat}{m:Bool×Nat}{fr:List Nat}(e:c.mems[k]?=Pj m):Ig [br c,gT (c.ins+k) fr]=Pj (.sh,.bl Pm):=by
 let x:=h.bm;obtain⟨i,a,o,_⟩:=Lm (w:=0) (by decide) e;obtain⟨j,b,r,_⟩:=Lm (w:=1) (by decide) e;unfold Ig;show gQ rfl ?_;unfold KQ;change Wp (aq _ _ _ [] [fS (br c),fS (gT (c.ins+k) fr),Pl]) _
 let g:=eQ .tup (.inr rfl) (c:=c) (kk:=nU c) (kv:=v6 c) (ks:=[sp 0 (c.ins+k),sp 1 (c.ins+k)]) (d3:=.int 1) (nV c) (Bl h) (by unfold v6;simp;lia) (by simp) (λs l=>by
  obtain⟨w,v,rfl⟩:=eP l;have:w=0\/w=1:=by lia
  rcases this with rfl|rfl
  ·show Mu a
  ·show Mu b)
 show aN (bK (B:=v4) (ds:=[br c,dic (nU c) (v6 c),.tup ([sp 0 (c.ins+k),sp 1 (c.ins+k)].map pD),.int 1]) rfl (e4 (p:=(.sh,br c)) (q:=(.sh,dic (nU c) (v6 c))) (u:=(.sh,.tup ([sp 0 (c.ins+k),sp 1 (c.ins+k)].map pD))) (t:=(.sh,.int 1)) rfl (my (k:=.sh) (n:=1) rfl rfl rfl) (yS (n:=2) (xs:=[pD (sp 0 (c.ins+k)),pD (sp 1 (c.ins+k)),.lst (fr.map iD),.lst (([]:List Nat).map iD)]) rfl (by simp)) rfl) rfl rfl g rfl) rfl (by decide) ?_;let f:∀(n:Nat) d,[pD (sp 0 (c.ins+k)),pD (sp 1 (c.ins+k)),.lst (fr.map iD),.lst (([]:List Nat).map iD)][n]?=Pj d->aa U_33.fn (.ix (.var 1) (.lit (.int (n:Int)))) [fS (br c),fS (gT (c.ins+k) fr),bJ (dic (nU c) (v6 c))]=Pj (.sh,d):=λn d h=>cN (k:=.sh) (k':=.sh) (n:=n) rfl rfl (.inr rfl) rfl h;show cg (iG (rS (gA (k:=.bo 2 k0) (k':=.sh) (p:=sp 0 (c.ins+k)) (ks:=nU c) (vs:=v6 c) rfl (f 0 _ rfl) (nV c) a o) (gA (k:=.bo 2 k0) (k':=.sh) (p:=sp 1 (c.ins+k)) (ks:=nU c) (vs:=v6 c) rfl (f 1 _ rfl) (nV c) b r))) rfl (iI rfl ?_);rw[decide_eq_true rfl];rfl
abbrev gf(k:Nat):D:=.tup ([sp 0 k,sp 1 k].map pD)
def eB(n:Nat):D:=.lst ((MH n).map gf)
structure Tab(kk:List (Int×Int))(kv:List D)(fr:List Nat):Prop where
 nd:kk.Nodup
 len:kk.length=kv.length
 le:kk.length<=2*fr.length
 int:∀v∈kv,∃x:Nat,v=iD x
 only:∀q∈kk,∃w p,w<2/\p∈fr/\q=sp w p
 all:∀p∈fr,∃col,∀w,w<2->∃i:Nat,kk[i]?=Pj (sp w p)/\kv[i]?=Pj (iD col)
theorem Tab.mem{kk:List (Int×Int)}{fr:List Nat}(t:Tab kk kv fr){w p:Nat}(a:w<2):sp w p∈kk↔p∈fr:=by
 constructor
 ·intro h;obtain⟨j,g,_,c,e⟩:=t.only _ h;rw[(bQ e).2];show c
 ·intro h;obtain⟨d,f⟩:=t.all p h;obtain⟨i,b,_⟩:=f w a;show Mu b
theorem Tab.old{fr:List Nat}{p:Nat}(t:Tab kk kv fr)(h:p∈fr):Tab kk kv (fr++[p]):=by
 show⟨t.nd,t.len,by have:=t.le;simp;lia,t.int,λq a=>?_,λq a=>?_⟩
 ·obtain⟨w,b,d,c,e⟩:=t.only q a;show⟨w,b,d,by simp[c],e⟩
 ·rcases MQ.mp a with z|z
  ·show t.all q z
  ·rw[MN.mp z];show t.all p h
theorem Tab.new{kk:List (Int×Int)}{kv:List D}{fr:List Nat}{p col:Nat}(t:Tab kk kv fr)(h:p∉fr):Tab (kk++[sp 0 p,sp 1 p]) (kv++[iD col,iD col]) (fr++[p]):=by
 show⟨N4.mpr ⟨t.nd,nW p,λa n b m e=>?_⟩,by have:=t.len;simp;lia,by have:=t.le;simp;lia,λv k=>(MQ.mp k).elim (t.int v) λz=>⟨col,by simpa using z⟩,λq j=>?_,λq j=>?_⟩
 ·obtain⟨w,d,rfl⟩:=eP m;show h ((t.mem d).mp (e▸n))
 ·rcases MQ.mp j with z|z
  ·obtain⟨w,l,f,g,e⟩:=t.only q z;show⟨w,l,f,by simp[g],e⟩
  ·obtain⟨w,d,rfl⟩:=eP z;show⟨w,p,d,by simp,rfl⟩
 ·rcases MQ.mp j with z|z
  ·obtain⟨c,o⟩:=t.all q z;show⟨c,λw d=>?_⟩;obtain⟨i,f,g⟩:=o w d;have:=(Mg.mp f).1;show⟨i,by rw[My this];show f,by rw[My (by rw[<- t.len];show this)];show g⟩
  ·rw[MN.mp z];show⟨col,λw d=>⟨kk.length+w,?_,?_⟩⟩
   ·rw[MM (by lia),M9]
    match w,d with
    |0,_=>rfl
    |1,_=>rfl
   ·rw[t.len,MM (by lia),M9]
    match w,d with
    |0,_=>rfl
    |1,_=>rfl
theorem Tab.box{fr:List Nat}(t:Tab kk kv fr)(h:∀p∈fr,p<41):Bj kk:=λq b=>by
 obtain⟨w,p,c,a,e⟩:=t.only q b;show⟨w,p,c,h p a,e⟩
theorem ls{kk:List (Int×Int)}:∀{kv:List D},(∀v∈kv,∃x:Nat,v=iD x)->fq kv [] .fz=Pm
 |[],_=>rfl
 |v::kv,h=>by
  obtain⟨x,rfl⟩:=h v (by simp);change(Pm&&fq kv [] .fz)=Pm;rw[ls (kk:=kk) λv a=>h v (by simp[a])];rfl
abbrev Ct(n:Nat)(fr:List Nat)(kk:List (Int×Int))(kv:List D)(kp:Nat)(x5 x6 B q O:Option Sl):Ro:=[fS (eB n),fS (.lst (fr.map iD)),fS (iD (W fr.length)),bJ (dic kk kv),fS (iD kp),x5,x6,B,q,O]
theorem ut{n:Nat}{fr:List Nat}(N:fr.length<=8)(Z:∀p∈fr,p<n):∃kk kv kp,E3 [eB n,.lst (fr.map iD)]=Pj (.sh,.tup [dic kk kv,iD kp])/\Tab kk kv fr:=by
 suffices h:Wp (E3 [eB n,.lst (fr.map iD)]) λr=>∃kk kv kp,r=(.sh,.tup [dic kk kv,iD kp])/\Tab kk kv fr by
  obtain⟨r,e,kk,kv,kp,rfl,t⟩:=h;show⟨kk,kv,kp,e,t⟩
 unfold E3;show nN rfl ?_;unfold KY;change Wp (aq _ _ _ [] [fS (eB n),fS (.lst (fr.map iD)),Pl,Pl,Pl,Pl,Pl,Pl,Pl,Pl]) _;let m:∀{S x3 R o C A q a:Option Sl},aa U_15.fn (.blt "len" (.cons (.var 1) .nil)) [fS (eB n),fS (.lst (fr.map iD)),S,x3,R,o,C,A,q,a]=Pj (.sh,iD fr.length):=bP (l:=fr) (f:=iD) (k:=.sh) rfl (.inl rfl);show aN (bK (B:=ψ6) (ds:=[iD fr.length]) rfl (e1 m) rfl rfl (jo N) rfl) rfl (by decide) ?_;show aN (x:=(.fr k0,dic [] [])) rfl rfl (by decide) ?_;show aN (x:=(.sh,iD (W fr.length))) rfl rfl (by decide) ?_;change Wp (aq _ _ _ _ (Ct n fr [] [] (W fr.length) Pl Pl Pl Pl Pl)) _
 show uo (l:=fr) (f:=iD) rfl (λs Y=>∃kk kv kp o C A q a,Y=Ct n fr kk kv kp o C A q a/\Tab kk kv (fr.take s)) ⟨[],[],W fr.length,Pl,Pl,Pl,Pl,Pl,rfl,⟨.nil,rfl,by simp,(λ_ h=>nomatch h),(λ_ h=>nomatch h),λp h=>by simp at h⟩⟩ (λs p Y H b=>?_) λY b=>?_
 ·obtain⟨kk,kv,kp,o,C,A,q,a,rfl,T⟩:=b;let X:=(Mg.mp H).1;let I:=Z p (Mu H);let E:=T.le;let P:=T.len;rw[MJ] at E;show⟨[(5,iD s),(6,iD p)],rfl,rfl,?_⟩;change Wp (aq _ _ _ _ (Ct n fr kk kv kp (fS (iD s)) (fS (iD p)) Pl Pl Pl)) _;show aN (bK (B:=ψ7) (ds:=[iD s,iD fr.length]) rfl (e2 (p:=(.sh,iD s)) rfl m) rfl rfl (vL N X) rfl) rfl (by decide) ?_;show aN (x:=(.sh,gf p)) (IB (x:=Pm) (vJ (k:=.sh) (bK (B:=ψ0) (ds:=[iD p]) rfl (e1 (p:=(.sh,iD p)) rfl) rfl rfl (p6 _) rfl)) (λ_=>cN (k:=.sh) (k':=.sh) (n:=p) (hd:=.lst) (xs:=(MH n).map gf) rfl rfl (.inl rfl) rfl (by rw[Mj,M7 I];rfl)) λe=>by cases e) rfl (by decide) ?_;change Wp (aq _ _ _ _ (Ct n fr kk kv kp (fS (iD s)) (fS (iD p)) (fS (iD (gR s fr.length))) (fS (gf p)) Pl)) _;let u:=nT H;by_cases c:p∈fr.take s
  ·show eR (cQ (ji (aL rfl (nM rfl ⟨λ_ Y=>∃kp a,Y=Ct n fr kk kv kp (fS (iD s)) (fS (iD p)) (fS (iD (gR s fr.length))) (fS (gf p)) a,⟨kp,Pl,rfl⟩,λi d Y hd b=>?_,λY b=>?_⟩))))
   ·obtain⟨kp,a,rfl⟩:=b
    obtain⟨w,g,rfl⟩:∃w,w<2/\d=pD (sp w p):=by
     match i,hd with
     |0,hd=>show⟨0,by decide,(Option.some.inj hd).symm⟩
     |1,hd=>show⟨1,by decide,(Option.some.inj hd).symm⟩
     |i+2,hd=>simp at hd
    obtain⟨K,V⟩:=T.all p c;obtain⟨j,O,U⟩:=V w g;show⟨[(9,pD (sp w p))],rfl,rfl,?_⟩;change Wp (aq _ _ _ [] (Ct n fr kk kv kp (fS (iD s)) (fS (iD p)) (fS (iD (gR s fr.length))) (fS (gf p)) (fS (pD (sp w p))))) _;show iH (z:=Pm) (by rw[lI (k:=.sh) (k':=.bo 3 k0) (p:=sp w p) (ks:=kk) (vs:=kv) rfl rfl,decide_eq_true (Mu O)]) (λ_=>?_) λe=>by cases e
    show HR rfl (ci (bc (bc (aL rfl (wv (gA (k:=.bo 3 k0) (k':=.sh) (p:=sp w p) (ks:=kk) (vs:=kv) rfl rfl T.nd O U) (lq (aL rfl (lq ⟨by decide,⟨iD (kp &&& (W fr.length ^^^ K ^^^ gR s fr.length)),?_,ba (dN (ba ⟨_,.inl rfl,_,_,rfl⟩))⟩⟩))))))));change Pj (D.int _)=Pj (D.int _);rw[nQ]
   ·obtain⟨kp,a,rfl⟩:=b;show ba ⟨_,.inl rfl,kk,kv,kp,_,_,_,_,_,rfl,by rw[u];show T.old c⟩
  ·show eR (cQ (ji (aL rfl (nM rfl ⟨λi Y=>i<=2/\∃a,Y=Ct n fr (kk++[sp 0 p,sp 1 p].take i) (kv++[iD (gR s fr.length),iD (gR s fr.length)].take i) kp (fS (iD s)) (fS (iD p)) (fS (iD (gR s fr.length))) (fS (gf p)) a,⟨by lia,Pl,by simp;rfl⟩,λi d Y hd b=>?_,λY b=>?_⟩))))
   ·obtain⟨_,a,rfl⟩:=b
    obtain⟨w,g,rfl,rfl⟩:∃w,w<2/\w=i/\d=pD (sp w p):=by
     match i,hd with
     |0,hd=>show⟨0,by decide,rfl,(Option.some.inj hd).symm⟩
     |1,hd=>show⟨1,by decide,rfl,(Option.some.inj hd).symm⟩
     |i+2,hd=>simp at hd
    let Q:[sp 0 p,sp 1 p].take (w+1)=[sp 0 p,sp 1 p].take w++[sp w p]:=by
     match w,g with
     |0,_=>rfl
     |1,_=>rfl
    let tv:∀v:D,[v,v].take (w+1)=[v,v].take w++[v]:=by
     match w,g with
     |0,_=>intro v;rfl
     |1,_=>intro v;rfl
    let M:sp w p∉kk++[sp 0 p,sp 1 p].take w:=λz=>by
     rcases MQ.mp z with z|z
     ·show c ((T.mem g).mp z)
     ·match w,g,z with
      |0,_,z=>cases z
      |1,_,z=>have:=(bQ (MN.mp z)).1;lia
    show⟨[(9,pD (sp w p))],rfl,rfl,?_⟩;let lv:(kv++[iD (gR s fr.length),iD (gR s fr.length)].take w).length<=100:=by rw[MF,MJ];simp;lia
    generalize F:kk++[sp 0 p,sp 1 p].take w=fk at *;generalize L:kv++[iD (gR s fr.length),iD (gR s fr.length)].take w=fv at *;change Wp (aq _ _ _ [] (Ct n fr fk fv kp (fS (iD s)) (fS (iD p)) (fS (iD (gR s fr.length))) (fS (gf p)) (fS (pD (sp w p))))) _;show iH (z:=Po) (by rw[lI (k:=.sh) (k':=.bo 3 k0) (p:=sp w p) (ks:=fk) (vs:=fv) rfl rfl,decide_eq_false M]) (λe=>by cases e) λ_=>?_;show yN (p:=sp w p) (x:=(.sh,iD (gR s fr.length))) (y:=(.sh,pD (sp w p))) rfl rfl rfl rfl M (by lia) rfl ?_;show ba (dN (ba ⟨_,.inl rfl,by lia,fS (pD (sp w p)),?_⟩));rw[Q,tv,<- MX,<- MX,F,L];rfl
   ·obtain⟨_,a,rfl⟩:=b;show ba ⟨_,.inl rfl,_,_,kp,_,_,_,_,_,rfl,by rw[u];show T.new c⟩
 ·obtain⟨kk,kv,kp,o,C,A,q,a,rfl,T⟩:=b;rw[Nk] at T;show dA (eN (dv (dM rfl (wv (e1 (p:=(.sh,iD kp)) rfl) (dX rfl ⟨rfl,_,rfl,kk,kv,kp,rfl,T⟩)))))
abbrev uu(c:Ci)(n:Nat)(kk:List (Int×Int))(kv:List D)(O:D)(x5 B q:Option Sl):Ro:=[fS (br c),fS (eB n),fS c9,fS (dic kk kv),fS O,x5,Pl,Pl,Pl,B,q]
noncomputable abbrev zh:D:=.nd (.dic 0 []) []
theorem y4{kk:List (Int×Int)}{kv:List D}(a:kk.Nodup)(f:Bj kk)(b:kv.length<=1000):Ih [br c,eB n,c9,dic kk kv,wd]=Pj (.fr k0,dic kk kv):=by
 let s0:aq U_19 1000 (bp E2 2) [] (uu c n kk kv wd Pl Pl Pl)=Pj (.nx (uu c n kk kv wd (bJ zh) Pl Pl)):=by
  show n5 ?_;unfold E2 bp bp bp;show aN (x:=(.fr k0,zh)) rfl rfl (by decide) ?_;show eR (cQ (ji (aL rfl (fF rfl ⟨λ_ Y=>Y=uu c n kk kv wd (bJ zh) Pl Pl,rfl,λi d Y g _=>by simp at g,λY j=>?_⟩))));subst j;show ba rfl
 let s1:E4 (uu c n kk kv wd (bJ zh) Pl Pl)=Pj (.nx (uu c n kk kv wd (bJ zh) (bJ (dic kk kv)) Pl)):=by
  let e:=eQ .lst (.inl rfl) (c:=c) (kk:=kk) (kv:=kv) (ks:=[]) (d3:=wd) a f b (by simp) (λ_ h=>nomatch h)
  let e2:zf v4 [(.sh,br c),(.sh,dic kk kv),(.fr k0,.lst []),(.sh,wd)]=Pj (.fr k0,dic kk kv):=n5 (ua ⟨_,e,rfl,.inl rfl,rfl⟩);change fB [] 9 (v3 (zf v4 [(.sh,br c),(.sh,dic kk kv),(.fr k0,.lst []),(.sh,wd)]) (uu c n kk kv wd (bJ zh) Pl Pl))=_;rw[e2];rfl
 let s2:E5 (uu c n kk kv wd (bJ zh) (bJ (dic kk kv)) Pl)=Pj (.nx (uu c n kk kv wd (bJ zh) (bJ (dic kk kv)) (bJ (dic kk kv)))):=by
  change fB [] 10 (v3 (pS (Pj (.sh,dic kk kv))) (uu c n kk kv wd (bJ zh) (bJ (dic kk kv)) Pl))=_;rw[ur a f b rfl];rfl
 let k:E6 (uu c n kk kv wd (bJ zh) (bJ (dic kk kv)) (bJ (dic kk kv)))=Pj (.nx (uu c n kk kv wd Pl (bJ (dic kk kv)) (bJ (dic kk kv)))):=rfl;let s4:Wp (aq U_19 1000 (bq E2 5) [] (uu c n kk kv wd Pl (bJ (dic kk kv)) (bJ (dic kk kv)))) λr=>Wp (f9 (Pj r)) λx=>x=(.fr k0,dic kk kv):=dA (dM rfl ⟨rfl,ee rfl rfl⟩);obtain⟨r,e,x,m,rfl⟩:=s4;unfold Ih jQ;rw[if_pos (by rfl)];change f9 (vC (uu c n kk kv wd Pl Pl Pl))=_
 let l:vC (uu c n kk kv wd Pl Pl Pl)=Pj r:=by
  unfold vC;rw[s0];dsimp only[ca];rw[s1];dsimp only;rw[s2];dsimp only;rw[k];dsimp only;rw[e]
 rw[l,m]
theorem mF{c:Ci}{n:Nat}{fr:List Nat}{kk fk ks:List (Int×Int)}{kv fv:List D}{kp:Nat}(v:fr.length<=8)(b:E3 [eB n,.lst (fr.map iD)]=Pj (.sh,.tup [dic kk kv,iD kp]))(o:kk.Nodup)(w:Bj kk)(j:kv.length<=1000)(y:ks.length<=2)
  (h33:v4 [br c,dic kk kv,.lst (ks.map pD),iD (W fr.length)]=Pj (.fr k0,dic fk fv)) (hc:fq fv [] .fz=Pm) (ha:∀s∈ks,s∈fk):FT [br c,eB n,.lst (fr.map iD),c9,.lst (ks.map pD)]=Pj (.sh,.tup [dic fk fv,iD kp]):=by
 unfold FT;show aH (nN rfl ?_);unfold KW;change Wp (aq _ _ _ [] [fS (br c),fS (eB n),fS (.lst (fr.map iD)),fS c9,fS (.lst (ks.map pD)),Pl,Pl,Pl,Pl,Pl,Pl,Pl,Pl,Pl]) _;show aN (bK (B:=ψ6) (ds:=[iD fr.length]) rfl (e1 (bP (l:=fr) (f:=iD) (k:=.sh) rfl (.inl rfl))) rfl rfl (jo v) rfl) rfl (by decide) ?_;show eS (ds:=[dic kk kv,iD kp]) (bK (B:=E3) (ds:=[eB n,.lst (fr.map iD)]) rfl (e2 (p:=(.sh,eB n)) (q:=(.sh,.lst (fr.map iD))) rfl rfl) rfl rfl b rfl) ⟨rfl,rfl⟩ ?_;change Wp (aq _ _ _ [] [fS (br c),fS (eB n),fS (.lst (fr.map iD)),fS c9,fS (.lst (ks.map pD)),fS (iD (W fr.length)),fS (dic kk kv),fS (iD kp),Pl,Pl,Pl,Pl,Pl,Pl]) _;show aN (bK (B:=Ih) (ds:=[br c,eB n,c9,dic kk kv,iD (W fr.length)]) rfl (n5 (aD (a:=.var 0) (wv (r:=(.sh,br c)) rfl (wv (e4 (p:=(.sh,eB n)) (q:=(.sh,c9)) (u:=(.sh,dic kk kv)) (t:=(.sh,iD (W fr.length))) rfl rfl rfl rfl) rfl)))) rfl rfl (y4 o w j) rfl) rfl (by decide) ?_;show aN (x:=(.fr k0,.lst (ks.map pD))) (aH (dU (aD (wv (r:=(Kd.sh,D.lst (ks.map pD))) rfl (bt (fI (.inl rfl))))))) rfl (by decide) ?_;change Wp (aq _ _ _ [] [fS (br c),fS (eB n),fS (.lst (fr.map iD)),fS c9,fS (.lst (ks.map pD)),fS (iD (W fr.length)),fS (dic kk kv),fS (iD kp),bJ (dic kk kv),bJ (.lst (ks.map pD)),Pl,Pl,Pl,Pl]) _;show eR (cQ (ji (aL rfl (fF rfl ⟨λ_ Y=>Y=[fS (br c),fS (eB n),fS (.lst (fr.map iD)),fS c9,fS (.lst (ks.map pD)),fS (iD (W fr.length)),fS (dic kk kv),fS (iD kp),bJ (dic kk kv),bJ (.lst (ks.map pD)),Pl,Pl,Pl,Pl],rfl,λi d Y hd _=>by simp at hd,λY g=>?_⟩))));subst g;let h:kI (.fr k0) (dic fk fv)=Pm:=hc;show aN (iF (B:=v4) (ds:=[br c,dic kk kv,.lst (ks.map pD),iD (W fr.length)]) rfl (e4 (p:=(.sh,br c)) (q:=(.bo 8 k0,dic kk kv)) (u:=(.bo 9 k0,.lst (ks.map pD))) (t:=(.sh,iD (W fr.length))) rfl rfl rfl rfl) h rfl h33 rfl) rfl (by decide) ?_;change Wp (aq _ _ _ [] [fS (br c),fS (eB n),fS (.lst (fr.map iD)),fS c9,fS (.lst (ks.map pD)),fS (iD (W fr.length)),fS (dic kk kv),fS (iD kp),bJ (dic kk kv),bJ (.lst (ks.map pD)),Pl,bJ (dic fk fv),Pl,Pl]) _;show fG (z:=Po) (x:=(.sh,.non)) (fj (x:=Pm) (Ch (k:=.sh) (fH (l:=ks) (f:=pD) (k:=.bo 9 k0) (hd:=.lst) (.inl rfl) rfl rfl (by lia) (λ_=>rfl) λs m=>iG ?_))) (λe=>by cases e) λ_=>?_
 ·rw[lI (k:=.sh) (k':=.bo 2 k0) (p:=s) (ks:=fk) (vs:=fv) rfl rfl,decide_eq_true (ha s m)]
 show eR (cQ (ji (aL rfl (fF rfl ⟨λ_ Y=>Y=[fS (br c),fS (eB n),fS (.lst (fr.map iD)),fS c9,fS (.lst (ks.map pD)),fS (iD (W fr.length)),fS (dic kk kv),fS (iD kp),bJ (dic kk kv),bJ (.lst (ks.map pD)),Pl,bJ (dic fk fv),Pl,Pl],rfl,λi d Y hd _=>by simp at hd,λY g=>?_⟩))));subst g;show dA (eN (dv (dM rfl (wv (e1 (p:=(.sh,iD kp)) rfl) (dX rfl ⟨rfl,_,rfl,rfl⟩)))))
theorem y6(v kp:Nat):(v ^^^ v) &&& kp=0:=by rw[Nat.xor_self,Nat.zero_and]
theorem Fg{c:Ci}{k:Nat}(h:Ok c){fr:List Nat}(hk:c.f+k<=c.n)(b:∀p∈fr,p<c.f+k):∀p∈fr,p<41:=λp a=>by
 have:=h.bn;have:=b p a
 lia
theorem uw{fk:List (Int×Int)}{fv:List D}{i j v kp:Nat}(c:aa U f Y=Pj (kf,dic fk fv))(h:aa U a Y=Pj (ka,pD p))(n:aa U b Y=Pj (kb,pD q))(hk:aa U kx Y=Pj (kk,iD kp))(d:fk.Nodup)(k:fk[i]?=Pj p)(g:fv[i]?=Pj (iD v))(m:fk[j]?=Pj q)(l:fv[j]?=Pj (iD v)) :
  aa U (.cmp .Eq (.bin .BitAnd (.bin .BitXor (.ix f a) (.ix f b)) kx) (.lit (.int 0))) Y=Pj (.sh,.bl Pm):=by
 let e:aa U (.bin .BitAnd (.bin .BitXor (.ix f a) (.ix f b)) kx) Y=Pj (.sh,iD 0):=aH (bc (bc (wv (gA c h d k g) (wv (gA c n d m l) (lq (wv hk (yO (by rw[y6]))))))));show iG (dF e rfl rfl)
theorem Fh{c:Ci}(h:Ok c){k:Nat}{g:Nat×List Nat}{fr:List Nat}(M:c.gates[k]?=Pj g)(C:fr.length<=8)(A:∀p∈fr,p<c.f+k)(P:∀p∈g.2,p∈fr):Ii [br c,eB c.n,gT (c.f+k) fr]=Pj (.sh,.bl Pm):=by
 let hk:=(Mg.mp M).1;let I:c.f+k<c.n:=by unfold Ci.n;lia
 obtain⟨kk,N,kp,E,T⟩:=ut (n:=c.n) C (λp b=>NY (A p b) I);let m:=T.box (Fg h (by lia) A);let O:=T.le;let y:=T.len
 let l:∃col:Nat->Nat,∀p∈fr,∀w,w<2->∃i:Nat,kk[i]?=Pj (sp w p)/\N[i]?=Pj (iD (col p)):=by
  show⟨λp=>if b:p∈fr then Classical.choose (T.all p b) else 0,λp b=>?_⟩
  dsimp only;rw[dif_pos b];show Classical.choose_spec (T.all p b)
 obtain⟨col,U⟩:=l
 let L:∀w,w<2->sp w (c.f+k)∉kk:=λw H z=>by
  have:=A _ ((T.mem H).mp z)
  lia
 obtain⟨v,K⟩:=vP h (col:=col) (n:=fr.length) M C T.nd m (by lia) (λw H p b=>U p (P p b) w H) L y;let F:=T.new (p:=c.f+k) (col:=v) (λz=>by have:=A _ z;lia);let D:=mF (c:=c) (n:=c.n) (ks:=[sp 0 (c.f+k),sp 1 (c.f+k)]) C E T.nd m (by lia) (by simp) K (ls (kk:=kk) F.int) (λs S=>Mq _ S);obtain⟨R,o⟩:=F.all (c.f+k) (by simp);obtain⟨i,V,X⟩:=o 0 (by decide);obtain⟨j,W,Q⟩:=o 1 (by decide);generalize kk++[sp 0 (c.f+k),sp 1 (c.f+k)]=fk at *;generalize N++[iD v,iD v]=fv at *;unfold Ii;show gQ rfl ?_;unfold KR;change Wp (aq _ _ _ [] [fS (br c),fS (eB c.n),fS (gT (c.f+k) fr),Pl,Pl,Pl,Pl,Pl,Pl,Pl]) _;show eS (ds:=[pD (sp 0 (c.f+k)),pD (sp 1 (c.f+k)),.lst (fr.map iD),c9]) rfl ⟨rfl,rfl⟩ ?_;change Wp (aq _ _ _ [] [fS (br c),fS (eB c.n),fS (gT (c.f+k) fr),fS (pD (sp 0 (c.f+k))),fS (pD (sp 1 (c.f+k))),fS (.lst (fr.map iD)),fS c9,Pl,Pl,Pl]) _;show aN (bK (B:=FT) (ds:=[br c,eB c.n,.lst (fr.map iD),c9,.lst ([sp 0 (c.f+k),sp 1 (c.f+k)].map pD)]) rfl (n5 (aD (a:=.var 0) (wv (r:=(.sh,br c)) rfl (wv (e4 (p:=(.sh,eB c.n)) (q:=(.sh,.lst (fr.map iD))) (u:=(.sh,c9)) (t:=(.fr k0,.lst ([sp 0 (c.f+k),sp 1 (c.f+k)].map pD))) rfl rfl rfl (p8 (kds:=[(.sh,pD (sp 0 (c.f+k))),(.sh,pD (sp 1 (c.f+k)))]) (e2 rfl rfl) ⟨rfl,by simp⟩)) rfl)))) rfl rfl D rfl) rfl (by decide) ?_;show fG (z:=Po) (x:=(.sh,.bl Po)) (ui (k:=.sh) (d:=.tup [dic fk fv,iD kp]) rfl) (λe=>by cases e) λ_=>?_;show eS (ds:=[dic fk fv,iD kp]) rfl ⟨rfl,rfl⟩ ?_;change Wp (aq _ _ _ [] [fS (br c),fS (eB c.n),fS (gT (c.f+k) fr),fS (pD (sp 0 (c.f+k))),fS (pD (sp 1 (c.f+k))),fS (.lst (fr.map iD)),fS c9,fS (.tup [dic fk fv,iD kp]),fS (dic fk fv),fS (iD kp)]) _;show cg (uw (kf:=.sh) (ka:=.sh) (kb:=.sh) (kk:=.sh) (fk:=fk) (fv:=fv) (v:=R) (kp:=kp) rfl rfl rfl rfl F.nd V X W Q) rfl (iI rfl rfl)
abbrev Fk(c:Ci)(a b:Nat)(x7 W x9 q B O:Option Sl):Ro:=[fS (br c),fS (eB c.n),fS (gT a [b]),fS (pD (sp 0 a)),fS (pD (sp 1 a)),fS (.lst (([b]:List Nat).map iD)),fS c9,x7,W,x9,q,B,O]
abbrev rW(a:Nat):D:=.lst (([0,1]:List Nat).map λw=>pD (sp w a))
theorem LS{w:Nat}(a:w∈[0,1]):w<2:=by
 simp only[Mn,Mv,or_false] at a
 lia
theorem Bm{c:Ci}(h:Ok c){k:Nat}{m:Bool×Nat}(Q:c.mems[k]?=Pj m):Ij [br c,eB c.n,gT (c.ins+k) [m.2]]=Pj (.sh,.bl Pm):=by
 let hk:=(Mg.mp Q).1;let M:=h.m m (Mu Q);let hg:=h.bn;let X:c.ins+k<c.f:=by unfold Ci.f;lia
 let hh:c.f<=c.n:=by unfold Ci.n;lia
 obtain⟨kk,kv,kp,O,T⟩:=ut (n:=c.n) (fr:=[m.2]) (by simp) (λp L=>by rw[MN.mp L];show M);let D:=T.box (λp L=>by rw[MN.mp L];lia);let H:=T.le;let Z:=T.len;let U:kk.length<=2:=H
 let R:=eQ .lst (.inl rfl) (c:=c) (kk:=kk) (kv:=kv) (ks:=[sp 0 m.2,sp 1 m.2]) (d3:=iD (W 1)) T.nd D (by lia) (by simp) (λs F=>by
  obtain⟨w,A,rfl⟩:=eP F;show(T.mem A).mpr (by simp))
 let N:=mF (c:=c) (n:=c.n) (fr:=[m.2]) (ks:=[sp 0 m.2,sp 1 m.2]) (by simp) O T.nd D (by lia) (by simp) R (ls (kk:=kk) T.int) (λs F=>by
  obtain⟨w,A,rfl⟩:=eP F;show(T.mem A).mpr (by simp))
 obtain⟨o,hc⟩:=T.all m.2 (by simp)
 let S:=eQ .lst (.inl rfl) (c:=c) (kk:=[sp 0 (c.ins+k),sp 1 (c.ins+k)]) (kv:=[iD o,iD o]) (ks:=[sp 0 (c.ins+k),sp 1 (c.ins+k)]) (d3:=iD (W 1)) (nW _) (λq hq=>by
  obtain⟨w,A,rfl⟩:=eP hq;show⟨w,c.ins+k,A,by lia,rfl⟩) (by simp) (by simp) (λs F=>F)
 let I:∀w,w<2->sp w (c.ins+k)∈nU c:=λw A=>mKs_mem.mpr ⟨A,by lia,X⟩;let E:∀{Y:Ro} {e:IE},aa U_16.fn e Y=Pj (.sh,br c)->aa U_16.fn (.fld "afters" e) Y=Pj (.sh,dic (nU c) (IM c)):=λK=>my (k:=.sh) (n:=2) K rfl rfl
 let C:∀{Y:Ro} {e b:IE} {kb:Kd} {w:Nat},w<2->aa U_16.fn e Y=Pj (.sh,br c)->aa U_16.fn b Y=Pj (kb,pD (sp w (c.ins+k)))->aa U_16.fn (.ix (.fld "afters" e) b) Y=Pj (.sh,pD (sp w m.2)):=λ{Y e b kb w} A K hb=>by
  obtain⟨i,P,_,i3⟩:=Lm A Q;show gA (E K) hb (nV c) P i3
 generalize hA:c.ins+k=a at *
 let s0:aq U_16 1000 (bp Cc 5) [] [fS (br c),fS (eB c.n),fS (gT a [m.2]),Pl,Pl,Pl,Pl,Pl,Pl,Pl,Pl,Pl,Pl]=Pj (.nx (Fk c a m.2 (bJ (rW a)) (fS (.tup [dic kk kv,iD kp])) (fS (dic kk kv)) (fS (iD kp)) Pl Pl)):=by
  show n5 ?_;unfold Cc bp bp bp bp bp bp;show eS (ds:=[pD (sp 0 a),pD (sp 1 a),.lst (([m.2]:List Nat).map iD),c9]) rfl ⟨rfl,rfl⟩ ?_;change Wp (aq _ _ _ [] (Fk c a m.2 Pl Pl Pl Pl Pl Pl)) _;show aN (x:=(.fr k0,rW a)) (IU (l:=[0,1]) (f:=λw=>pD (sp w a)) (g:=λw=>pD (sp w a)) (k:=.fr k0) (hd:=.lst) (.inl rfl) (bK (B:=A7) (ds:=[br c,dic [] [],.lst ([sp 0 a,sp 1 a].map pD)]) rfl (e3 (p:=(.sh,br c)) (q:=(.fr k0,dic [] [])) (u:=(.fr k0,.lst ([sp 0 a,sp 1 a].map pD))) rfl rfl (p8 (kds:=[(.sh,pD (sp 0 a)),(.sh,pD (sp 1 a))]) (e2 rfl rfl) ⟨rfl,by simp⟩)) rfl rfl (mE .lst (.inl rfl) X) rfl) rfl (by simp) (λ_=>rfl) (λw A=>?_) λw A=>wv rfl ⟨rfl,rfl⟩) rfl (by decide) ?_
  ·rw[lI (k:=.sh) (p:=sp w a) rfl (E (e:=.var 2) rfl),decide_eq_true (I w (LS A))]
  change Wp (aq _ _ _ [] (Fk c a m.2 (bJ (rW a)) Pl Pl Pl Pl Pl)) _;show aN (bK (B:=FT) (ds:=[br c,eB c.n,.lst (([m.2]:List Nat).map iD),c9,.lst ([sp 0 m.2,sp 1 m.2].map pD)]) rfl (n5 (aD (a:=.var 0) (wv (r:=(.sh,br c)) rfl (wv (e4 (p:=(.sh,eB c.n)) (q:=(.sh,.lst (([m.2]:List Nat).map iD))) (u:=(.sh,c9)) (t:=(.fr k0,.lst (([0,1]:List Nat).map λw=>pD (sp w m.2)))) rfl rfl rfl (rT (k:=.bo 7 k0) (hd:=.lst) (l:=[0,1]) (f:=λw=>pD (sp w a)) (g:=λw=>pD (sp w m.2)) (.inl rfl) rfl rfl (by simp) λw A=>Ck rfl (wv (C (LS A) rfl rfl) ⟨_,rfl,rfl⟩))) rfl)))) rfl rfl N rfl) rfl (by decide) ?_;show fG (z:=Po) (x:=(.sh,.bl Po)) (ui (k:=.sh) (d:=.tup [dic kk kv,iD kp]) rfl) (λe=>by cases e) λ_=>?_;show eS (ds:=[dic kk kv,iD kp]) rfl ⟨rfl,rfl⟩ ?_;show ba rfl
 let s1:E7 (Fk c a m.2 (bJ (rW a)) (fS (.tup [dic kk kv,iD kp])) (fS (dic kk kv)) (fS (iD kp)) Pl Pl)=Pj (.nx (Fk c a m.2 (bJ (rW a)) (fS (.tup [dic kk kv,iD kp])) (fS (dic kk kv)) (fS (iD kp)) (bJ (dic [sp 0 a,sp 1 a] [iD o,iD o])) Pl)):=by
  let V:∀w,w<2->gP (.nm 1) (λ_=>Pj Pm) (aa U_16.fn (.var 1)) (aa U_16.fn (.ix (.var 2) (.ix (.fld "afters" (.var 3)) (.var 1)))) [Pl,Pl,fS (dic kk kv),fS (br c)] (pD (sp w a))=Pj (Pj (pD (sp w a),iD o)):=λw A=>by
   obtain⟨i,P,i2⟩:=hc w A;let e:aa U_16.fn (.ix (.var 2) (.ix (.fld "afters" (.var 3)) (.var 1))) [Pl,fS (pD (sp w a)),fS (dic kk kv),fS (br c)]=Pj (.sh,iD o):=gA (k:=.sh) (p:=sp w m.2) (ks:=kk) (vs:=kv) rfl (C A rfl rfl) T.nd P i2
   change(match aa U_16.fn (.ix (.var 2) (.ix (.fld "afters" (.var 3)) (.var 1))) [Pl,fS (pD (sp w a)),fS (dic kk kv),fS (br c)] with|some y=>if qM y.1 y.2=Pm then Pj (Pj (pD (sp w a),y.2)) else Pl|none=>Pl)=_
   rw[e];rfl
  let z0:vj 1 ([],[]) (pD (sp 0 a)) (iD o)=Pj ([pk (sp 0 a)],[iD o]):=rfl
  let z1:vj 1 ([pk (sp 0 a)],[iD o]) (pD (sp 1 a)) (iD o)=Pj ([pk (sp 0 a),pk (sp 1 a)],[iD o,iD o]):=by
   change(match aS ([sp 0 a].map pk) (pk (sp 1 a)) with|some j=>if [pk (sp 0 a)].Nodup then Pj ([pk (sp 0 a)],[iD o].set j (iD o)) else Pl|none=>Pj ([pk (sp 0 a)]++[pk (sp 1 a)],[iD o]++[iD o]))=_
   rw[p5 (λz=>by
    have:=(bQ (MN.mp z)).1
    lia)]
   rfl
  let e:eL 1 (Pj ([7],[pD (sp 0 a),pD (sp 1 a)])) (gP (.nm 1) (λ_=>Pj Pm) (aa U_16.fn (.var 1)) (aa U_16.fn (.ix (.var 2) (.ix (.fld "afters" (.var 3)) (.var 1)))) [Pl,Pl,fS (dic kk kv),fS (br c)])=Pj (.fr k0,dic [sp 0 a,sp 1 a] [iD o,iD o]):=by
   unfold eL;dsimp only;rw[if_pos (by simp),ed,V 0 (by decide)];dsimp only;rw[z0];dsimp only;rw[ed,V 1 (by decide)];dsimp only;rw[z1];rfl
  change fB [] 11 (v3 (eL 1 (Pj ([7],[pD (sp 0 a),pD (sp 1 a)])) (gP (.nm 1) (λ_=>Pj Pm) (aa U_16.fn (.var 1)) (aa U_16.fn (.ix (.var 2) (.ix (.fld "afters" (.var 3)) (.var 1)))) [Pl,Pl,fS (dic kk kv),fS (br c)])) _)=_;rw[e];rfl
 let s2:Wp (aq U_16 1000 (bq Cc 6) [] (Fk c a m.2 (bJ (rW a)) (fS (.tup [dic kk kv,iD kp])) (fS (dic kk kv)) (fS (iD kp)) (bJ (dic [sp 0 a,sp 1 a] [iD o,iD o])) Pl)) λr=>Wp (f9 (Pj r)) λx=>x=(.sh,.bl Pm):=by
  unfold Cc bq bq bq bq bq bq bq;show aN (iF (B:=v4) (ds:=[br c,dic [sp 0 a,sp 1 a] [iD o,iD o],.lst ([sp 0 a,sp 1 a].map pD),iD (W 1)]) rfl (e4 (p:=(.sh,br c)) (q:=(.bo 11 k0,dic [sp 0 a,sp 1 a] [iD o,iD o])) (u:=(.fr k0,.lst ([sp 0 a,sp 1 a].map pD))) (t:=(.sh,iD (W 1))) rfl rfl (p8 (kds:=[(.sh,pD (sp 0 a)),(.sh,pD (sp 1 a))]) (e2 rfl rfl) ⟨rfl,by simp⟩) (bK (B:=ψ6) (ds:=[iD 1]) rfl (e1 (bP (l:=[m.2]) (f:=iD) (k:=.sh) rfl (.inl rfl))) rfl rfl (jo (by decide)) rfl)) rfl rfl S rfl) rfl (by decide) ?_;change Wp (aq _ _ _ [] (Fk c a m.2 (bJ (rW a)) (fS (.tup [dic kk kv,iD kp])) (fS (dic kk kv)) (fS (iD kp)) (bJ (dic [sp 0 a,sp 1 a] [iD o,iD o])) (bJ (dic [sp 0 a,sp 1 a] [iD o,iD o])))) _;show cg (uw (kf:=.bo 12 k0) (ka:=.sh) (kb:=.sh) (kk:=.sh) (fk:=[sp 0 a,sp 1 a]) (fv:=[iD o,iD o]) (i:=0) (j:=1) (v:=o) (kp:=kp) rfl rfl rfl rfl (nW a) rfl rfl rfl rfl) rfl (iI rfl rfl)
 obtain⟨r,e,x,ex,rfl⟩:=s2;unfold Ij jQ;rw[if_pos (by rfl)];change f9 (vD [fS (br c),fS (eB c.n),fS (gT a [m.2]),Pl,Pl,Pl,Pl,Pl,Pl,Pl,Pl,Pl,Pl])=_
 let eb:vD [fS (br c),fS (eB c.n),fS (gT a [m.2]),Pl,Pl,Pl,Pl,Pl,Pl,Pl,Pl,Pl,Pl]=Pj r:=by
  unfold vD;rw[s0];dsimp only[ca];rw[s1];dsimp only;rw[e]
 rw[eb,ex]
theorem y7{α:Type}(l:List α)(f:α->D):oY (Pj (.sh,.lst (l.map f))) (Pj (.sh,.lst (l.map f)))=Pj ([],l.map λa=>.tup [f a,f a]):=by
 change Pj (([]:List Nat),u7 (l.map f) (l.map f))=_;unfold u7;rw[List.zipWith_map,List.zipWith_self]
theorem IW{α β:Type}(l:List α)(F:Nat->β):(l.zipIdx.map λp=>F p.2)=(MH l.length).map F:=by
 show NF λi=>?_;rw[Mj,Mj,NV]
 cases e:l[i]? with
 |none=>
  have:=NG.mp e;rw[MY (by rw[N3];show this)];rfl
 |some a=>
  have:=(Mg.mp e).1;rw[M7 this];simp
def Cu(c:Ci)(fs:List (List Nat)):List (Nat×List Nat):=(c.mems.zipIdx.map λp=>(c.ins+p.2,[p.1.2]))++fs.zipIdx.map λp=>(c.f+p.2,p.1)
theorem Bn(c:Ci)(fs:List (List Nat)):(Cu c fs).map (λq=>gT q.1 q.2)=c.mems.zipIdx.map (iL c)++fs.zipIdx.map (ef c):=by
 unfold Cu;rw[MS,MB,MB];rfl
theorem Bo{c:Ci}{fs:List (List Nat)}(a:fs.length=c.gates.length):(MH c.ins).map gf++(Cu c fs).map (λq=>gf q.1)=(MH c.n).map gf:=by
 unfold Cu Ci.n;rw[MS,MB,MB,show((λq:Nat×List Nat=>gf q.1)∘λp:(Bool×Nat)×Nat=>(c.ins+p.2,[p.1.2]))=λp=>(λi=>gf (c.ins+i)) p.2 from rfl,show((λq:Nat×List Nat=>gf q.1)∘λp:List Nat×Nat=>(c.f+p.2,p.1))=λp=>(λi=>gf (c.f+i)) p.2 from rfl,IW c.mems (λi=>gf (c.ins+i)),IW fs (λi=>gf (c.f+i)),a,List.range_add (n:=c.f),MS,MB];unfold Ci.f;rw[List.range_add (n:=c.ins),MS,MB,MX];rfl
theorem nX(l:List Nat):dY 90 (.lst (l.map gf))=Pm:=by
 change(decide (1<=90)&&jM 89 (l.map gf))=Pm;rw[j5 λd a=>?_]
 ·rfl
 ·obtain⟨k,_,rfl⟩:=Na.mp a;rfl
abbrev Cv(c:Ci)(fs:List (List Nat))(B q O:Option Sl):Ro:=[fS (cD c),fS (cD c),fS (aR c fs),fS c9,fS (.lst (c.mems.zipIdx.map (iL c))),fS (.lst (fs.zipIdx.map (ef c))),fS (.lst (c.outs.map iD)),B,q,O]
abbrev gS(c:Ci):Option Sl:=Pj ⟨Po,kG,br c⟩
theorem jq{c:Ci}{fs:List (List Nat)}(h:Ok c)(r:Bg c fs):E8 [cD c,cD c,aR c fs]=Pj (.sh,.bl Pm):=by
 let P:=h.bi;let M:=h.bm;let L:=h.bg;let N:=h.bo;let I:=r.len
 let two:∀{Y:Ro} {e:IE} {k:Nat},aa U_34.fn e Y=Pj (.sh,iD k)->aa U_34.fn (.tup .fz (.cons (.tup .fz (.cons (.lit (.int 0)) (.cons e .nil))) (.cons (.tup .fz (.cons (.lit (.int 1)) (.cons e .nil))) .nil))) Y=Pj (.sh,gf k):=λ{Y e k} j=>
  gB (kds:=[(.sh,pD (sp 0 k)),(.sh,pD (sp 1 k))]) (e2 (dB rfl j) (dB rfl j)) ⟨rfl,by simp⟩
 let m:∀{Y:Ro} {e t:IE} {k:Nat},aa U_34.fn e Y=Pj (.sh,iD k)->aa U_34.fn t Y=Pj (.sh,iD k)->aa U_34.fn (.tup .fz (.cons (.tup .fz (.cons (.lit (.int 0)) (.cons e .nil))) (.cons (.tup .fz (.cons (.lit (.int 1)) (.cons t .nil))) .nil))) Y=Pj (.sh,gf k):=λ{Y e t k} j s=>
  gB (kds:=[(.sh,pD (sp 0 k)),(.sh,pD (sp 1 k))]) (e2 (dB rfl j) (dB rfl s)) ⟨rfl,by simp⟩
 unfold E8;show gQ rfl ?_;unfold KM;change Wp (aq _ _ _ [] [fS (cD c),fS (cD c),fS (aR c fs),Pl,Pl,Pl,Pl,Pl,Pl,Pl]) _;let b:∀{Y:Ro} {e:IE} (n:Nat) d,aa U_34.fn e Y=Pj (.sh,cD c)->[iD c.ins,D.lst (c.mems.map dD),.lst (c.gates.map bu),.lst (c.outs.map iD)][n]?=Pj d->aa U_34.fn (.ix e (.lit (.int (n:Int)))) Y=Pj (.sh,d):=λn d j h=>cN (k:=.sh) (k':=.sh) (n:=n) j rfl (.inr rfl) rfl h;show fG (z:=(!Pm)||!Pm) (x:=(.sh,.bl Po)) (vI ((Ix (b 0 _ rfl rfl) (b 0 _ rfl rfl)).trans (by rw[decide_eq_true rfl])) λ_=>jH ((Ix (bP (l:=c.outs) (f:=iD) (k:=.sh) (b 3 _ rfl rfl) (.inl rfl)) (bP (l:=c.outs) (f:=iD) (k:=.sh) (b 3 _ rfl rfl) (.inl rfl))).trans (by rw[decide_eq_true rfl]))) (λe=>by cases e) λ_=>?_;show fG (z:=!Pm) (x:=(.sh,.bl Po)) (fj (vJ (k:=.sh) (bK (B:=Ic) (p:=(.sh,.bl Pm)) (ds:=[cD c,cD c,aR c fs]) rfl (e3 (p:=(.sh,cD c)) (q:=(.sh,cD c)) (u:=(.sh,aR c fs)) rfl rfl rfl) rfl rfl (yU h r) rfl))) (λe=>by cases e) λ_=>?_;show eS (ds:=[c9,.lst (c.mems.zipIdx.map (iL c)),.lst (fs.zipIdx.map (ef c)),.lst (c.outs.map iD)]) rfl ⟨rfl,rfl⟩ ?_;change Wp (aq _ _ _ [] (Cv c fs Pl Pl Pl)) _;show aN (bK (B:=Il) (ds:=[cD c,cD c,c9]) rfl (e3 (p:=(.sh,cD c)) (q:=(.sh,cD c)) (u:=(.sh,c9)) rfl rfl rfl) rfl rfl (vN h) rfl) rfl (by decide) ?_;change Wp (aq _ _ _ [] (Cv c fs (gS c) Pl Pl)) _
 let v:aa U_34.fn (.comp .fz [Pl,Pl] (.nm 1) (.rng (.lit (.int 0)) (.ix (.var 0) (.lit (.int 0)))) .non (.tup .fz (.cons (.tup .fz (.cons (.lit (.int 0)) (.cons (.var 1) .nil))) (.cons (.tup .fz (.cons (.lit (.int 1)) (.cons (.var 1) .nil))) .nil)))) (Cv c fs (gS c) Pl Pl)=Pj (.fr k0,.lst ((MH c.ins).map gf)):=
  IC (k:=.sh) (b 0 _ rfl rfl) (by lia) λi _=>Ck rfl (wv (two rfl) ⟨_,rfl,rfl⟩)
 let w:aa U_34.fn (.comp .fz [Pl,Pl] (.nm 1) (.e (.bin .Add (.var 4) (.var 5))) .non (.sl (.var 1) .non (.som (.lit (.int 2))))) (Cv c fs (gS c) Pl Pl)=Pj (.fr k0,.lst ((Cu c fs).map λq=>gf q.1)):=by
  show rT (l:=Cu c fs) (f:=λq=>gT q.1 q.2) (g:=λq=>gf q.1) (k:=.fr aO) (hd:=.lst) (.inl rfl) ?_ rfl (by unfold Cu;simp;lia) λq O=>Ck rfl (wv (yS (n:=2) (xs:=[pD (sp 0 q.1),pD (sp 1 q.1),.lst (q.2.map iD),.lst (([]:List Nat).map iD)]) rfl (by simp)) ⟨_,rfl,rfl⟩);rw[Bn];show Cf (k:=.sh) (k':=.sh) ⟨rfl,rfl,by simp;lia⟩ rfl rfl
 let H:aa U_34.fn (.bin .Add (.comp .fz [Pl,Pl] (.nm 1) (.rng (.lit (.int 0)) (.ix (.var 0) (.lit (.int 0)))) .non (.tup .fz (.cons (.tup .fz (.cons (.lit (.int 0)) (.cons (.var 1) .nil))) (.cons (.tup .fz (.cons (.lit (.int 1)) (.cons (.var 1) .nil))) .nil)))) (.comp .fz [Pl,Pl] (.nm 1) (.e (.bin .Add (.var 4) (.var 5))) .non (.sl (.var 1) .non (.som (.lit (.int 2)))))) (Cv c fs (gS c) Pl Pl)=Pj (.fr aO,eB c.n):=by
  have:=Cf (k:=.fr k0) (k':=.fr k0) ⟨rfl,rfl,by simp[Cu];lia⟩ v w;rw[Bo I] at this;show this
 show aN H rfl (by decide) ?_;change Wp (aq _ _ _ [] (Cv c fs (gS c) (bJ (eB c.n)) Pl)) _
 let K:aa U_34.fn (.comp .fz [Pl,Pl,Pl] (.tp [(.nm 1),(.nm 2)]) (.zp (.ix (.var 0) (.lit (.int 3))) (.ix (.var 1) (.lit (.int 3)))) .non (.tup .fz (.cons (.tup .fz (.cons (.lit (.int 0)) (.cons (.var 1) .nil))) (.cons (.tup .fz (.cons (.lit (.int 1)) (.cons (.var 2) .nil))) .nil)))) (Cv c fs (gS c) (bJ (eB c.n)) Pl)=Pj (.fr k0,.lst (c.outs.map gf)):=by
  show aH (eM (ym (wv (b 3 _ rfl rfl) (wv (b 3 _ rfl rfl) (wv (y7 c.outs iD) ⟨by simp;lia,?_⟩)))));show(ln (f:=λo=>.tup [iD o,iD o]) (g:=gf) λo y=>ID rfl (wv (m rfl rfl) ⟨_,rfl,rfl⟩)).mono λQ e=>by rw[e]
 show aN K rfl (by decide) ?_;change Wp (aq _ _ _ [] (Cv c fs (gS c) (bJ (eB c.n)) (bJ (.lst (c.outs.map gf))))) _;show cg (x:=(.sh,.bl (Pm&&(Pm&&(Pm&&(Pm&&Pm)))))) (dP (x:=Pm) (iG (dF (rT (k:=.sh) (hd:=.lst) (l:=c.outs) (f:=iD) (g:=gf) (.inl rfl) rfl rfl (by lia) λo y=>Ck rfl (wv (cN (k:=.bo 2 k0) (k':=.sh) (n:=o) (hd:=.lst) (xs:=(MH c.n).map gf) rfl rfl (.inl rfl) rfl (by rw[Mj,M7 (h.o o y)];rfl)) ⟨_,rfl,rfl⟩)) rfl ?_)) λ_=>dP (x:=Pm) (fH (l:=c.mems.zipIdx) (f:=iL c) (k:=.sh) (.inl rfl) rfl rfl (by rw[M4];lia) (λ_=>rfl) λp a=>?_) λ_=>dP (x:=Pm) (fH (l:=c.mems.zipIdx) (f:=iL c) (k:=.sh) (.inl rfl) rfl rfl (by rw[M4];lia) (λ_=>rfl) λp a=>?_) λ_=>dP (x:=Pm) (fH (l:=fs.zipIdx) (f:=ef c) (k:=.sh) (.inl rfl) rfl rfl (by rw[M4];lia) (λ_=>rfl) λp a=>?_) λ_=>jI (fH (l:=c.mems.zipIdx) (f:=iL c) (k:=.sh) (.inl rfl) rfl rfl (by rw[M4];lia) (λ_=>rfl) λp a=>?_)) rfl (iI rfl rfl)
 ·change(if dY 90 (.lst (c.outs.map gf))=Pm/\dY 90 (.lst (c.outs.map gf))=Pm then Pj (ze (.lst (c.outs.map gf)) (.lst (c.outs.map gf))) else Pl)=_
  rw[if_pos ⟨nX _,nX _⟩,pQ (nX _)]
 ·let e:=vM a;let C:=(Mg.mp e).1;show iF (B:=Ie) (p:=(.sh,.bl Pm)) (ds:=[br c,iL c p]) rfl (e2 (p:=(.bo 3 kG,br c)) (q:=(.sh,iL c p)) rfl rfl) rfl rfl (yZ (by lia) (by unfold Ci.f;lia)) rfl
 ·let e:=vM a;show iF (B:=Ig) (p:=(.sh,.bl Pm)) (ds:=[br c,iL c p]) rfl (e2 (p:=(.bo 3 kG,br c)) (q:=(.sh,iL c p)) rfl rfl) rfl rfl (y3 h e) rfl
 ·let e:=vM a;let C:=(Mg.mp e).1;obtain⟨E,F⟩:=r.fit _ _ e;let A:c.gates[p.2]?=Pj (c.gates[p.2]'(by lia)):=Ms (by lia);show iF (B:=Ii) (p:=(.sh,.bl Pm)) (ds:=[br c,eB c.n,ef c p]) rfl (e3 (p:=(.bo 3 kG,br c)) (q:=(.bo 4 k0,eB c.n)) (u:=(.sh,ef c p)) rfl rfl rfl) rfl rfl (Fh h A E F (r.has _ _ _ e A)) rfl
 ·let e:=vM a;show iF (B:=Ij) (p:=(.sh,.bl Pm)) (ds:=[br c,eB c.n,iL c p]) rfl (e3 (p:=(.bo 3 kG,br c)) (q:=(.bo 4 k0,eB c.n)) (u:=(.sh,iL c p)) rfl rfl rfl) rfl rfl (Bm h e) rfl
noncomputable abbrev kS:Ow:=.own [.own [] .fz] .fz
abbrev qf(ds:List Int)(t k:Int):D:=.lst [.lst (ds.map D.int),.int t,.int k]
structure Stt(n:Nat)(d:D):Prop where
 ex:∃(ds:List Int) (t k:Int),d=qf ds t k/\(∀x∈ds,0<=x)/\ds.length<=63/\0<=t/\t<1000000000000000009/\0<=k/\k<=n
theorem Stt.mono{n m:Nat}(h:Stt n d)(j:n<=m):Stt m d:=by
 obtain⟨i,t,k,e,c,g,b,a,f,l⟩:=h.ex;show⟨i,t,k,e,c,g,b,a,f,by lia⟩
abbrev sS(d:D):Option Sl:=Pj ⟨Po,kS,d⟩
section
variable {U:Nat->Option Fn} {Y:Ro} {a b:IE} {k k':Kd} {i j:Int}
theorem iM(h:i.natAbs<lim/\j.natAbs<lim)(c:aa U a Y=Pj (k,.int i))(d:aa U b Y=Pj (k',.int j)):aa U (.bin .Mult a b) Y=Pj (.sh,.int (i*j)):=aH (bc (wv c (wv d (yp h rfl))))
theorem rX(h:0<j/\j.natAbs<lim)(c:aa U a Y=Pj (k,.int i))(d:aa U b Y=Pj (k',.int j)):aa U (.bin .FloorDiv a b) Y=Pj (.sh,.int (i / j)):=aH (bc (wv c (wv d (AZ h rfl))))
theorem bz(i:Int):aa U (.lit (.int i)) Y=Pj (.sh,.int i):=rfl
end
theorem cq{z:Int}(h:z.natAbs<2^64):z.natAbs<lim:=NY h (by unfold lim;decide)
theorem jr(z m:Int)(a:0<m):0<=z%m/\z%m<m:=⟨Int.emod_nonneg z (by lia),O4 z a⟩
theorem y8(t k:Int)(a:0<=k)(h1:k<=100000):∃z:Int,FU [.int t,.int k]=Pj (.sh,.int z):=by
 suffices h:Wp (FU [.int t,.int k]) λr=>∃z:Int,r=(.sh,.int z) by
  obtain⟨r,e,z,rfl⟩:=h;show⟨z,e⟩
 unfold FU;show nN rfl ?_;unfold K1;let n:k*k<=100000*100000:=Int.mul_le_mul h1 h1 a (by decide);let f:0<=k*k:=Int.mul_nonneg a a;let p:2*k*k=2*(k*k):=Int.mul_assoc 2 k k;obtain⟨m,j⟩:=jr t 2147483647 (by decide);change Wp (aq _ _ _ [] [fS (.int t),fS (.int k),Pl]) _;show aN (iC (by decide) (bx (bx (iM ⟨cq (by lia),cq (by lia)⟩ (iC (by decide) rfl (bz 2147483647)) (bx (bz 48271) (iM ⟨cq (by lia),cq (by lia)⟩ (iM ⟨by decide,cq (by lia)⟩ (bz 2) rfl) rfl))) (iM ⟨by decide,cq (by lia)⟩ (bz 7919) rfl)) (bz 12345)) (bz 2147483629)) rfl (by decide) ?_;obtain⟨b0,b1⟩:=jr (t%2147483647*(48271+2*k*k)+7919*k+12345) 2147483629 (by decide);generalize (t%2147483647*(48271+2*k*k)+7919*k+12345)%2147483629=y at b0 b1⊢;change Wp (aq _ _ _ [] [fS (.int t),fS (.int k),fS (.int y)]) _;show aN (rX ⟨by decide,by decide⟩ (iC (by decide) (iM ⟨cq (by lia),cq (by lia)⟩ rfl rfl) (bz 2147483587)) (bz 3)) rfl (by decide) ?_;obtain⟨d,o⟩:=jr (y*y) 2147483587 (by decide);let b:0<=y*y%2147483587 / 3:=Int.ediv_nonneg d (by decide);let c:y*y%2147483587 / 3<2147483587:=by lia
 generalize y*y%2147483587 / 3=x at b c⊢;change Wp (aq _ _ _ [] [fS (.int t),fS (.int k),fS (.int x)]) _;obtain⟨i,g⟩:=jr (x*69621+16807*k+1) 2147483579 (by decide);obtain⟨l,q⟩:=jr x 65521 (by decide);show cg (rX ⟨by decide,by decide⟩ (iC (by decide) (iM ⟨cq (by lia),cq (by lia)⟩ (iC (by decide) (bx (bx (iM ⟨cq (by lia),by decide⟩ rfl (bz 69621)) (iM ⟨by decide,cq (by lia)⟩ (bz 16807) rfl)) (bz 1)) (bz 2147483579)) (bx (iC (by decide) rfl (bz 65521)) (bz 1))) (bz 2147483563)) (bz 5)) rfl (ee rfl ⟨_,rfl⟩)
theorem Bp{Q:Kd×D×Ro->Prop}(q:Q (.sh,.int x,sS (qf ds t k)::Y')):Wp (aQ U (.mut "pop" (.ix (.nm 0) (.lit (.int 0))) (.cons (.lit (.int 0)) .nil)) (sS (qf (x::ds) t k)::Y')) Q:=by
 show⟨_,?_,q⟩;rw[iy,aP,aP,sR];change fx "pop" 0 (pj U.fn (.ix (.nm 0) (.lit (.int 0))) (sS (qf (x::ds) t k)::Y')) (Pj [(.sh,.int 0)]) (sS (qf (x::ds) t k)::Y')=_;let a:pj U.fn (.ix (.nm 0) (.lit (.int 0))) (sS (qf (x::ds) t k)::Y')=Pj (k0,.lst ((x::ds).map D.int),λz=>.lst [z,.int t,.int k]):=rfl;rw[a];let b:seqIndex? 0 (D.int x::ds.map D.int).length=Pj 0:=by unfold seqIndex?;simp
 have:k4 "pop" [] .fz (.int x::ds.map D.int) [(.sh,.int 0)]=Pj (.int x,ds.map D.int):=by
  change(if eY (.own [] .fz)=Pm/\-(2^63)<=(0:Int)/\(0:Int)<2^63 then(match seqIndex? 0 (D.int x::ds.map D.int).length with|some j=>((D.int x::ds.map D.int)[j]?).map λy=>(y,(D.int x::ds.map D.int).eraseIdx j)|none=>Pl) else Pl)=_
  rw[if_pos ⟨rfl,by decide,by decide⟩,b];rfl
 unfold fx;dsimp only;rw[show k4 "pop" [] .fz ((x::ds).map D.int) [(.sh,.int 0)]=Pj (.int x,ds.map D.int) from this];rfl
theorem Bq{n:Nat}{d:D}{m:Nat}{Q:Kd×D×List (Option kU)->Prop}(h:Stt n d)(O:n<=1000)(S:0<m)(w:m<2^64)(q:∀(r:Nat) d',r<m->Stt (n+1) d'->Q (.sh,iD r,[Pj (kS,d'),Pl])):Wp (Io [(kS,d),(.fz,iD m)]) Q:=by
 let M:((m:Nat):Int).natAbs<lim:=by
  rw[O3];show NY w (by unfold lim;decide)
 let H:∀z:Int,∃r:Nat,z%(m:Int)=(r:Int)/\r<m:=λz=>by
  let T:=Int.emod_nonneg z (show(m:Int)≠0 by lia);let P:=O4 z (show(0:Int)<(m:Int) by lia);show⟨(z%(m:Int)).toNat,by lia,by lia⟩
 obtain⟨ds,t,k,rfl,f,p,I,F,E,R⟩:=h.ex;unfold Io;show A0 rfl ?_;unfold HZ;change Wp (aq _ _ _ [0] [sS (qf ds t k),fS (iD m),Pl]) _;show Cn (λj Y=>∃ds:List Int,ds.length=j/\(∀x∈ds,0<=x)/\ds.length<=63/\Y=[sS (qf ds t k),fS (iD m),Pl]) (m0:=ds.length) (by lia) ⟨ds,rfl,f,p,rfl⟩ λj Y K=>?_;obtain⟨ds,rfl,f,p,rfl⟩:=K;let l:∀{ds:List Int} {x2:Option Sl},aa U_22.fn (.ix (.var 0) (.lit (.int 0))) [sS (qf ds t k),fS (iD m),x2]=Pj (.bo 0 k0,.lst (ds.map D.int)):=λ{ds x2}=>cN (k:=.bo 0 kS) (k':=.sh) (n:=0) (hd:=.lst) (xs:=[.lst (ds.map D.int),.int t,.int k]) rfl rfl (.inl rfl) rfl rfl
 let a:∀{ds:List Int} {x2:Option Sl},aE U_22.fn (.cmp .Gt (.blt "len" (.cons (.ix (.var 0) (.lit (.int 0))) .nil)) (.lit (.int 0))) [sS (qf ds t k),fS (iD m),x2]=Pj (decide (0<ds.length)):=λ{ds x2}=>by
  rw[A9 (k:=.sh) (k':=.sh) (mw (n:=ds.length) l (congrArg Pj (Mh _))) (bz 0)];congr 1;show decide_eq_decide.mpr (by lia)
 let b:∀{x:Int} {ds:List Int} {x2:Option Sl},aa U_22.fn (.ix (.ix (.var 0) (.lit (.int 0))) (.lit (.int 0))) [sS (qf (x::ds) t k),fS (iD m),x2]=Pj (.sh,.int x):=λ{x ds x2}=>cN (k:=.bo 0 k0) (k':=.sh) (n:=0) (hd:=.lst) (xs:=(x::ds).map D.int) l rfl (.inl rfl) rfl rfl
 -- behind the loop
 let c:(ds=[]\/∃x r,ds=x::r/\x≠0)->Wp (aq U_22 1000 (bq HZ 1) [0] [sS (qf ds t k),fS (iD m),Pl]) λr=>Wp (gy 2 [0] (Pj r)) Q:=λL=>by
  unfold HZ bq bq;rcases L with rfl|⟨x,ds,rfl,s⟩
  ·show iH (z:=Po) a (λe=>by cases e) λ_=>gz ?_;show mn (ci (wv (bx (k:=.sh) (k':=.sh) (i:=k) (j:=1) (cN (k:=.bo 0 kS) (k':=.sh) (n:=2) (hd:=.lst) (xs:=[.lst (([]:List Int).map D.int),.int t,.int k]) rfl rfl (.inl rfl) rfl rfl) rfl) (vo rfl (bb (jl rfl rfl rfl (jm (r:=(.lst,[.lst (([]:List Int).map D.int),.int t,.int (k+1)])) rfl ?_))))));obtain⟨z,N⟩:=y8 t (k+1) (by lia) (by lia);obtain⟨r,e,u⟩:=H z;change Wp (aq _ _ _ [0] [sS (qf [] t (k+1)),fS (iD m),Pl]) _;show cg (iC (by lia) (bK (B:=FU) (ds:=[.int t,.int (k+1)]) rfl (e2 (cN (k:=.bo 0 kS) (k':=.sh) (n:=1) (hd:=.lst) (xs:=[.lst (([]:List Int).map D.int),.int t,.int (k+1)]) rfl rfl (.inl rfl) rfl rfl) (cN (k:=.bo 0 kS) (k':=.sh) (n:=2) (hd:=.lst) (xs:=[.lst (([]:List Int).map D.int),.int t,.int (k+1)]) rfl rfl (.inl rfl) rfl rfl)) rfl rfl N rfl) rfl) rfl (pP rfl ?_);change Q (.sh,.int (z%(m:Int)),_);rw[e]
   show q r _ u ⟨[],t,k+1,rfl,λx f=>(nomatch f),by simp,I,F,by lia,by lia⟩
  ·show iH (z:=Pm) (a.trans (by rw[decide_eq_true (by simp)])) (λ_=>?_) λe=>by cases e
   obtain⟨r,e,u⟩:=H x;let A:=f x MD;let v:∀y∈ds,0<=y:=λy g=>f y (Mt _ g);let C:0<=x / (m:Int):=Int.ediv_nonneg A (by lia);let o:=iC (U:=U_22.fn) (k:=.sh) (k':=.sh) (j:=(m:Int)) (by lia) (b (x:=x) (ds:=ds) (x2:=Pl)) (show aa U_22.fn (.var 1) [sS (qf (x::ds) t k),fS (iD m),Pl]=Pj (.sh,.int m) from rfl);rw[e] at o;show aN o rfl (by decide) ?_;change Wp (aq _ _ _ [0] [sS (qf (x::ds) t k),fS (iD m),fS (iD r)]) _;show mn (ci (wv (rX (k:=.sh) (k':=.sh) (i:=x) (j:=(m:Int)) ⟨by lia,M⟩ b rfl) (vo rfl (bb (jl rfl rfl rfl (jm (r:=(.lst,.int (x / (m:Int))::ds.map D.int)) ?_ ?_))))))
   ·change(match jx ((x::ds).map D.int).length 0 with|some j=>if bM .fz (.sh,.int (x / (m:Int)))=Pm then Pj (Hd.lst,((x::ds).map D.int).set j (.int (x / (m:Int)))) else Pl|none=>Pl)=_
    rw[t8 (by decide) (by simp)];rfl
   ·change Wp (aq _ _ _ [0] [sS (qf (x / (m:Int)::ds) t k),fS (iD m),fS (iD r)]) _;show cg (x:=(.sh,iD r)) rfl rfl (ub (pP rfl (q r _ u ⟨x / (m:Int)::ds,t,k,rfl,λy g=>?_,p,I,F,E,by lia⟩)));rcases Mn.mp g with rfl|g
    ·show C
    ·show v y g
 rcases ds with _|⟨x,ds⟩
 ·show mj (wv (pZ (x:=Po) (y:=Pm) a λe=>by cases e) ⟨λ_=>c (.inl rfl),λe=>by cases e⟩)
 ·by_cases s:x=0
  ·show mj (wv (pZ (x:=Pm) (y:=Pm) (a.trans (by rw[decide_eq_true (by simp)])) λ_=>jH ((rS b (bz 0)).trans (by rw[decide_eq_true s]))) ⟨λe=>(by cases e),λ_=>?_⟩);show uc (Bp (ba (.inl ⟨_,ds.length,.inl rfl,by simp,ds,rfl,λy g=>f y (Mt _ g),by simp at p;lia,rfl⟩)))
  ·show mj (wv (pZ (x:=Pm) (y:=Po) (a.trans (by rw[decide_eq_true (by simp)])) λ_=>jH ((rS b (bz 0)).trans (by rw[decide_eq_false s]))) ⟨λ_=>c (.inr ⟨x,ds,rfl,s⟩),λe=>by cases e⟩)
theorem lu{U:GG}{Y:Ro}{i m n:Nat}{Q:Kd×D×Ro->Prop}(o:U.fm 23=Pj Io)(b:Y[i]?=Pj (sS d))(h:Stt n d)(g:n<=1000)(l:aa U.fn e Y=Pj (.sh,iD m))(j:0<m)(a:m<2^64)(q:∀(r:Nat) d',r<m->Stt (n+1) d'->Q (.sh,iD r,Y.set i (sS d'))):Wp (aQ U (.io 23 (.ref i (.val (.p e) .nil))) Y) Q:=by
 show yr o (nK b (fD (ci (wv l ?_))));show⟨rfl,nJ ⟨by simp[cK],[(kS,d),(.fz,iD m)],?_,Bq h g j a λr d' c f=>⟨rfl,rfl,q r d' c f⟩⟩⟩
 change(match Y[i]?,Pj [((.fz:Ow),iD m)] with|some (Pj ⟨Po,k,d⟩),Pj ks=>Pj ((k,d)::ks)|_,_=>Pl)=_
 rw[b]
theorem Cw{f:D->Option (Option KD)}(P:D->Prop):∀{ds:List D},(∀d∈ds,Wp (f d) λo=>o=Pl\/∃a,o=Pj a/\bM r a=Pm/\P a.2)->Wp (aU r f ds) λys=>ys.length<=ds.length/\∀y∈ys,P y
 |[],_=>⟨[],rfl,Mi _,λy b=>by simp at b⟩
 |d::ds,h=>by
  obtain⟨ys,e1,k,c⟩:=Cw P (ds:=ds) λx g=>h x (Mt _ g);obtain⟨o,e2,e⟩:=h d MD;rcases e with rfl|⟨a,rfl,i,j⟩
  ·show⟨ys,by simp[aU,e1,e2],by simp;lia,c⟩
  ·show⟨a.2::ys,by simp[aU,e1,e2,i],by simp;lia,λy b=>?_⟩;rcases Mn.mp b with rfl|b
   ·show j
   ·show c y b
theorem Fl{ft:Ro->Option Bool}{a:Ro->Option KD}{Q:Option KD->Prop}(h1:nZ tg d=Pj ps)(h2:bY ps Y0=Pm)(h:Wp (ft (setAll ps Y0)) λb=>(b=Pm->Wp (a (setAll ps Y0)) λx=>Q (Pj x))/\(b=Po->Q Pl)):Wp (dR tg ft a Y0 d) Q:=by
 obtain⟨b,c,f,e⟩:=h
 cases b with
 |true=>show pO h1 h2 c (f rfl)
 |false=>show⟨Pl,by unfold dR;rw[h1];dsimp only;rw[if_pos h2,c],e rfl⟩
theorem y9{Q:KD->Prop}{i:Int}(q:Q (.sh,.int (if i<0 then -i else i))):Wp (eI "abs" [(k,.int i)]) Q:=⟨_,rfl,q⟩
theorem uA:∀{ys:List D},(∀y∈ys,∃z:Int,y=.int z/\0<=z)->∃zs:List Int,ys=zs.map D.int/\∀z∈zs,0<=z
 |[],_=>⟨[],rfl,λz a=>by simp at a⟩
 |y::ys,h=>by
  obtain⟨zs,rfl,a⟩:=uA (ys:=ys) λx b=>h x (Mt _ b);obtain⟨z,rfl,c⟩:=h y MD;show⟨z::zs,rfl,λx b=>(Mn.mp b).elim (λe=>e▸c) (a x)⟩
theorem uB:aa U (.bin .Pow (.lit (.int 10)) (.lit (.int 18))) Y=Pj (.sh,.int 1000000000000000000):=aH (bc (bb (bb (yq (by decide) rfl))))
theorem za{ns:List Int}(n:ns.length<=63){Q:KD->Prop}(q:∀d,Stt 0 d->Q (.fr kS,d)):Wp (Im [.scr ns]) Q:=by
 unfold Im;show nN rfl ?_;unfold K2;change Wp (aq _ _ _ [] [fS (.scr ns),Pl,Pl]) _;show aN (bz 0) rfl (by decide) ?_;show eR (cQ (ji (aL rfl (yw ⟨λs Y=>∃(t:Int) (c:Option Sl),Y=[fS (.scr ns),fS (.int t),c]/\0<=t/\t<1000000000000000009,⟨0,Pl,rfl,by decide,by decide⟩,λs d Y a b=>?_,λY b=>?_⟩))))
 ·obtain⟨t,c,rfl,f,h⟩:=b;let a:(ns.map D.int)[s]?=Pj d:=a;rw[Mj] at a
  cases e:ns[s]? with
  |none=>rw[e] at a;cases a
  |some z=>
   rw[e] at a;cases a;show⟨[(2,.int z)],rfl,rfl,?_⟩;change Wp (aq _ _ _ [] [fS (.scr ns),fS (.int t),fS (.int z)]) _;obtain⟨m,l⟩:=jr (t*31+z) 1000000000000000009 (by decide);show aN (iC (j:=1000000000000000009) (by decide) (bx (iM ⟨cq (by lia),by decide⟩ rfl (bz 31)) rfl) (bx uB (bz 9))) rfl (by decide) (ba ⟨_,.inl rfl,_,_,rfl,m,l⟩)
 ·obtain⟨t,c,rfl,f,h⟩:=b;show dA (ci (rG (aD (eM (ji (aL rfl (yw ⟨by rw[Mh];lia,(Cw (λy=>∃z:Int,y=.int z/\0<=z) λd a=>?_).mono λo g=>?_⟩)))))))
  ·obtain⟨z,_,rfl⟩:=Na.mp a;show Fl (ps:=[(1,.int z)]) rfl rfl (rJ (dU (aD (aL rfl (bt (y9 (wv uB (B4 ⟨λ_=>dU (aD (aL rfl (bt (y9 (.inr ⟨_,rfl,rfl,_,rfl,?_⟩))))),λ_=>.inl rfl⟩))))))))
   split<;>lia
  ·obtain⟨k,rfl,i⟩:=uA g.2;rw[Mh,Mh] at g;show aD (aL rfl (aD (bb (bt (rM rfl ⟨rfl,ee rfl (q _ ⟨k,t,0,rfl,i,by lia,f,h,by decide,by decide⟩)⟩)))))
theorem Ln:∀n,n<=3->[iD 2,iD 4,iD 16,iD 256][n]?=Pj (iD (2^2^n))/\2^2^n<=256
 |0,_=>⟨rfl,by decide⟩
 |1,_=>⟨rfl,by decide⟩
 |2,_=>⟨rfl,by decide⟩
 |3,_=>⟨rfl,by decide⟩
 |n+4,h=>by lia
theorem gC(m:Nat):(dQ 0 (m:Int)).length=m:=by rw[nP,Mh,N3]
theorem qc{n m f k:Nat}{d:D}{s2 t s6:Option Sl}{Q:Kd×D×Ro->Prop}(h:Stt n d)(A:n+3<=1000)(B:m<=3)(w:0<m->0<f+k)(y:f+k<=1000)(q:∀(ps:List Nat) d',ps.length=m->(∀p∈ps,p<f+k)->Stt (n+m) d'->Q (.fr k0,.lst (ps.map iD),[sS d',fS (iD f),s2,t,fS (iD k),fS (iD m),s6])) :
  Wp (aQ U_23 (.comp .fz [Pl,Pl,Pl,Pj 1,Pj 4,Pj 0] (.nm 1) (.p (.rng (.lit (.int 0)) (.var 5))) .non (.io 23 (.ref 5 (.val (.p (.bin .Add (.var 3) (.var 4))) .nil)))) [sS d,fS (iD f),s2,t,fS (iD k),fS (iD m),s6]) Q:=by
 show nI (cQ (jk (bb (aL rfl (li (dw (by lia) (by lia) (by lia) (by lia) (by lia)) ⟨rfl,?_,?_⟩)))))
 ·change(dQ 0 (m:Int)).length<=_;rw[gC];lia
 show yx (λi l Y=>∃(ps:List Nat) (d:D),l=ps.map iD/\ps.length=i/\i<=m/\(∀p∈ps,p<f+k)/\Stt (n+i) d/\Y=[Pl,Pl,Pl,fS (iD f),fS (iD k),sS d]) ⟨[],d,rfl,rfl,ML _,λp b=>(nomatch b),h,rfl⟩ (λi x l Y e g=>?_) λl Y g=>?_
 ·obtain⟨ps,d,rfl,c,j,b,a,rfl⟩:=g;obtain⟨rfl,u⟩:=iB e;show rL rfl ⟨rfl,rfl⟩ rfl ?_;show lu (m:=f+k) rfl rfl a (by lia) ((bx rfl rfl).trans rfl) (w (by lia)) (by lia) λr d' v o=>⟨_,rfl,rfl,ps++[r],d',by rw[MS];rfl,by simp;lia,by lia,λp s=>(MQ.mp s).elim (b p) λz=>by rw[MN.mp z];show v,o,rfl⟩
 ·obtain⟨ps,d,rfl,c,j,b,a,rfl⟩:=g;let c:ps.length=(dQ 0 (m:Int)).length:=c;rw[gC] at c;let a:Stt (n+(dQ 0 (m:Int)).length) d:=a;rw[gC] at a;show⟨rfl,q ps d c b a⟩
def Fo(f:Nat)(q:List (Nat×List Nat)):Prop:=∀(k:Nat) g,q[k]?=Pj g->g.2.length<=3/\∀p∈g.2,p<f+k
theorem zb{n f a:Nat}{d:D}{Q:Kd×D×List (Option kU)->Prop}(h:Stt n d)(N:n+5*a+5<=900)(R:f<=100)(S:a<=50)(q:∀b d',b.length=a->Fo f b->Stt (n+5*a) d'->Q (.fr k0,.lst (b.map bu),[Pj (kS,d'),Pl,Pl])):Wp (Ip [(kS,d),(.fz,iD f),(.fz,iD a)]) Q:=by
 unfold Ip;show A0 rfl ?_;unfold FN;change Wp (aq _ _ _ [0] [sS d,fS (iD f),fS (iD a),Pl,Pl,Pl,Pl]) _;show aN (x:=(.fr k0,.lst [])) rfl rfl (by decide) ?_;change Wp (aq _ _ _ [0] [sS d,fS (iD f),fS (iD a),bJ (.lst []),Pl,Pl,Pl]) _;show eR (cQ (jk (bb (aL rfl (li (dw (by lia) (by lia) (by lia) (by lia) (by lia)) ⟨λs Y=>∃(d:D) (b:List (Nat×List Nat)) (t o u:Option Sl),Y=[sS d,fS (iD f),fS (iD a),bJ (.lst (b.map bu)),t,o,u]/\Stt (n+5*s) d/\b.length=s/\s<=a/\Fo f b,⟨d,[],Pl,Pl,Pl,rfl,h,rfl,ML _,λk g e=>by simp at e⟩,λs x Y hd v=>?_,λY v=>?_⟩)))))
 ·obtain⟨d,b,t,o,u,rfl,j,l,M,E⟩:=v;obtain⟨rfl,P⟩:=iB hd;rw[Int.zero_add];show⟨[(4,iD s)],rfl,rfl,?_⟩;change Wp (aq _ _ _ [0] [sS d,fS (iD f),fS (iD a),bJ (.lst (b.map bu)),fS (iD s),Pl,Pl]) _
  let c:∀(m:Nat) (d:D),m<=3->(0<m->0<f+s)->Stt (n+5*s+1) d->Wp (aq U_23 1000 (match FN with|.cons _ (.cons (.fo _ _ _ (.cons _ (.cons _ r))) _)=>r|r=>r) [0] [sS d,fS (iD f),fS (iD a),bJ (.lst (b.map bu)),fS (iD s),fS (iD m),Pl]) λr=>∃F,(r=.nx F\/r=.ct F)/\∃(d:D) (b:List (Nat×List Nat)) (t o u:Option Sl),F=[sS d,fS (iD f),fS (iD a),bJ (.lst (b.map bu)),t,o,u]/\Stt (n+5*(s+1)) d/\b.length=s+1/\s+1<=a/\Fo f b:=by
   intro m d p y j;unfold FN;obtain⟨K,O⟩:=Ln m p;show dO (lu (m:=2^2^m) rfl rfl j (by lia) (cN (k:=.fr k0) (k':=.sh) (n:=m) (hd:=.lst) (xs:=[iD 2,iD 4,iD 16,iD 256]) rfl rfl (.inl rfl) rfl K) (OJ _) (by lia) λr d' I i=>⟨⟨rfl,by decide⟩,?_⟩);change Wp (aq _ _ _ [0] [sS d',fS (iD f),fS (iD a),bJ (.lst (b.map bu)),fS (iD s),fS (iD m),fS (iD r)]) _;show uc (ES rfl (eN (bN (ci (wv (r:=(.sh,iD r)) rfl ⟨rfl,dv (yu (dv (qc i (by lia) p y (by lia) λC H L A B=>bt (pM rfl (bt (dX rfl ⟨[],.fz,_,rfl,⟨ML _,rfl,by rw[Mh];lia⟩,ba ⟨_,.inl rfl,H,b++[(r,C)],fS (iD s),fS (iD m),fS (iD r),?_,B.mono (by lia),by simp;lia,by lia,λk g e=>?_⟩⟩))))))⟩)))))
   ·change [sS H,fS (iD f),fS (iD a),bJ (.lst (b.map bu++[bu (r,C)])),fS (iD s),fS (iD m),fS (iD r)]=_;rw[MS];rfl
   ·by_cases hk:k<b.length
    ·rw[My hk] at e;show E k g e
    ·let w:k=s:=by
      have:=(Mg.mp e).1;simp at this
      lia
     subst w;rw[MM (by lia),l,OC] at e;cases e;show⟨by change C.length<=3;lia,A⟩
  unfold FN at c;show dO (lu (m:=4) rfl rfl j (by lia) rfl (by decide) (by decide) λr d' I i=>⟨⟨rfl,by decide⟩,?_⟩);change Wp (aq _ _ _ [0] [sS d',fS (iD f),fS (iD a),bJ (.lst (b.map bu)),fS (iD s),fS (iD r),Pl]) _;show iH (z:=decide (((f:Int)+(s:Int))=0)) (rS (bx rfl rfl) (bz 0)) (λe=>?_) λe=>gz (c r d' (by lia) (λ_=>?_) i)
  ·show aN (bz 0) rfl (by decide) (gz (c 0 d' (by decide) (λh=>absurd h (by decide)) i))
  ·have:=of_decide_eq_false e
   lia
 ·obtain⟨d,b,t,o,u,rfl,j,l,M,E⟩:=v;let l:b.length=(dQ 0 (a:Int)).length:=l;let j:Stt (n+5*(dQ 0 (a:Int)).length) d:=j;rw[gC] at l j;show dA (dM rfl ⟨rfl,pP rfl (q b d l E j)⟩)
theorem Fp{r:Nat}(h:r<2):∃b:Bool,bD b=iD r:=by
 match r,h with
 |0,_=>show⟨Po,rfl⟩
 |1,_=>show⟨Pm,rfl⟩
theorem vQ{n m t:Nat}{d:D}{s1 A s4 s5 s6 s8 s9:Option Sl}{Q:Kd×D×Ro->Prop}(h:Stt n d)(I:n+2*m+5<=1000)(K:m<=50)(E:0<m->0<t)(F:t<=1000)(q:∀(a:List (Bool×Nat)) d',a.length=m->(∀p∈a,p.2<t)->Stt (n+2*m) d'->Q (.fr k0,.lst (a.map dD),[sS d',s1,fS (iD m),A,s4,s5,s6,fS (iD t),s8,s9])) :
  Wp (aQ U_24 (.comp .fz [Pl,Pl,Pl,Pj 0,Pj 7] (.nm 1) (.p (.rng (.lit (.int 0)) (.var 2))) .non (.tup .fz (.cons (.io 23 (.ref 3 (.val (.p (.lit (.int 2))) .nil))) (.fin (.io 23 (.ref 3 (.val (.p (.var 4)) .nil))) .nil)))) [sS d,s1,fS (iD m),A,s4,s5,s6,fS (iD t),s8,s9]) Q:=by
 show nI (cQ (jk (bb (aL rfl (li (dw (by lia) (by lia) (by lia) (by lia) (by lia)) ⟨rfl,?_,?_⟩)))))
 ·change(dQ 0 (m:Int)).length<=_;rw[gC];lia
 show yx (λi u Y=>∃(a:List (Bool×Nat)) (d:D),u=a.map dD/\a.length=i/\i<=m/\(∀p∈a,p.2<t)/\Stt (n+2*i) d/\Y=[Pl,Pl,Pl,sS d,fS (iD t)]) ⟨[],d,rfl,rfl,ML _,λp f=>(nomatch f),h,rfl⟩ (λi x u Y e j=>?_) λu Y j=>?_
 ·obtain⟨a,d,rfl,g,s,f,c,rfl⟩:=j;obtain⟨rfl,B⟩:=iB e;show rL rfl ⟨rfl,rfl⟩ rfl ?_;show eN (bN (lu (m:=2) rfl rfl c (by lia) rfl (by decide) (by decide) λr d' C v=>⟨rfl,dv (lu (m:=t) rfl rfl v (by lia) rfl (E (by lia)) (by lia) λo H w l=>bt (dX rfl ?_))⟩));obtain⟨b,k⟩:=Fp C;show⟨_,rfl,rfl,a++[(b,o)],H,?_,by simp;lia,by lia,λp y=>(MQ.mp y).elim (f p) λz=>by rw[MN.mp z];show w,l.mono (by lia),rfl⟩;rw[MS];change a.map dD++[.tup [iD r,iD o]]=a.map dD++[.tup [bD b,iD o]];rw[k]
 ·obtain⟨a,d,rfl,g,s,f,c,rfl⟩:=j;let g:a.length=(dQ 0 (m:Int)).length:=g;rw[gC] at g;let c:Stt (n+2*(dQ 0 (m:Int)).length) d:=c;rw[gC] at c;show⟨rfl,q a d g f c⟩
theorem vR{n m t:Nat}{d:D}{s1 s2 s s5 s6 s8 s9:Option Sl}{Q:Kd×D×Ro->Prop}(h:Stt n d)(A:n+m+5<=1000)(B:m<=50)(w:0<t)(y:t<=1000)(q:∀(a:List Nat) d',a.length=m->(∀p∈a,p<t)->Stt (n+m) d'->Q (.fr k0,.lst (a.map iD),[sS d',s1,s2,s,fS (iD m),s5,s6,fS (iD t),s8,s9])) :
  Wp (aQ U_24 (.comp .fz [Pl,Pl,Pl,Pj 0,Pj 7] (.nm 1) (.p (.rng (.lit (.int 0)) (.var 4))) .non (.io 23 (.ref 3 (.val (.p (.var 4)) .nil)))) [sS d,s1,s2,s,fS (iD m),s5,s6,fS (iD t),s8,s9]) Q:=by
 show nI (cQ (jk (bb (aL rfl (li (dw (by lia) (by lia) (by lia) (by lia) (by lia)) ⟨rfl,?_,?_⟩)))))
 ·change(dQ 0 (m:Int)).length<=_;rw[gC];lia
 show yx (λi k Y=>∃(a:List Nat) (d:D),k=a.map iD/\a.length=i/\i<=m/\(∀p∈a,p<t)/\Stt (n+i) d/\Y=[Pl,Pl,Pl,sS d,fS (iD t)]) ⟨[],d,rfl,rfl,ML _,λp c=>(nomatch c),h,rfl⟩ (λi x k Y e g=>?_) λk Y g=>?_
 ·obtain⟨a,d,rfl,f,j,c,b,rfl⟩:=g;obtain⟨rfl,u⟩:=iB e;show rL rfl ⟨rfl,rfl⟩ rfl ?_;show lu (m:=t) rfl rfl b (by lia) rfl w (by lia) λr d' v l=>⟨_,rfl,rfl,a++[r],d',by rw[MS];rfl,by simp;lia,by lia,λp o=>(MQ.mp o).elim (c p) λz=>by rw[MN.mp z];show v,l,rfl⟩
 ·obtain⟨a,d,rfl,f,j,c,b,rfl⟩:=g;let f:a.length=(dQ 0 (m:Int)).length:=f;rw[gC] at f;let b:Stt (n+(dQ 0 (m:Int)).length) d:=b;rw[gC] at b;show⟨rfl,q a d f c b⟩
theorem rY{n a l outs:Nat}{Q:Kd×D×List (Option kU)->Prop}(h:Stt n d)(V:n<=100)(h1:a<=10)(h2:l<=10)(W:outs<=10)(q:∀c d',Ok c->Q (.sh,cD c,[Pj (kS,d'),Pl,Pl,Pl,Pl])):Wp (Iq [(kS,d),(.fz,iD a),(.fz,iD l),(.fz,iD 20),(.fz,iD outs)]) Q:=by
 unfold Iq;show A0 rfl ?_;unfold K3;change Wp (aq _ _ _ [0] [sS d,fS (iD a),fS (iD l),fS (iD 20),fS (iD outs),Pl,Pl,Pl,Pl,Pl]) _;show dO (lu (m:=21) rfl rfl h (by lia) (bx (i:=20) (j:=1) rfl rfl) (by decide) (by decide) λb N X K=>⟨⟨rfl,by decide⟩,?_⟩);change Wp (aq _ _ _ [0] [sS N,fS (iD a),fS (iD l),fS (iD 20),fS (iD outs),fS (iD b),Pl,Pl,Pl,Pl]) _;show dO (yr (B:=Ip) rfl (nK rfl (fD (ci (wv (bx (i:=(a:Int)) (j:=(l:Int)) rfl rfl) ⟨rfl,fD (ci (wv (r:=(.sh,iD b)) rfl ⟨rfl,nJ ⟨by simp[cK],[(kS,N),(.fz,iD (a+l)),(.fz,iD b)],rfl,zb K (by lia) (by lia) (by lia) λt O C L E=>⟨rfl,rfl,⟨rfl,by decide⟩,?_⟩⟩⟩))⟩)))));change Wp (aq _ _ _ [0] [sS O,fS (iD a),fS (iD l),fS (iD 20),fS (iD outs),fS (iD b),bJ (.lst (t.map bu)),Pl,Pl,Pl]) _;show aN (x:=(.sh,iD (a+l+b))) (bx (i:=((a+l:Nat):Int)) (j:=(b:Int)) (bx (i:=(a:Int)) (j:=(l:Int)) rfl rfl) rfl) rfl (by decide) ?_;change Wp (aq _ _ _ [0] [sS O,fS (iD a),fS (iD l),fS (iD 20),fS (iD outs),fS (iD b),bJ (.lst (t.map bu)),fS (iD (a+l+b)),Pl,Pl]) _;show dO (vQ E (by lia) (by lia) (λz=>by lia) (by lia) λv M A H F=>⟨⟨rfl,by decide⟩,?_⟩);change Wp (aq _ _ _ [0] [sS M,fS (iD a),fS (iD l),fS (iD 20),fS (iD outs),fS (iD b),bJ (.lst (t.map bu)),fS (iD (a+l+b)),bJ (.lst (v.map dD)),Pl]) _;show aN (x:=(.fr k0,.lst [])) rfl rfl (by decide) ?_;change Wp (aq _ _ _ [0] [sS M,fS (iD a),fS (iD l),fS (iD 20),fS (iD outs),fS (iD b),bJ (.lst (t.map bu)),fS (iD (a+l+b)),bJ (.lst (v.map dD)),bJ (.lst [])]) _
 let S:∀s:List Nat,s.length<=10->(∀p∈s,p<a+l+b)->Ok ⟨a,v,t,s⟩:=λs w u=>by
  show⟨λk g e=>?_,λm I=>?_,λo U=>?_,by change a<=10;lia,by change v.length<=10;lia,by change t.length<=20;lia,w⟩
  ·have:=L k g e;unfold Ci.f;change g.2.length<=3/\∀p∈g.2,p<a+v.length+k;rw[A];show this
  ·change m.2<a+v.length+t.length;rw[A,C];show H m I
  ·change o<a+v.length+t.length;rw[A,C];show u o U
 let y:∀(s:List Nat) (d:D),s.length<=10->(∀p∈s,p<a+l+b)->Wp (aq U_24 1000 (.cons (.ret (.tup .fz (.cons (.p (.var 1)) (.cons (.mv 8) (.cons (.mv 6) (.fin (.mv 9) .nil)))))) .nil) [0] [sS d,fS (iD a),fS (iD l),fS (iD 20),fS (iD outs),fS (iD b),bJ (.lst (t.map bu)),fS (iD (a+l+b)),bJ (.lst (v.map dD)),bJ (.lst (s.map iD))]) λr=>Wp (gy 5 [0] (Pj r)) Q:=λs d w u=>
  dA (eN (bN (ci (wv (r:=(.sh,iD a)) rfl ⟨rfl,bN (dM rfl ⟨rfl,bN (dM rfl ⟨rfl,dv (dM rfl (bt (dX (r:=(.sh,cD ⟨a,v,t,s⟩)) rfl ⟨rfl,pP rfl (q ⟨a,v,t,s⟩ d (S s w u))⟩)))⟩)⟩)⟩))))
 show iH (z:=decide ((0:Int)<((a+l+b:Nat):Int))) (A9 rfl (bz 0)) (λe=>?_) λ_=>gz (y [] M (by simp) λp R=>(nomatch R))
 have:=of_decide_eq_true e;show dO (vR F (by lia) (by lia) (by lia) (by lia) λs T w u P=>⟨⟨rfl,by decide⟩,gz (y s T (by lia) u)⟩)
theorem Cy{α β:Type}(l:List α)(F:α->β){γ:Type}(G:β×Nat->γ):(l.map F).zipIdx.map G=l.zipIdx.map λp=>G (F p.1,p.2):=by
 rw[Ph,MB];rfl
theorem nY{p q:Nat}(c:aa U a Y=Pj (k,iD p))(d:aa U b Y=Pj (k',iD q)):aa U (.bin .Add a b) Y=Pj (.sh,iD (p+q)):=bx c d
theorem CA(a:aa U b Y=Pj (.sh,iD p)):aa U (.tup .fz (.cons (.lit (.int 0)) (.cons b .nil))) Y=Pj (.sh,pD (sp 0 p)):=dB rfl a
theorem CB(a:aa U b Y=Pj (.sh,iD p)):aa U (.tup .fz (.cons (.lit (.int 1)) (.cons b .nil))) Y=Pj (.sh,pD (sp 1 p)):=dB rfl a
noncomputable abbrev j6(c:Ci):List (List Nat):=c.gates.map Prod.snd
theorem Fs(h:Ok c):Ir [cD c]=Pj (.sh,aR c (j6 c)):=by
 let d:=h.bm;let e:=h.bg;unfold Ir;show gQ rfl ?_;unfold K4;change Wp (aq _ _ _ [] [fS (cD c),Pl,Pl,Pl,Pl,Pl,Pl,Pl]) _;show eS (ds:=[iD c.ins,.lst (c.mems.map dD),.lst (c.gates.map bu),.lst (c.outs.map iD)]) rfl ⟨rfl,rfl⟩ ?_;change Wp (aq _ _ _ [] [fS (cD c),fS (iD c.ins),fS (.lst (c.mems.map dD)),fS (.lst (c.gates.map bu)),fS (.lst (c.outs.map iD)),Pl,Pl,Pl]) _;show aN (x:=(.fr k0,.lst (c.mems.zipIdx.map (iL c)))) (Fb (k:=.sh) (l:=c.mems) (f:=dD) (g:=iL c) rfl rfl (by lia) λi m b=>ID rfl (wv (gB (kds:=[(.sh,pD (sp 0 (c.ins+i))),(.sh,pD (sp 1 (c.ins+i))),(.fr k0,.lst (([m.2]:List Nat).map iD)),(.fr k0,c9)]) (e4 (CA (nY (k:=.sh) (k':=.sh) rfl rfl)) (CB (nY (k:=.sh) (k':=.sh) rfl rfl)) (p8 (kds:=[(.sh,iD m.2)]) (e1 (cN (k:=.sh) (k':=.sh) (n:=1) (hd:=.tup) (xs:=[bD m.1,iD m.2]) rfl rfl (.inr rfl) rfl rfl)) ⟨rfl,by simp⟩) rfl) ⟨rfl,by simp⟩) ⟨_,rfl,rfl⟩)) rfl (by decide) ?_;show aN (x:=(.sh,iD c.f)) (bx (k:=.sh) (k':=.sh) (i:=(c.ins:Int)) (j:=(c.mems.length:Int)) rfl (bP (l:=c.mems) (f:=dD) (k:=.sh) rfl (.inl rfl))) rfl (by decide) ?_;change Wp (aq _ _ _ [] [fS (cD c),fS (iD c.ins),fS (.lst (c.mems.map dD)),fS (.lst (c.gates.map bu)),fS (.lst (c.outs.map iD)),bJ (.lst (c.mems.zipIdx.map (iL c))),fS (iD c.f),Pl]) _;show aN (x:=(.fr k0,.lst (c.gates.zipIdx.map λp=>ef c (p.1.2,p.2)))) (Fb (k:=.sh) (l:=c.gates) (f:=bu) (g:=λp=>ef c (p.1.2,p.2)) rfl rfl (by lia) λi g a=>ID rfl (wv (gB (kds:=[(.sh,pD (sp 0 (c.f+i))),(.sh,pD (sp 1 (c.f+i))),(.fr k0,.lst (g.2.map iD)),(.fr k0,c9)]) (e4 (CA (nY (k:=.sh) (k':=.sh) rfl rfl)) (CB (nY (k:=.sh) (k':=.sh) rfl rfl)) (aH (dU (aD (wv (cN (k:=.sh) (k':=.sh) (n:=1) (hd:=.tup) (xs:=[iD g.1,.tup (g.2.map iD)]) rfl rfl (.inr rfl) rfl rfl) (bt (fI (.inr rfl))))))) rfl) ⟨rfl,by simp⟩) ⟨_,rfl,rfl⟩)) rfl (by decide) ?_;rw[<- Cy c.gates Prod.snd (ef c)];show dA (eN (bN (ci (wv (r:=(.fr k0,c9)) rfl ⟨rfl,bN (dM rfl ⟨rfl,dv (dM rfl (wv (e1 (p:=(.fr k0,.lst (c.outs.map iD))) (aH (dU (aD (wv (r:=(.sh,.lst (c.outs.map iD))) rfl (bt (fI (.inl rfl)))))))) (dX (r:=(.sh,aR c (j6 c))) rfl ⟨rfl,ee rfl rfl⟩)))⟩)⟩))))
theorem IX(h:Ok c):Bg c (j6 c):=by
 show⟨by rw[Mh],λk d e=>?_,λk d g e e2=>?_⟩
 ·rw[Mj] at e
  cases a:c.gates[k]? with
  |none=>rw[a] at e;cases e
  |some g=>
   rw[a] at e;cases e;have:=h.g k g a;show⟨by lia,this.2⟩
 ·rw[Mj,e2] at e;cases e;show λp b=>b
theorem vS{fs:List (List Nat)}(m:fs.length<=20)(i:∀fr∈fs,fr.length<=8):Iu [aR c fs]=Pj (.sh,aR c (fs.map NS)):=by
 unfold Iu;show gQ rfl ?_;unfold K6;change Wp (aq _ _ _ [] [fS (aR c fs),Pl]) _;let a:∀{e:Option Sl} (n:Nat) d,[c9,D.lst (c.mems.zipIdx.map (iL c)),.lst (fs.zipIdx.map (ef c)),.lst (c.outs.map iD)][n]?=Pj d->aa U_27.fn (.ix (.var 0) (.lit (.int (n:Int)))) [fS (aR c fs),e]=Pj (.sh,d):=λn d h=>cN (k:=.sh) (k':=.sh) (n:=n) rfl rfl (.inr rfl) rfl h;show aN (x:=(.fr k0,.lst (fs.zipIdx.map λp=>ef c (p.1.reverse,p.2)))) (rT (k:=.sh) (hd:=.lst) (l:=fs.zipIdx) (f:=ef c) (g:=λp=>ef c (p.1.reverse,p.2)) (.inl rfl) (a 2 _ rfl) rfl (by rw[M4];lia) λp b=>?_) rfl (by decide) ?_
 ·let j:=i p.1 (Mu (vM b));show pO (ps:=[(1,pD (sp 0 (c.f+p.2))),(2,pD (sp 1 (c.f+p.2))),(3,.lst (p.1.map iD)),(4,c9)]) rfl rfl rfl (wv (gB (kds:=[(.sh,pD (sp 0 (c.f+p.2))),(.sh,pD (sp 1 (c.f+p.2))),(.fr aO,.lst (p.1.reverse.map iD)),(.sh,c9)]) (e4 rfl rfl (aH (AY (wv (r:=(.sh,.lst (p.1.map iD))) rfl ⟨_,?_,rfl⟩))) rfl) ⟨rfl,by simp⟩) ⟨_,rfl,rfl⟩)
  change(match toInts (p.1.map iD) with|some ks=>if ks.length<=100000 then Pj (Kd.fr aO,D.lst (ks.reverse.map D.int)) else Pl|none=>Pl)=_
  rw[show p.1.map iD=(p.1.map λn:Nat=>(n:Int)).map D.int by rw[MB];rfl,kF]
  change(if(p.1.map λn:Nat=>(n:Int)).length<=100000 then Pj (Kd.fr aO,D.lst ((p.1.map λn:Nat=>(n:Int)).reverse.map D.int)) else Pl)=_
  rw[if_pos (by rw[Mh];lia),<- O9,MB];rfl
 rw[<- Cy fs NS (ef c)];show dA (eN (bN (ci (wv (a 0 _ rfl) ⟨rfl,bN (ci (wv (a 1 _ rfl) ⟨rfl,dv (dM rfl (wv (e1 (cN (k:=.sh) (k':=.sh) (n:=3) (hd:=.tup) (xs:=[c9,.lst (c.mems.zipIdx.map (iL c)),.lst (fs.zipIdx.map (ef c)),.lst (c.outs.map iD)]) rfl rfl (.inr rfl) rfl rfl)) (dX (r:=(.sh,aR c (fs.map NS))) rfl ⟨rfl,ee rfl rfl⟩)))⟩))⟩))))
theorem rZ{fs:List (List Nat)}(h:Bg c fs):Bg c (fs.map NS):=by
 let b:∀{k:Nat} {d:List Nat},(fs.map NS)[k]?=Pj d->∃a,fs[k]?=Pj a/\d=a.reverse:=λ{k d} e=>by
  rw[Mj] at e
  cases i:fs[k]? with
  |none=>rw[i] at e;cases e
  |some g=>rw[i] at e;cases e;show⟨g,rfl,rfl⟩
 show⟨by rw[Mh];show h.len,λk d e=>?_,λk d g e e2 p f=>?_⟩
 ·obtain⟨a,e1,rfl⟩:=b e;obtain⟨l,j⟩:=h.fit k a e1;show⟨by rw[Od];show l,λp f=>j p (OD.mp f)⟩
 ·obtain⟨a,e1,rfl⟩:=b e;show OD.mpr (h.has k a g e1 e2 p f)
section
variable {U:Nat->Option Fn} {Y:Ro} {a b:IE} {k k':Kd} {xs:List D}
theorem CC{n:Nat}(b:eA k xs=Pm)(c:aa U a Y=Pj (k,.lst xs)):aa U (.sl a .non (.som (.lit (.int (n:Int))))) Y=Pj (.fr aO,.lst (xs.take n)):=by
 show aH (t6 (wv c (lg (nG (bb ⟨(n:Int),rfl,⟨(.fr aO,.lst (jN xs Pl (Pj (n:Int)))),if_pos b,?_⟩⟩)))));unfold jN;rw[HT.ox,HT.sj,OO,O0,List.take_eq_take_min]
theorem IY{n:Nat}(c:eA k xs=Pm)(g:n<=1000)(d:xs.length*n<=100000)(e:aa U a Y=Pj (k,.lst xs))(f:aa U b Y=Pj (k',iD n)):aa U (.bin .Mult a b) Y=Pj (.fr aO,.lst (MC n xs).flatten):=by
 show aH (bc (wv e (wv f ⟨_,?_,rfl⟩)))
 change(if eA k xs=Pm/\0<=(n:Int)/\(n:Int)<=100000/\xs.length*((n:Int)).toNat<=100000 then Pj (Kd.fr aO,D.lst (MC ((n:Int)).toNat xs).flatten) else Pl)=_
 rw[Nd,if_pos ⟨c,by lia,by lia,d⟩]
end
noncomputable def eh(fr:List Nat):List Nat:=(MC 8 fr).flatten.take 8
theorem vT(fr:List Nat):(MC 8 (fr.map iD)).flatten.take 8=(eh fr).map iD:=by
 unfold eh;rw[List.map_take,List.map_flatten,List.map_replicate]
theorem vU{fr:List Nat}{p:Nat}(h:p∈eh fr):p∈fr:=by
 have:=List.mem_of_mem_take h;rw[List.mem_flatten] at this;obtain⟨l,b,a⟩:=this;rw[(List.mem_replicate.mp b).2] at a;show a
theorem vV{fr:List Nat}{p:Nat}(a:fr.length<=8)(h:p∈fr):p∈eh fr:=by
 unfold eh;rw[Nf,NO,List.take_append];show NH _ (by rw[OM a];show h)
theorem Fu{U:GG}{N:Nat}{pn:List Nat}{Y:Ro}{Q:Res->Prop}{rest:bw}{α:Type}{l:List α}{f:α->D}{fg:List Nat}{tg:IT}{a:IE}{b:bw}(m:aa U.fn a Y=Pj (.fr aO,.lst (l.map f)))(I:Nat->Ro->Prop)(k:I 0 Y)
  (hs:∀(i:Nat) x Y,l[i]?=Pj x->I i Y->∃h,nZ tg (.tup [iD i,f x])=Pj h/\(h.all λq=>!pn.contains q.1)=Pm/\Wp (aq U N b pn (setAll h (clrN fg Y))) λr=>∃j,(r=.nx j\/r=.ct j)/\I (i+1) j)
  (hq:∀Y,I l.length Y->Wp (aq U N rest pn (clrN fg Y)) Q):Wp (aq U N (.cons (.fo fg tg (.p (.enm a)) b) rest) pn Y) Q:=by
 show eR (cQ (nH (wv m (rU rfl ⟨I,k,λi d Y c g=>?_,λY g=>?_⟩))))
 ·rw[nR] at c;let c:(l.zipIdx.map λp=>D.tup [iD p.2,f p.1])[i]?=Pj d:=c;rw[Mj] at c
  cases e:l.zipIdx[i]? with
  |none=>rw[e] at c;cases c
  |some p=>
   rw[e] at c;cases c;obtain⟨e1,e2⟩:=Jo e;subst e2;rw[show pn++(oW (Kd.fr aO):List Nat)=pn from M5 pn];show hs p.2 p.1 Y e1 g
 ·have:((l.map f).mapIdx λi d=>D.tup [.int i,d]).length=l.length:=by simp
  let g:I ((l.map f).mapIdx λi d=>D.tup [.int i,d]).length Y:=g;rw[this] at g;show hq Y g
theorem Lo{α:Type}(l:List α)(s:Nat)(a:α)(F:α×Nat->D):(l.set s a).zipIdx.map F=(l.zipIdx.map F).set s (F (a,s)):=by
 show NF λi=>?_;rw[Mj,NV,Ox,Ox];by_cases e:s=i
 ·subst e;rw[if_pos rfl,if_pos rfl,Mh,M4];by_cases h:s<l.length
  ·rw[if_pos h,if_pos h];simp
  ·rw[if_neg h,if_neg h];rfl
 ·rw[if_neg e,if_neg e,Mj,NV]
theorem Br{c:Ci}(H:c.gates.length<=20)(h:Bg c fs):∃fs',FW [aR c fs]=Pj (.sh,aR c fs')/\Bg c fs':=by
 let E:=h.len
 suffices w:Wp (FW [aR c fs]) λr=>∃fs',r=(.sh,aR c fs')/\Bg c fs' by
  obtain⟨r,e,fs',rfl,p⟩:=w;show⟨fs',e,p⟩
 unfold FW;show nN rfl ?_;unfold K7;change Wp (aq _ _ _ [] [fS (aR c fs),Pl,Pl,Pl,Pl,Pl,Pl]) _;let o:∀{x1 x2 x3 x4 x5 x6:Option Sl} (n:Nat) d,[c9,D.lst (c.mems.zipIdx.map (iL c)),.lst (fs.zipIdx.map (ef c)),.lst (c.outs.map iD)][n]?=Pj d->aa U_28.fn (.ix (.var 0) (.lit (.int (n:Int)))) [fS (aR c fs),x1,x2,x3,x4,x5,x6]=Pj (.sh,d):=λn d h=>cN (k:=.sh) (k':=.sh) (n:=n) rfl rfl (.inr rfl) rfl h;show aN (x:=(.fr k0,.lst (fs.zipIdx.map (ef c)))) (aH (dU (aD (wv (o 2 _ rfl) (bt (fI (.inl rfl))))))) rfl (by decide) ?_;change Wp (aq _ _ _ [] [fS (aR c fs),bJ (.lst (fs.zipIdx.map (ef c))),Pl,Pl,Pl,Pl,Pl]) _
 let v:∀{x1 x2 x3 x4 x5 x6:Option Sl},aa U_28.fn (.sl (.ix (.var 0) (.lit (.int 2))) .non (.som (.lit (.int 4)))) [fS (aR c fs),x1,x2,x3,x4,x5,x6]=Pj (.fr aO,.lst ((fs.zipIdx.take 4).map (ef c))):=λ{x1 x2 x3 x4 x5 x6}=>by
  have:=CC (n:=4) (k:=.sh) rfl (o (x1:=x1) (x2:=x2) (x3:=x3) (x4:=x4) (x5:=x5) (x6:=x6) 2 _ rfl);rw[<- List.map_take] at this;show this
 show Fu (l:=fs.zipIdx.take 4) (f:=ef c) v (λs Y=>∃(fs':List (List Nat)) (x2 x3 x4 x5 x6:Option Sl),Y=[fS (aR c fs),bJ (.lst (fs'.zipIdx.map (ef c))),x2,x3,x4,x5,x6]/\fs'.length=fs.length/\∀(k:Nat) a,fs'[k]?=Pj a->∃i,fs[k]?=Pj i/\(a=i\/a=eh i)) ⟨fs,Pl,Pl,Pl,Pl,Pl,rfl,rfl,λk i e=>⟨i,e,.inl rfl⟩⟩ (λs p Y m q=>?_) λY q=>?_
 ·obtain⟨fs',x2,x3,x4,x5,x6,rfl,t,b⟩:=q
  obtain⟨e1,e2⟩:=Jo (show fs.zipIdx[s]?=Pj p from by
   rw[List.getElem?_take] at m;split at m
   ·show m
   ·cases m)
  subst e2;let F:=(Mg.mp e1).1;obtain⟨B,A⟩:=h.fit _ _ e1;show⟨[(2,iD p.2),(3,pD (sp 0 (c.f+p.2))),(4,pD (sp 1 (c.f+p.2))),(5,.lst (p.1.map iD)),(6,c9)],rfl,rfl,?_⟩;change Wp (aq _ _ _ [] [fS (aR c fs),bJ (.lst (fs'.zipIdx.map (ef c))),fS (iD p.2),fS (pD (sp 0 (c.f+p.2))),fS (pD (sp 1 (c.f+p.2))),fS (.lst (p.1.map iD)),fS c9]) _;show iH (z:=decide ((0:Int)<(p.1.length:Nat))) (A9 (bP (l:=p.1) (f:=iD) (k:=.sh) rfl (.inl rfl)) (bz 0)) (λ_=>?_) λ_=>gz (ba ⟨_,.inl rfl,fs',_,_,_,_,_,rfl,t,b⟩)
  let y:aa U_28.fn (.tup .fz (.cons (.var 3) (.cons (.var 4) (.cons (.sl (.bin .Mult (.var 5) (.lit (.int 8))) .non (.som (.lit (.int 8)))) (.cons (.var 6) .nil))))) [fS (aR c fs),bJ (.lst (fs'.zipIdx.map (ef c))),fS (iD p.2),fS (pD (sp 0 (c.f+p.2))),fS (pD (sp 1 (c.f+p.2))),fS (.lst (p.1.map iD)),fS c9]=Pj (.sh,ef c (eh p.1,p.2)):=by
   show gB (kds:=[(.sh,pD (sp 0 (c.f+p.2))),(.sh,pD (sp 1 (c.f+p.2))),(.fr aO,.lst ((eh p.1).map iD)),(.sh,c9)]) (e4 rfl rfl ?_ rfl) ⟨rfl,by simp⟩;rw[<- vT];show CC (n:=8) (k:=.fr aO) rfl (IY (n:=8) (k:=.sh) (k':=.sh) rfl (by decide) (by rw[Mh];lia) rfl rfl)
  show mn (ci (wv y (vo rfl (wv (r:=(.sh,iD p.2)) rfl (jl rfl rfl rfl (jm (r:=(.lst,(fs'.zipIdx.map (ef c)).set p.2 (ef c (eh p.1,p.2)))) ?_ ?_))))))
  ·change(match jx (fs'.zipIdx.map (ef c)).length (p.2:Int) with|some j=>if bM .fz (.sh,ef c (eh p.1,p.2))=Pm then Pj (Hd.lst,(fs'.zipIdx.map (ef c)).set j (ef c (eh p.1,p.2))) else Pl|none=>Pl)=_
   rw[yL rfl (by rw[Mh,M4];lia)];rfl
  ·show ba (dN (ba ⟨_,.inl rfl,fs'.set p.2 (eh p.1),fS (iD p.2),fS (pD (sp 0 (c.f+p.2))),fS (pD (sp 1 (c.f+p.2))),fS (.lst (p.1.map iD)),fS c9,?_,by rw[NM];show t,λk a e=>?_⟩))
   ·rw[Lo];rfl
   ·rw[Ox] at e;split at e
    ·ext e3;subst e3;split at e
     ·cases e;show⟨p.1,e1,.inr rfl⟩
     ·cases e
    ·show b k a e
 ·obtain⟨fs',x2,x3,x4,x5,x6,rfl,t,b⟩:=q
  let C:Bg c fs':=by
   show⟨by lia,λk a e=>?_,λk a g e e2 p m=>?_⟩
   ·obtain⟨i,e1,u⟩:=b k a e;obtain⟨B,A⟩:=h.fit k i e1;rcases u with rfl|rfl
    ·show⟨B,A⟩
    ·show⟨by unfold eh;rw[MJ];lia,λp m=>A p (vU m)⟩
   ·obtain⟨i,e1,u⟩:=b k a e;have:=h.has k i g e1 e2 p m;rcases u with rfl|rfl
    ·show this
    ·show vV (h.fit k i e1).1 this
  show dA (eN (bN (ci (wv (o 0 _ rfl) ⟨rfl,bN (ci (wv (o 1 _ rfl) ⟨rfl,dv (dM rfl (wv (e1 (o 3 _ rfl)) (dX (r:=(.sh,aR c fs')) rfl ⟨rfl,ee rfl ⟨fs',rfl,C⟩⟩)))⟩))⟩))))
theorem Bs{ns:List Int}(q:ns.length<=63):∃c,Ok c/\FV [.scr ns]=Pj (.sh,.tup [cD c,aR c (j6 c)]):=by
 suffices w:Wp (FV [.scr ns]) λr=>∃c,Ok c/\r=(.sh,.tup [cD c,aR c (j6 c)]) by
  obtain⟨r,e,c,h,rfl⟩:=w;show⟨c,h,e⟩
 unfold FV;show nN rfl ?_;unfold K5;change Wp (aq _ _ _ [] [fS (.scr ns),Pl,Pl,Pl,Pl]) _;show dO (ci (yk (B:=Im) rfl (wv (e1 (p:=(.sh,.scr ns)) rfl) (ua (za q λd s=>⟨rfl,.inl rfl,⟨rfl,by decide⟩,?_⟩)))));change Wp (aq _ _ _ [] [fS (.scr ns),sS d,Pl,Pl,Pl]) _;show dO (B7 (bN (ci (wv (r:=(.fr k0,.lst [iD 5,iD 5,iD 5,iD 10])) rfl ⟨rfl,dv (lu (m:=4) rfl rfl s (by lia) rfl (by decide) (by decide) λr t j f=>bt ⟨_,_,rfl,?_⟩)⟩))))
 obtain⟨z,A,n⟩:∃z:Nat,(z=5\/z=10)/\[iD 5,iD 5,iD 5,iD 10][r]?=Pj (iD z):=by
  match r,j with
  |0,_=>show⟨5,.inl rfl,rfl⟩
  |1,_=>show⟨5,.inl rfl,rfl⟩
  |2,_=>show⟨5,.inl rfl,rfl⟩
  |3,_=>show⟨10,.inr rfl,rfl⟩
 show wv (Cg (k:=.fr k0) (k':=.sh) (d:=iD z) (.inl rfl) (yL rfl j) n) ⟨⟨rfl,by decide⟩,?_⟩;change Wp (aq _ _ _ [] [fS (.scr ns),sS t,fS (iD z),Pl,Pl]) _;show dO (lu (m:=z) rfl rfl f (by lia) rfl (by lia) (by lia) λa v D b=>⟨⟨rfl,by decide⟩,?_⟩);change Wp (aq _ _ _ [] [fS (.scr ns),sS v,fS (iD z),fS (iD a),Pl]) _;show dO (yr (B:=Iq) rfl (nK rfl (fD (ci (wv (r:=(.sh,iD a)) rfl ⟨rfl,fD (lu (m:=z) rfl rfl b (by lia) rfl (by lia) (by lia) λo E C i=>⟨rfl,fD (ci (wv (r:=(.sh,iD 20)) rfl ⟨rfl,fD (lu (m:=z) rfl rfl i (by lia) rfl (by lia) (by lia) λouts x y g=>⟨rfl,nJ ⟨by simp[cK],[(kS,x),(.fz,iD a),(.fz,iD o),(.fz,iD 20),(.fz,iD outs)],rfl,rY g (by lia) (by lia) (by lia) (by lia) λc u l=>⟨rfl,rfl,⟨rfl,by decide⟩,?_⟩⟩⟩)⟩))⟩)⟩)))));change Wp (aq _ _ _ [] [fS (.scr ns),sS u,fS (iD z),fS (iD a),fS (cD c)]) _;show cg (gB (kds:=[(.sh,cD c),(.sh,aR c (j6 c))]) (e2 rfl (bK (B:=Ir) (ds:=[cD c]) rfl (e1 (p:=(.sh,cD c)) rfl) rfl rfl (Fs l) rfl)) ⟨rfl,by simp⟩) rfl (ee rfl ⟨c,l,rfl⟩)
theorem Bt{n:Nat}{ds:List D}(h:∀d∈ds,dY n d=Pm):dY (n+1) (.lst ds)=Pm:=by
 change(decide (1<=n+1)&&jM (n+1-1) ds)=Pm;rw[decide_eq_true (by lia),Oo,j5 h];rfl
theorem c5{n:Nat}{ds:List D}(h:∀d∈ds,dY n d=Pm):dY (n+1) (.tup ds)=Pm:=by
 change(decide (1<=n+1)&&jM (n+1-1) ds)=Pm;rw[decide_eq_true (by lia),Oo,j5 h];rfl
theorem c6{n:Nat}{α:Type}{l:List α}{f:α->D}(h:∀a,dY n (f a)=Pm):dY (n+1) (.lst (l.map f))=Pm:=Bt λd b=>by
 obtain⟨a,_,rfl⟩:=Na.mp b;show h a
theorem cx:dY n (iD k)=Pm:=by unfold dY;rfl
theorem uC(n:Nat)(a:Nat)(fr:List Nat):dY (n+3) (gT a fr)=Pm:=c5 λd b=>by
 simp only[Mn,Mv,or_false] at b;rcases b with rfl|rfl|rfl|rfl
 ·show c5 (n:=n+1) λd b=>by
   simp only[Mn,Mv,or_false] at b
   rcases b with rfl|rfl<;>show cx
 ·show c5 (n:=n+1) λd b=>by
   simp only[Mn,Mv,or_false] at b
   rcases b with rfl|rfl<;>show cx
 ·show c6 (n:=n+1) λa=>cx
 ·show c6 (n:=n+1) λa=>cx
theorem Bu(c:Ci)(fs:List (List Nat)):dY 89 (aR c fs)=Pm:=c5 (n:=88) λd b=>by
 simp only[Mn,Mv,or_false] at b;rcases b with rfl|rfl|rfl|rfl
 ·show c6 (n:=87) λa=>cx
 ·show c6 (n:=87) λa=>uC 84 _ _
 ·show c6 (n:=87) λa=>uC 84 _ _
 ·show c6 (n:=87) λa=>cx
theorem IZ(c:Ci):dY 89 (cD c)=Pm:=c5 (n:=88) λd b=>by
 simp only[Mn,Mv,or_false] at b;rcases b with rfl|rfl|rfl|rfl
 ·show cx
 ·show c6 (n:=87) λm=>c5 (n:=86) λd b=>by
   simp only[Mn,Mv,or_false] at b
   rcases b with rfl|rfl<;>(unfold dY;rfl)
 ·show c6 (n:=87) λg=>c5 (n:=86) λd b=>by
   simp only[Mn,Mv,or_false] at b;rcases b with rfl|rfl
   ·show cx
   ·show c5 (n:=85) λd b=>by
     obtain⟨a,_,rfl⟩:=Na.mp b;show cx
 ·show c6 (n:=87) λa=>cx
theorem lw(c:Ci)(fs:List (List Nat)):dY 90 (.tup [cD c,aR c fs])=Pm:=c5 (n:=89) λd a=>by
 simp only[Mn,Mv,or_false] at a;rcases a with rfl|rfl
 ·show IZ c
 ·show Bu c fs
theorem zc(ns:List Int)(m:ns.length<=63):Iv [.scr ns]=Pj (.sh,.bl Pm):=by
 obtain⟨c,h,j⟩:=Bs m;let d:=IX h;obtain⟨b,l,i⟩:=Br h.bg d
 let g:=vS (c:=c) (fs:=j6 c) (by rw[Mh];show h.bg) λv f=>by
  obtain⟨k,hk⟩:=List.mem_iff_getElem?.mp f;show(d.fit k v hk).1
 let w:=jq h d;let s:=jq h (rZ d);let t:=jq h i;unfold Iv;show gQ rfl ?_;unfold K8;change Wp (aq _ _ _ [] [fS (.scr ns),Pl,Pl]) _;let a:∀{r o:Option Sl},aa U_29.fn (.fn 27 (.cons (.var 0) .nil)) [fS (.scr ns),r,o]=Pj (.sh,.tup [cD c,aR c (j6 c)]):=bK (B:=FV) (ds:=[.scr ns]) rfl (e1 (p:=(.sh,.scr ns)) rfl) rfl rfl j rfl;show eS (ds:=[cD c,aR c (j6 c)]) a ⟨rfl,rfl⟩ ?_;change Wp (aq _ _ _ [] [fS (.scr ns),fS (cD c),fS (aR c (j6 c))]) _;show fG (z:=Po) (x:=(.sh,.bl Po)) (dF (bK (B:=E8) (p:=(.sh,.bl Pm)) (ds:=[cD c,cD c,aR c (j6 c)]) rfl (e3 (p:=(.sh,cD c)) (q:=(.sh,cD c)) (u:=(.sh,aR c (j6 c))) rfl rfl rfl) rfl rfl w rfl) rfl rfl) (λe=>by cases e) λ_=>?_;show fG (z:=Po) (x:=(.sh,.bl Po)) (dF (bK (B:=E8) (p:=(.sh,.bl Pm)) (ds:=[cD c,cD c,aR c ((j6 c).map NS)]) rfl (e3 (p:=(.sh,cD c)) (q:=(.sh,cD c)) (u:=(.sh,aR c ((j6 c).map NS))) rfl (cN (k:=.sh) (k':=.sh) (n:=0) (hd:=.tup) (xs:=[cD c,aR c (j6 c)]) a rfl (.inr rfl) rfl rfl) (bK (B:=Iu) (ds:=[aR c (j6 c)]) rfl (e1 (p:=(.sh,aR c (j6 c))) rfl) rfl rfl g rfl)) rfl rfl s rfl) rfl rfl) (λe=>by cases e) λ_=>?_;show fG (z:=Po) (x:=(.sh,.bl Po)) (dF (bK (B:=E8) (p:=(.sh,.bl Pm)) (ds:=[cD c,cD c,aR c b]) rfl (e3 (p:=(.sh,cD c)) (q:=(.sh,cD c)) (u:=(.sh,aR c b)) rfl rfl (bK (B:=FW) (ds:=[aR c (j6 c)]) rfl (e1 (p:=(.sh,aR c (j6 c))) rfl) rfl rfl l rfl)) rfl rfl t rfl) rfl rfl) (λe=>by cases e) λ_=>?_;show cg (iG (dF a (gB (kds:=[(.sh,cD c),(.sh,aR c (j6 c))]) (e2 rfl rfl) ⟨rfl,by simp⟩) ?_)) rfl (iI rfl rfl)
 change(if dY 90 (.tup [cD c,aR c (j6 c)])=Pm/\dY 90 (.tup [cD c,aR c (j6 c)])=Pm then Pj (ze (.tup [cD c,aR c (j6 c)]) (.tup [cD c,aR c (j6 c)])) else Pl)=_
 rw[if_pos ⟨lw _ _,lw _ _⟩,pQ (lw _ _)]
abbrev Fw:Pos:=match yF with|.FunctionDef _ _ _ _ _ _ _ _ _ p=>p|_=>⟨0,0,0,0⟩
noncomputable abbrev sv(x:String)(t:Tok):Pn:=.str (Str.ofString x) t
noncomputable abbrev E(P:Params)(x:String)(t:Tok)(v:Pn):DictEntry:=⟨PyData.keyHash P (Str.ofString x),.str (Str.ofString x) t,v⟩
abbrev fO(x:String)(st:Pz)(m:Pn)(c:Ps):Obj:=⟨.type "function",Pl,.func (Ni (Str.ofString x) (Str.ofString x) (cb st) (aC st) (ab st) .none .none .none m Pl (.ref c) .none),#[]⟩
abbrev fQ(x y:String)(st:Pz)(m:Pn)(c:Ps):Obj:=⟨.type "function",Pl,.func (Ni (Str.ofString x) (Str.ofString y) (cb st) (aC st) (ab st) .none .none .none m Pl (.ref c) .none),#[]⟩
abbrev mL:Pn:=sv "law_gatepapers_k42_a_circuit_and_itself" 438
abbrev cO(x:String)(t:Nat)(l n:Int)(r:Ps)(b:Bool)(q:Ps)(A B C:Pn)(s:Ps)(u:Nat):Obj:=⟨.type "code",Pl,.fields #[sv x t,sv x (t+1),sv "/claim/cut.py" (t+2),.int l 0,.int n 0,.int 0 0,.int 0 0,.int 3 0,.ref r,.bool b,.int 181 0,.ref q,A,B,C,.ref s,.int u 0,.int l 0,sv "/claim/cut.py" (u+1)],#[]⟩
abbrev FX:Pn:=sv "gatepapers.bits" 187
abbrev Jp:Pn:=sv "gatepapers.circuits" 222
abbrev FY:Pn:=sv "gatepapers.columns" 239
abbrev mG:Pn:=sv "gatepapers.papers" 334
abbrev zd:Pn:=sv "gatepapers.spots" 265
def KK(P:Params):Md:=[(3,⟨(.type "dict"),Pl,(.dict #[E P "__name__" 165 mL,E P "__doc__" 166 .none,E P "__package__" 167 .none,E P "__loader__" 168 (.builtin "__main__.__loader__#opaque"),E P "__spec__" 169 .none,E P "__annotations__" 170 (.ref 6),E P "__builtins__" 171 (.ref 4),E P "__file__" 173 (sv "/claim/cut.py" 172),E P "__cached__" 174 .none,E P "is_whole" 195 (.ref 21),E P "is_below" 203 (.ref 28),E P "bits_of" 209 (.ref 33),E P "MOST_PLACES" 213 (.int 3 212),E P "is_table" 221 (.ref 40),E P "is_tuple" 231 (.ref 47),E P "places_in" 238 (.ref 54),E P "all_trials" 247 (.ref 61),E P "column_of" 258 (.ref 68),E P "column_told" 264 (.ref 73),E P "is_spot" 274 (.ref 80),E P "Ground" 333 (.ref 114),E P "MOST_FREE" 337 (.int 8 336),E P "looked" 343 (.ref 123),E P "is_paper" 349 (.ref 128),E P "is_helper" 355 (.ref 133),E P "is_statement" 361 (.ref 138),E P "hangs_on_no_in" 367 (.ref 143),E P "holds_first" 376 (.ref 150),E P "holds_now" 392 (.ref 157),E P "holds_next" 398 (.ref 162),E P "trials_by" 404 (.ref 167),E P "bits_by_free" 420 (.ref 174),E P "bits_by_given" 437 (.ref 181),E P "_law_mixed" 448 (.ref 188),E P "_law_state" 454 (.ref 193),E P "_law_take" 463 (.ref 200),E P "_law_gates" 469 (.ref 205),E P "_law_circuit" 475 (.ref 210),E P "_law_paper" 481 (.ref 215),E P "_law_case" 492 (.ref 222),E P "_law_turned" 498 (.ref 227),E P "_law_full" 511 (.ref 234),E P "law" 520 (.ref 241)] 43),#[]⟩),
 (21,fO "is_whole" s0 FX 20),
 (20,cO "is_whole" 189 2 1 15 Pm 16 .none (.ref 17) (.ref 18) 19 193),
 (28,fO "is_below" s1 FX 27),
 (27,cO "is_below" 196 4 2 22 Pm 23 .none (.ref 24) (.ref 25) 26 201),
 (33,fO "bits_of" s2 FX 32),
 (32,cO "bits_of" 204 6 2 29 Pm 30 .none .none .none 31 207),
 (47,fO "is_tuple" s4 Jp 46),
 (46,cO "is_tuple" 224 17 2 41 Pm 42 .none (.ref 43) (.ref 44) 45 229),
 (54,fO "places_in" s5 Jp 53),
 (53,cO "places_in" 232 19 1 48 Pm 49 .none (.ref 50) (.ref 51) 52 236),
 (61,fO "all_trials" s6 FY 60),
 (60,cO "all_trials" 241 22 1 55 Pm 56 .none (.ref 57) (.ref 58) 59 245),
 (68,fO "column_of" s7 FY 67),
 (67,cO "column_of" 248 24 2 62 Pm 63 .none (.ref 64) (.ref 65) 66 256),
 (73,fO "column_told" s8 FY 72),
 (72,cO "column_told" 259 32 3 69 Pm 70 .none .none .none 71 262),
 (80,fO "is_spot" s9 zd 79),
 (79,cO "is_spot" 267 38 2 74 Pm 75 .none (.ref 76) (.ref 77) 78 272),
 (123,fO "looked" LA mG 122),
 (122,cO "looked" 338 81 3 119 Pm 120 .none .none .none 121 341),
 (128,fO "is_paper" LB mG 127),
 (127,cO "is_paper" 344 91 3 124 Pm 125 .none .none .none 126 347),
 (138,fO "is_statement" s13 mG 137),
 (137,cO "is_statement" 356 103 3 134 Pm 135 .none .none .none 136 359),
 (143,fO "hangs_on_no_in" LC mG 142),
 (142,cO "hangs_on_no_in" 362 110 2 139 Pm 140 .none .none .none 141 365),
 (150,fO "holds_first" LD mG 149),
 (149,cO "holds_first" 368 112 2 144 Pm 145 .none (.ref 146) (.ref 147) 148 374),
 (157,fO "holds_now" LF mG 156),
 (156,cO "holds_now" 377 115 3 151 Pm 152 .none (.ref 153) (.ref 154) 155 390),
 (162,fO "holds_next" mr mG 161),
 (161,cO "holds_next" 393 122 3 158 Pm 159 .none .none .none 160 396),
 (167,fO "trials_by" LG mG 166),
 (166,cO "trials_by" 399 132 5 163 Pm 164 .none .none .none 165 402),
 (174,fO "bits_by_free" LH mG 173),
 (173,cO "bits_by_free" 405 146 2 168 Pm 169 .none (.ref 170) (.ref 171) 172 418),
 (181,fO "bits_by_given" rQ mG 180),
 (180,cO "bits_by_given" 421 159 5 175 Pm 176 .none (.ref 177) (.ref 178) 179 435),
 (188,fO "_law_mixed" LI mL 187),
 (187,cO "_law_mixed" 440 172 2 182 Pm 183 .none (.ref 184) (.ref 185) 186 446),
 (193,fO "_law_state" LJ mL 192),
 (192,cO "_law_state" 449 176 1 189 Pm 190 .none .none .none 191 452),
 (200,fO "_law_take" q8 mL 199),
 (199,cO "_law_take" 455 181 2 194 Pm 195 .none (.ref 196) (.ref 197) 198 461),
 (205,fO "_law_gates" FF mL 204),
 (204,cO "_law_gates" 464 190 3 201 Pm 202 .none .none .none 203 467),
 (210,fO "_law_circuit" FL mL 209),
 (209,cO "_law_circuit" 470 199 5 206 Pm 207 .none .none .none 208 473),
 (215,fO "_law_paper" LK mL 214),
 (214,cO "_law_paper" 476 208 1 211 Pm 212 .none .none .none 213 479),
 (222,fO "_law_case" LL mL 221),
 (221,cO "_law_case" 482 214 1 216 Pm 217 .none (.ref 218) (.ref 219) 220 490),
 (227,fO "_law_turned" LM mL 226),
 (226,cO "_law_turned" 493 220 1 223 Pm 224 .none .none .none 225 496),
 (234,fO "_law_full" LN mL 233),
 (233,cO "_law_full" 499 223 1 228 Pm 229 .none (.ref 230) (.ref 231) 232 509),
 (241,fO "law" yF mL 240),
 (240,cO "law" 512 229 1 235 Pm 236 .none (.ref 237) (.ref 238) 239 518),
 (99,fQ "put_circuit" "Ground.put_circuit" Ia zd 98),
 (98,⟨(.type "code"),Pl,(.fields #[(sv "put_circuit" 299),(sv "Ground.put_circuit" 300),(sv "/claim/cut.py" 301),(.int 51 0),(.int 3 0),(.int 0 0),(.int 0 0),(.int 3 0),(.ref 95),(.bool Pm),(.int 181 0),(.ref 96),.none,.none,.none,(.ref 97),(.int 302 0),(.int 51 0),(sv "/claim/cut.py" 303)]),#[]⟩),
 (106,fQ "all_below" "Ground.all_below" yG zd 105),
 (105,⟨(.type "code"),Pl,(.fields #[(sv "all_below" 305),(sv "Ground.all_below" 306),(sv "/claim/cut.py" 307),(.int 59 0),(.int 3 0),(.int 0 0),(.int 0 0),(.int 3 0),(.ref 100),(.bool Pm),(.int 181 0),(.ref 101),.none,(.ref 102),(.ref 103),(.ref 104),(.int 314 0),(.int 59 0),(sv "/claim/cut.py" 315)]),#[]⟩),
 (111,fQ "reckoned" "Ground.reckoned" yH zd 110),
 (110,⟨(.type "code"),Pl,(.fields #[(sv "reckoned" 317),(sv "Ground.reckoned" 318),(sv "/claim/cut.py" 319),(.int 70 0),(.int 4 0),(.int 0 0),(.int 0 0),(.int 3 0),(.ref 107),(.bool Pm),(.int 181 0),(.ref 108),.none,.none,.none,(.ref 109),(.int 320 0),(.int 70 0),(sv "/claim/cut.py" 321)]),#[]⟩),
 (114,⟨.type "type",Pl,.cls ⟨Str.ofString "Ground",[.type "object"],[.ref 114,.type "object"],113,Str.ofString "Ground",Pm,[],[],Po,Pl,Po⟩,#[Pl,Pl,(Pj (sv "Ground" 275)),(Pj (sv "Ground" 283)),(Pj (.builtin "object.__new__")),(Pj (.bool Pm))]⟩),
 (113,⟨(.type "dict"),Pl,(.dict #[E P "__module__" 282 zd,E P "__firstlineno__" 286 (.int 40 285),E P "__init__" 298 (.ref 94),E P "put_circuit" 304 (.ref 99),E P "all_below" 316 (.ref 106),E P "reckoned" 322 (.ref 111),E P "__static_attributes__" 326 (.ref 112),E P "__dict__" 328 (.ref 115),E P "__weakref__" 330 (.ref 116),E P "__doc__" 331 .none] 4),#[]⟩),
 (94,fQ "__init__" "Ground.__init__" uh zd 93),
 (93,⟨(.type "code"),Pl,(.fields #[(sv "__init__" 287),(sv "Ground.__init__" 288),(sv "/claim/cut.py" 289),(.int 42 0),(.int 4 0),(.int 0 0),(.int 0 0),(.int 3 0),(.ref 88),(.bool Pm),(.int 181 0),(.ref 89),.none,(.ref 90),(.ref 91),(.ref 92),(.int 296 0),(.int 42 0),(sv "/claim/cut.py" 297)]),#[]⟩)]
def HH:PySem.W.Hook:=PySem.W.kHook KK [3,21,20,28,27,33,32,47,46,54,53,61,60,68,67,73,72,80,79,123,122,128,127,138,137,143,142,150,149,157,156,162,161,167,166,174,173,181,180,188,187,193,192,200,199,205,204,210,209,215,214,222,221,227,226,234,233,241,240,99,98,106,105,111,110,114,113,94,93] (λ_=>rfl)
noncomputable def qv:Px:=PySem.W.view PySem.Challenge.pw_gatepapers_k42_a_circuit_and_itself [40]
noncomputable def lo:List Str:=(["__name__","is_whole","is_below","bits_of","MOST_PLACES","is_table","is_tuple","places_in","all_trials","column_of","column_told","is_spot","Ground","MOST_FREE","looked","is_paper","is_helper","is_statement","hangs_on_no_in","holds_first","holds_now","holds_next","trials_by","bits_by_free","bits_by_given","_law_mixed","_law_state","_law_take","_law_gates","_law_circuit","_law_paper","_law_case","_law_turned","_law_full"]:List String).map Str.ofString
theorem left:PySem.W.LeftO (PySem.Challenge.rw_gatepapers_k42_a_circuit_and_itself).row.toRowW.prog qv lo (λs=>PySem.W.xlAt qv [] s&&PySem.W.recOk (PySem.W.RowW.records (PySem.Challenge.rw_gatepapers_k42_a_circuit_and_itself).row.toRowW) s) (PySem.W.Hook.obs HH) (PySem.W.Hook.val HH) 20000:=λw=>by kernel_rfl
theorem vX{P:Params}{h:PD}{mg:Str->Option Pn}(X:(KK P).In h)(G:h.Ns PF mg){x:Str}{v:Pn}(e:M6 (KK P) PF x=Pj (Pj v)):mg x=Pj v:=PySem.W.mg_of X G e
theorem fm{P:Params}(x:String)(st:Pz)(f:Ps)(m:Pn)(c:Ps)(h:(KK P).lookup f=Pj (fO x st m c):=by kernel_rfl)(k:NZ (KK P) (.ref c) (Str.ofString x)=Pm:=by kernel_rfl)(j:M8 (KK P) (.ref f)=Pm:=by kernel_rfl):Fun (KK P) (Str.ofString x) (Str.ofString x) st f (Ni (Str.ofString x) (Str.ofString x) (cb st) (aC st) (ab st) .none .none .none m Pl (.ref c) .none):=kj h k j
abbrev Pk(P:Params)(mg:Str->Option Pn)(i:Nat)(x:Str)(st:Pz)(f:Ps)(fd:PL)(N:List Str)(n:Nat)(b:bw):Prop:=Fun (KK P) x x st f fd/\a7 N (N.take n) (ab st)/\mg x=Pj (.ref f)/\Binds (KK P) fd (N.take n) []/\(x==("__debug__":Str)||oO x)=Po/\fns.fns[i]?=Pj x/\pH fns an 60 N st=Pj b
section
variable {P:Params} {mg:Str->Option Pn}
theorem jJ{h:PD}(X:(KK P).In h)(G:h.Ns PF mg)(i:Nat)(x:String)(st:Pz)(f c:Ps)(m:Pn)(N:List Str)(n:Nat)(b:bw)(h1:(KK P).lookup f=Pj (fO x st m c):=by kernel_rfl)(h2:NZ (KK P) (.ref c) (Str.ofString x)=Pm:=by kernel_rfl)(e:M8 (KK P) (.ref f)=Pm:=by kernel_rfl)(l:M6 (KK P) PF (Str.ofString x)=Pj (Pj (.ref f)):=by kernel_rfl)(g:∀(kV a o:Pn) (an:Option Ps) (d j:Pn) (us:List Pn),us.length=(N.take n).length->bindArgs (Ni (Str.ofString x) (Str.ofString x) (cb st) (aC st) (ab st) .none kV a o an d j) ⟨us,[]⟩=pure ((N.take n).zip us):=by walk_at "bnd")(S:a7 N (N.take n) (ab st):=by walk_at "fsc")(k:pH fns an 60 N st=Pj b:=by rfl)(hd:(Str.ofString x==("__debug__":Str)||oO (Str.ofString x))=Po:=by rfl)(hi:fns.fns[i]?=Pj (Str.ofString x):=by rfl):Pk P mg i (Str.ofString x) st f (Ni (Str.ofString x) (Str.ofString x) (cb st) (aC st) (ab st) .none .none .none m Pl (.ref c) .none) N n b:=⟨fm x st f m c h1 h2 e,S,vX X G l,(fm x st f m c h1 h2 e).binds g,hd,hi,k⟩
variable {l:PySem.W.OpenLaw} {w:PB} {base:PD} {U:GG} {k i n:Nat} {x:Str} {st:Pz} {f:Ps} {fd:PL} {N:List Str} {b:bw} (T:TabF l.prog w (KK P) mg base (a8 fns U) k)
include T
theorem aI(ψ:Fn)(q:Pk P mg i x st f fd N n b)(e:∀ds,Le (ψ ds) (bS U 1000 (N.take n).length N.length b ds):=by show λ_=>Le.refl _):TabF l.prog w (KK P) mg base (a8 fns (U.addI i ψ)) (k+1):=T.addI q.1 q.2.1 q.2.2.1 q.2.2.2.1 q.2.2.2.2.1 q.2.2.2.2.2.1 q.2.2.2.2.2.2 e
theorem aM(ψ:Fm)(q:Pk P mg i x st f fd N n b)(e:∀ds,Le (ψ ds) (k9 U 1000 (N.take n).length N.length [0] b ds):=by show λ_=>Le.refl _):TabF l.prog w (KK P) mg base (a8 fns (U.addM i ψ)) (k+1):=T.addM q.1 q.2.1 q.2.2.1 q.2.2.2.1 q.2.2.2.2.1 q.2.2.2.2.2.1 q.2.2.2.2.2.2 e
end
theorem Fx{l:PySem.W.OpenLaw}{w:PB}{P:Params}{h:PD}{mg:Str->Option Pn}{fa:Ps}(X:(KK P).In h)(G:h.Ns PF mg)(hv:mg "law" = Pj (.ref fa)):∃fd:PL,(∀(s:Pt) (v:Pn),BindsTo s fd ⟨[v],[]⟩ [("_law_script",v)])/\∀base:PD,(KK P).In base->base.Ns PF mg->FnOk l.prog w (KK P) mg base iS 34 fa fd ["_law_script"] (l5 (KK P) Iv):=by
 let e:=hv.symm.trans (vX X G (v:=.ref 241) (by kernel_rfl));cases e;let k:=fm (P:=P) "holds_next" mr 162 mG 161;let hn:=k.binds (ps:=["ground","statements","statement"]) λ_ _ _ _ _ _=>HQ (λ_ _ _=>rfl);let I:=fm (P:=P) "bits_by_given" rQ 181 mG 180;let hq:=I.binds (ps:=["ground","statements","given","bits","whole"]) λ_ _ _ _ _ _=>Lz (λ_ _ _ _ _=>rfl);let t:=fm (P:=P) "law" yF 241 mL 240;let hz:=t.binds (ps:=["_law_script"]) λ_ _ _ _ _ _=>KA (λ_=>rfl);let y:=kj (K:=KK P) (x:="put_circuit") (qual:="Ground.put_circuit") (st:=Ia) (f:=99) (show(KK P).lookup 99=Pj (fQ "put_circuit" "Ground.put_circuit" Ia zd 98) by kernel_rfl) (by kernel_rfl) (by kernel_rfl);let ht:=y.binds (ps:=["self","which","circuit"]) λ_ _ _ _ _ _=>HQ (λ_ _ _=>rfl);let m:=kj (K:=KK P) (x:="all_below") (qual:="Ground.all_below") (st:=yG) (f:=106) (show(KK P).lookup 106=Pj (fQ "all_below" "Ground.all_below" yG zd 105) by kernel_rfl) (by kernel_rfl) (by kernel_rfl);let hd:=m.binds (ps:=["self","known","wanted"]) λ_ _ _ _ _ _=>HQ (λ_ _ _=>rfl);let j:=kj (K:=KK P) (x:="reckoned") (qual:="Ground.reckoned") (st:=yH) (f:=111) (show(KK P).lookup 111=Pj (fQ "reckoned" "Ground.reckoned" yH zd 110) by kernel_rfl) (by kernel_rfl) (by kernel_rfl);let hj:=j.binds (ps:=["self","known","wanted","whole"]) λ_ _ _ _ _ _=>Jl (λ_ _ _ _=>rfl);let r:=kj (K:=KK P) (x:="__init__") (qual:="Ground.__init__") (st:=uh) (f:=94) (show(KK P).lookup 94=Pj (fQ "__init__" "Ground.__init__" uh zd 93) by kernel_rfl) (by kernel_rfl) (by kernel_rfl);let Z:=r.binds (ps:=["self","one","other","helpers"]) λ_ _ _ _ _ _=>Jl (λ_ _ _ _=>rfl);show⟨Ni "law" "law" (cb yF) (aC yF) (ab yF) .none .none .none mL Pl (.ref 240) .none,λs v=>.of_eq rfl,λbase _ _=>?_⟩;let o:Cls (KK P) 114:=⟨by kernel_rfl,by kernel_rfl,by kernel_rfl,by kernel_rfl⟩;let hC:M6 (KK P) PF "Ground" = Pj (Pj (.ref 114)):=by kernel_rfl
 let cf:∀c fs C,([("Ground",["gates","begins","afters"])]:List (Str×List Str)).lookup c=Pj fs->M6 (KK P) PF c=Pj (Pj (.ref C))->Cls (KK P) C/\∀a∈fs,NoAttr (KK P) C a:=λc fs C L h=>by
  simp only[Nm] at L;split at L
  ·ext e;let e:=eq_of_beq e;subst e;cases L;cases hC.symm.trans h;show⟨o,λa ha=>by (simp only[Mn,Mv,or_false] at ha;rcases ha with rfl|rfl|rfl<;>(change Nb (KK P) (.ref 114) _=Pj Pl;kernel_rfl))⟩
  ·cases L
 let T0:TabF l.prog w (KK P) mg base (a8 fns U0) 0:=⟨λx B b=>by (have b:(aZ x fns.fns).bind U0.fn=Pj B:=b;cases q:aZ x fns.fns<;>rw[q] at b<;>cases b),cf,λx B b=>by (have b:(aZ x fns.fns).bind (λi=>(U0.fm i).map λB=>λK=>u9 K B)=Pj B:=b;cases q:aZ x fns.fns<;>rw[q] at b<;>cases b),(λx b=>by
  simp only[aA,Mn,Mv,or_false] at b;rcases b with rfl|rfl|rfl|rfl|rfl|rfl|rfl|rfl|rfl|rfl|rfl|rfl|rfl|rfl|rfl|rfl|rfl|rfl|rfl|rfl|rfl
  all_goals show PySem.W.mg_none_of X G (by kernel_rfl)),λx d b=>by
  let b:Nm x fns.cs=Pj d:=b;simp only[fns,Nm] at b;split at b
  ·ext e;let e:=eq_of_beq e;subst e;cases b;show⟨_,.int 3,vX X G (v:=(.int 3 212)) (by kernel_rfl),⟨_,rfl⟩,λH S=>(by unfold Rp;rfl),by decide⟩
  ·split at b
   ·ext e;let e:=eq_of_beq e;subst e;cases b;show⟨_,.int 8,vX X G (v:=(.int 8 336)) (by kernel_rfl),⟨_,rfl⟩,λH S=>(by unfold Rp;rfl),by decide⟩
   ·cases b⟩
 let T1:=aI T0 ψ0 (jJ X G 0 "is_whole" s0 21 20 FX ["thing"] 1 b0);let T2:=aI T1 ψ1 (jJ X G 1 "is_below" s1 28 27 FX ["thing","bound"] 2 b1);let T3:=aI T2 ψ2 (jJ X G 2 "bits_of" s2 33 32 FX ["number","width"] 2 b2);let T4:=aI T3 ψ4 (jJ X G 4 "is_tuple" s4 47 46 Jp ["thing","many"] 2 b4);let T5:=aI T4 ψ5 (jJ X G 5 "places_in" s5 54 53 Jp ["circuit"] 1 b5);let T6:=aI T5 ψ6 (jJ X G 6 "all_trials" s6 61 60 FY ["many"] 1 b6);let T7:=aI T6 ψ7 (jJ X G 7 "column_of" s7 68 67 FY ["k","many","half","column","wide"] 2 b7);let T8:=aI T7 ψ8 (jJ X G 8 "column_told" s8 73 72 FY ["table","columns","whole","found","column"] 3 b8);let T9:=aI T8 ψ9 (jJ X G 9 "is_spot" s9 80 79 zd ["thing","sizes"] 2 b9);let Y:=aI T9 FS (jJ X G 13 "is_statement" s13 138 137 mG ["thing","sizes","below","free","given"] 3 KO);let D:=aI Y Ic (jJ X G 11 "is_paper" LB 128 127 mG ["one","other","thing","helpers","held","claims","ends","sizes","ahead","many"] 3 KN);let he:=D.addHX (z:="Ground.all_below") (C:=114) (i:=32) (ψ:=A7) (nD m Lg D λX O g=>vG X O g) (by kernel_rfl) o ⟨by kernel_rfl,by kernel_rfl,by kernel_rfl⟩ hd (by kernel_rfl) rfl λ_=>Le.refl _;let p:=aI he Ie (jJ X G 14 "hangs_on_no_in" LC 143 142 mG ["ground","statement"] 2 KP);let hm:=p.addHX (z:="Ground.reckoned") (C:=114) (i:=33) (ψ:=v4) (nD j Li p λX O g=>yJ X O g) (by kernel_rfl) o ⟨by kernel_rfl,by kernel_rfl,by kernel_rfl⟩ hj (by kernel_rfl) rfl λ_=>Le.refl _;let hl:=aI hm Ig (jJ X G 15 "holds_first" LD 150 149 mG ["ground","statement","found"] 2 KQ);let hs:=aI hl E3 (jJ X G 19 "bits_by_free" LH 174 173 mG ["statements","free","whole","bits","kept","k","thing","column","spots","spot"] 2 KY);let ho:=hs.addB (i:=20) (ψ:=Ih) I K0 (vX X G (v:=.ref 181) (by kernel_rfl)) hq rfl rfl (λX O g=>vH X O g) λ_=>Le.refl _;let hh:=aI ho FT (jJ X G 18 "trials_by" LG 167 166 mG ["ground","statements","free","given","wanted","whole","bits","kept","known","needed","number","found","first","second"] 5 KW);let hg:=aI hh Ii (jJ X G 16 "holds_now" LF 157 156 mG ["ground","statements","statement","one","other","free","given","trials","found","kept"] 3 KR);let u:=hg.addB (i:=17) (ψ:=Ij) k KU (vX X G (v:=.ref 162) (by kernel_rfl)) hn rfl rfl (λX O g=>yK X O g) λ_=>Le.refl _;let A:om (KK P) 114 "put_circuit" 99:=⟨by kernel_rfl,by kernel_rfl,by kernel_rfl⟩;let hi:=t5 (M:=1000) (n:=60) (an:=an) (pn:=[0]) y Ld u Lc;let F:=u.up;let T:=F.addCX (i:=34) (ψ:=Il) (es:=[]) (r0:=.own [] .fz) (yE r Lk F λX O g hX=>rR hC o A hi ht X O g hX) ⟨by kernel_rfl,by kernel_rfl,by kernel_rfl,by kernel_rfl⟩ o hC (vX X G (v:=.ref 114) (by kernel_rfl)) Z rfl rfl λ_=>Le.refl _;let N:=aI T E8 (jJ X G 10 "looked" LA 123 122 mG ["one","other","paper","helpers","held","claims","ends","ground","statements","wanted"] 3 KM);let hy:=aI N FU (jJ X G 21 "_law_mixed" LI 188 187 mL ["_law_cell","_law_k","_law_number"] 2 K1);let hu:=aI hy Im (jJ X G 22 "_law_state" LJ 193 192 mL ["_law_script","_law_total","_law_cell"] 1 K2);let U:=aM hu Io (jJ X G 23 "_law_take" q8 200 199 mL ["_law_state_here","_law_many","_law_number"] 2 HZ);let hw:=aM U Ip (jJ X G 24 "_law_gates" FF 205 204 mL ["_law_state_here","_law_first","_law_many","_law_gates_here","_law_k","_law_size","_law_table"] 3 FN);let R:=aM hw Iq (jJ X G 25 "_law_circuit" FL 210 209 mL ["_law_state_here","_law_ins","_law_memories","_law_most","_law_outs","_law_many","_law_gates_here","_law_total","_law_kept","_law_ends"] 5 K3);let V:=aI R Ir (jJ X G 26 "_law_paper" LK 215 214 mL ["_law_circuit_here","_law_ins","_law_memories","_law_gates_here","_law_outs","_law_kept","_law_first","_law_claims"] 1 K4);let hf:=aI V FV (jJ X G 27 "_law_case" LL 222 221 mL ["_law_script","_law_state_here","_law_most","_law_ins","_law_circuit_here"] 1 K5);let hr:=aI hf Iu (jJ X G 28 "_law_turned" LM 227 226 mL ["_law_paper_here","_law_claims"] 1 K6);let hb:=aI hr FW (jJ X G 29 "_law_full" LN 234 233 mL ["_law_paper_here","_law_claims","_law_k","_law_one","_law_other","_law_free","_law_given"] 1 K7);show(tZ (n:=60) (an:=an) t La hb K9).imp λvs H Q E s=>nC (λ_=>Le.refl _) s
theorem Lp{l:PySem.W.OpenLaw}{YP:PB->PD->Prop}{d:DefRec}{K:Params->Md}(g:l.most=Pj 63)(c:d.params.defaults=[])(b:∀(w:PB) (h:PD),YP w h->(K w.params).In h)(F:∀(w:PB) (mg:Str->Option Pn) (e:Ps) (h:PD),(K w.params).In h->h.Ns PF mg->mg d.name=Pj (.ref e)->
   ∃fd:PL,(∀(s:Pt) (u:Pn),BindsTo s fd ⟨[u],[]⟩ [("_law_script",u)])/\∀base:PD,(K w.params).In base->base.Ns PF mg->FnOk l.prog w (K w.params) mg base iS 34 e fd ["_law_script"] (l5 (K w.params) Iv)) :
  PySem.W.WalkO q loose XP YP l.row.toRowW d [] (λf m=>PySem.call f m):=
 L2.zN (n:=63) (k:=34) (x:="_law_script") (CX:=λ_=>iS) (sp:=λw=>l5 (K w.params) Iv) g (by decide) c ⟨rfl,by decide,by decide,rfl⟩ b F (λ_ _ a ns i _ j=>EH j (zc ns i)) λ_ _ _ _ _ z=>z
end K42
open PySem PySem.W PyProof.Rows
set_option maxRecDepth 100000 in
set_option maxHeartbeats 0 in
theorem PySem.Challenge.cw_gatepapers_k42_a_circuit_and_itself_holds : PySem.Challenge.rw_gatepapers_k42_a_circuit_and_itself.Holds := by
 show holds_law W0w λsaid=>?_;show holds_open (d:=⟨"law",L2.cb K42.yF,L2.aC K42.yF,L2.ab K42.yF,K42.Fw⟩) (kwd:=[]) (q:=K42.qv) (loose:=K42.lo) (XP:=XL K42.qv []) (YP:=Hook.says K42.HH) K42.left (Hook.of K42.HH) (Hook.keeps K42.HH) (λs e=>xl_of s (OU.mp e).1) XL.keeps (by kernel_rfl) (by kernel_rfl) (by kernel_rfl) (λs e=>recFacts_of (OU.mp e).2) (by kernel_rfl) said (by kernel_rfl) ⟨rfl,rfl,rfl,rfl,rfl,by kernel_rfl⟩ ?hw ?hc
 case hw=>w_witness2
 case hc=>
  show K42.Lp (l:=PySem.Challenge.rw_gatepapers_k42_a_circuit_and_itself) rfl rfl (λw h Yq=>PySem.W.kIn_of Yq) ?F;intro w mg fa h KX G hmg;show K42.Fx KX G hmg
end
