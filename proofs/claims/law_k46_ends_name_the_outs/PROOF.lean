import PyProof.Rows.All
import Wide.All
import OpenK.AllK
import KE.KRevSl
import KE.KDictOf
import KE.KSortTup
import KE.KDictList
import KE.KPairComp
import KE.BitLaws
import PySem.Challenge.RW_gatepapers_k46_ends_name_the_outs
set_option Elab.async false
set_option linter.all false
set_option maxRecDepth 100000
set_option autoImplicit true
set_option relaxedAutoImplicit true
set_option genInjectivity false
set_option genSizeOf false
set_option bootstrap.genMatcherCode false
set_option genSizeOfSpec false
set_option maxHeartbeats 4000000
noncomputable section
open PySem.W renaming Frag->Mu,nsIn->Nk,findIn->Nq,keepIn->Nr,emptyDict->Nt,fnOf->Nu,instObj->ND,kitOne->NX,codeIn->Oh,plainGet->Op,kia_one->Ox,plainGet_of->OA,lookIn->OC,callWith_K->OG,hasDictIn->OM,takerIn->OW,cellsFrom_some->O1,isFn->Pd,plainOver->Pn,handedIn->Pp,makesIn->Pw
open List renaming getElem?_eq_some_iff->Mv,length_map->My,getElem?_map->MA,size_toArray->MB,mem_cons->MD,getElem?_eq_getElem->MF,mem_of_getElem?->MH,mem_append_right->MJ,mem_cons_of_mem->MK,length_append->MN,getElem?_append_left->MP,map_cons->MQ,not_mem_nil->MS,map_append->MU,map_map->MV,nodup_cons->MW,mem_cons_self->MX,mem_singleton->MY,getElem?_append_right->MZ,lookup_cons->M0,mem_append->M5,getElem?_set_ne->M6,append_assoc->M7,length_take->M8,getElem?_set_self->M9,range->Na,replicate->Nc,mem_map->Nd,filterMap_cons->Nf,findIdx?_cons->Ng,length_cons->Nh,drop_eq_getElem_cons->Ni,append_nil->Nj,getElem?_range->No,getElem?_eq_none->Np,take_length->Nx,lookup->Nz,replicate_succ->NB,all_cons->NC,length_eq_zero_iff->NG,all_eq_true->NI,cons_append->NJ,nil_append->NN,find?_cons->NO,getD_eq_getElem?_getD->NQ,getElem?_eq_none_iff->NR,length->NU,mem_range->NV,map_congr_left->NZ,zip_cons_cons->N0,flatten_cons->N2,findIdx?_map->N4,length_range->N5,mem_zipIdx_iff_getElem?->N6,mem_append_left->N7,length_drop->N8,mem_filter->Od,length_set->Oe,take_add_one->Oj,ext_getElem?->Ol,nodup_append->Om,drop_of_length_le->On,map->Oq,length_singleton->Ot,mem_iff_getElem?->Ou,eraseIdxIfInBounds_toArray->Ov,getElem?_zipIdx->Oz,nodup_nil->OD,mem_filterMap->OF,set_cons_succ->OH,any_cons->OL,map_nil->OQ,getElem_mem->OR,drop_length->OS,getElem?_replicate->OU,getElem?_cons_succ->OV,of_mem_zip->OX,length_replicate->O3,drop_zero->O5,getElem?_zipWith->O6,take_append_drop->O7,dropLast_eq_take->O8,concat_eq_append->O9,foldl->Pa,mem_iff_getElem->Pb,length_zipIdx->Pj,any_eq_false->Pm,nodup_range->Pu,zipWith_map->Pv,length_nil->Px,range_succ->Pz
open Bool renaming and_eq_true->Mw,false_ne_true->M4,false_eq_true->Nn,or_eq_true->NE,not_eq_true'->NF,or_eq_false_iff->N9,not_true->Oa,true_and->Oo,and_false->O4,and_eq_true_iff->Pc,eq_iff_iff->Py,true->PD,false->PF
open PySem.Heap renaming get?_push_of_some->Mx,lt_size->MC,get?_push_size->ML,size_push->NW,get?_update_other->N1,get?_update_self->Os,get?_push_ne->Po,size_update->Pt
open Nat renaming le_refl->Mz,lt_of_lt_of_le->MG,ne_of_lt->MM,zero_le->M3,le_trans->Nb,add_sub_cancel_left->Nm,lt_of_le_of_lt->Nw,lt_irrefl->Ny,lt_succ_self->NH,le_succ->NK,ne_of_gt->NL,pow_le_pow_right->NT,le_add_right->NY,lt_succ_of_lt->N3,mod_two_eq_zero_or_one->Ob,le_of_lt->Of,lt_trans->Og,add_le_add_left->OB,add_sub_cancel->OI,add_assoc->OJ,le_of_succ_le->ON,le_succ_of_le->OO,sub_self->OT,two_pow_pos->OZ,min_eq_left->O0,sub_zero->Pf,eq_zero_or_pos->Pg,lt_of_not_le->Pq
open Option renaming bind_some->Nl,isSome_map->Oi,getD_none->OP,map_some->OY,map_eq_some_iff->O2,isSome_some->Pe,some->PB,none->PC
open Int renaming toNat_natCast->NA,natCast_inj->Oy,fdiv_eq_ediv_of_nonneg->OK,zero_add->Ph,natAbs_natCast->Pi,emod_lt_of_pos->Pl
open Array renaming getElem?_toList->NM,getElem?_eq_none_iff->NP,getElem?_eq_getElem->NS,length_toList->Oc,forIn_toList->OE,toList_inj->Ps
open PySem renaming Value->PH,wpAny_bind->PJ,Expr->PK,Addr->PL,Shared->PM,wpAny_pure->PN,wpAny->PP,model->PQ,Program->PR,starEach->PU,Stmt->PV,World->PX,Around->PY,Heap->PZ,mainGlobals->P0,Scope->P1,Operator->P2,cellsFrom->P3,FuncData->P4,assignEach->P5,wpAny_newObj_type->P6,NameKind->P7,wpAny_holding->P8,wpAny_truthy_bool->P9,behindInMarks->Qa,wpAny_call_entry->Qb,wpAny_passesOwn->Qc,CmpOp->Qd,rawInt->Qe,wpAny_pyIter_list->Qf
local macro_rules|`(tactic|let $d:letDecl)=>`(tactic|have $d:letDecl)|`(tactic|show $e)=>`(tactic|refine $e)|`(tactic|nofun)=>`(tactic|decide +kernel)|`(tactic|ext $[$x:ident]*)=>`(tactic|rename_i $[$x:ident]*)
theorem W0w:PySem.Challenge.rw_gatepapers_k46_ends_name_the_outs.wellSaid=true:=by kernel_rfl
namespace PySem
open Sem (wp)
section
variable {prog:PR} {w:PX} {K:Type} [DecidableEq K] (knd:KeyKind prog w K)
inductive Its2 (h:Heap):Nat->List (K ⊕ List K)->List Value->Prop
 |nil {m:Nat}:Its2 h m [] []
 |key {m:Nat} {k:K} {v:PH} {xs:List (K ⊕ List K)} {vs:List PH}:m%2=0->knd.is k v=PD->Its2 h (m / 2) xs vs->Its2 h m (.inl k::xs) (v::vs)
 |tup {m:Nat} {ks:List K} {b:PL} {xs:List (K ⊕ List K)} {vs:List PH}:m%2=1->IsTupleKey knd h ks b->Its2 h (m / 2) xs vs->Its2 h m (.inr ks::xs) (.ref b::vs)
def IsDeep(m:Nat)(h:PZ)(xs:List (K ⊕ List K))(a:PL):Prop:=∃o q n,h.get? a=PB o/\o.cls=.type "tuple"/\o.data=.seq q n/\Its2 knd h m xs q.toList
noncomputable def dc:K ⊕ List K->Int
 |.inl k=>knd.hash k
 |.inr ks=>tupleKeyHash knd ks
noncomputable def cx:K ⊕ List K->Nat
 |.inl _=>1
 |.inr ks=>ks.length+1
def j9(xs:List (K ⊕ List K)):Int:=reduceHash (Builtin.Tuple.tupleHashOf (xs.map (dc knd)))
variable {knd}
theorem Its2.inj(g:Its2 knd h m x vs)(c:Its2 knd h m y vs):x=y:=by
 induction g generalizing y with
 |nil=>cases c;rfl
 |key e d _ a=>
  cases c with
  |key _ f b=>rw[knd.inj _ _ _ d f,a b]
  |tup e2 _ _=>lia
 |tup e d _ a=>
  cases c with
  |key e2 _ _=>lia
  |tup _ f b=>rw[d.inj f,a b]
theorem Its2.keeps(k:∀ks b,IsTupleKey knd h ks b->IsTupleKey knd h' ks b)(d:Its2 knd h m x vs):Its2 knd h' m x vs:=by
 induction d with
 |nil=>show .nil
 |key e c _ a=>show .key e c a
 |tup e c _ a=>show .tup e (k _ _ c) a
theorem IsDeep.ty{s:PM}(x:IsDeep knd m s.heap xs a):s.TypeIs (.ref a) "tuple":=by
 unfold IsDeep at x;rcases x with⟨o,_,_,g,c,_⟩;show⟨o,g,c⟩
theorem IsDeep.one(p:IsDeep knd m h x a)(q:IsDeep knd m h y a):x=y:=by
 unfold IsDeep at p q;rcases p with⟨o,i,n,g,_,d,r⟩;rcases q with⟨j,f,k,e,_,b,c⟩;cases g.symm.trans e;cases d.symm.trans b;show r.inj c
theorem IsDeep.stay{h h':PZ}{o:Obj}{es ep}(x:IsDeep knd m h xs a)(g:h.get? d=PB o)(e:o.data=.dict es ep)(q:Heap.SameBut d h h'):IsDeep knd m h' xs a:=by
 unfold IsDeep at x⊢;rcases x with⟨k,i,n,j,c,f,r⟩;show⟨k,i,n,?_,c,f,r.keeps λl b z=>z.keeps g e q⟩;show(q.2 a λz=>?_).trans j;rw[z,g] at j;cases j;rw[e] at f;cases f
variable {A:PY} {E:PH->PM->Prop} {s:PM}
theorem gP{xs:List (K ⊕ List K)}{Q:Int->PM->Prop}(T:A.units+8<cLine)(hk:IsDeep knd m s.heap xs a)(h:Q (j9 knd xs) { s with toks:=s.toks+((xs.map cx).sum+1) }) :
  PP (PQ prog w) A (pyHash (.ref a)) Q E s:=by
 let B:=hk.ty;let O:=F.slot_tuple_hash.lookup;rcases hk with⟨o,S,n,g,c,d,r⟩
 let t:∀(rest:List PH) (b:Array Int) (z:PM) (v:PH),(∃f left l,xs=f++left/\Its2 knd s.heap l left (v::rest)/\b.toList=f.map (dc knd)/\z={ s with toks:=s.toks+(f.map cx).sum })->
   ∃i k,(∀(A:PY) (R:Int->PM->Prop),A.units<cLine->R i { z with toks:=z.toks+k }->PP (PQ prog w) A (pyHash v) R E z)/\∃f left l,xs=f++left/\Its2 knd s.heap l left rest/\(b.push i).toList=f.map (dc knd)/\{ z with toks:=z.toks+k }={ s with toks:=s.toks+(f.map cx).sum }:=by
  rintro rest b z v ⟨f,left,l,e,I,C,rfl⟩
  cases I with
  |@key _ k _ j _ _ H p=>
   show⟨knd.hash k,1,λA R _ q=>knd.pyHash H q,f++[.inl k],j,l / 2,by simp[e],p,by simp[C,dc],by simp[cx,OJ]⟩
  |@tup _ D _ j _ _ H p=>
   show⟨tupleKeyHash knd D,D.length+1,λA R u q=>wpAny_pyHash_tuple u H q,f++[.inr D],j,l / 2,by simp[e],p,by simp[C,dc],by simp[cx,OJ]⟩
 unfold pyHash
 first|unfold pyHashByItsType|skip
 first|show PJ (wpAny_cRoomFor_or (.inr (by lia)) ?_)|skip
 show PJ (wpAny_specialOf B O ((if_neg (show ¬(PB (Value.builtin "tuple.__hash__")==PB Value.none)=PD by rw[beq_builtin_none];show M4)).symm▸PJ (wpAny_specialOf B O (PJ (wpAny_callSpecialIfBoundUnlessNone?_slot B F.slot_tuple_hash (Qb F.slot_tuple_hash B F.entry_tuple_hash (show PP _ _ (Builtin.Tuple.tupleItemsOf (.ref a) >>= _) _ _ s from PJ (wpAny_tupleItemsOf g d (PJ ?_))) (F.args_tuple_hash_1 _)))))));rw[<- OE];show wpAny_forIn_list _ (λrest (b:Array Int) z=>∃f left l,xs=f++left/\Its2 knd s.heap l left rest/\b.toList=f.map (dc knd)/\z={ s with toks:=s.toks+(f.map cx).sum }) _ (λv rest b z M=>?_) (λb z M=>?_) _ _ ⟨[],xs,m,rfl,r,rfl,rfl⟩
 ·obtain⟨i,k,L,x⟩:=t rest b z v M
  show PJ (L _ _ (by first|lia|(change _+1<_;lia)) (by first|show PN x|show PJ (PN (PN x))))
 ·obtain⟨f,left,l,e,I,C,rfl⟩:=M;cases I;let P:f=xs:=by rw[e,Nj]
  subst P;change PP _ _ (retInt (Builtin.Tuple.tupleHashOf b.toList)) _ _ _;rw[C];show wpAny_ret_mkInt ?_;unfold j9 reduceHash at h;generalize Builtin.Tuple.tupleHashOf (f.map (dc knd))=y at h⊢
  change PP _ _ (if(decide (-(2:Int)^63<=y)&&decide (y<2^63))=PD then _ else _) Q E _
  split
  ·ext N;rw[if_pos N] at h;show PN (by simpa[OJ] using h)
  ·ext N;rw[if_neg N] at h;show PJ (wpAny_rule (PN (by simpa[OJ] using h)))
theorem Its2.two{h:PZ}{us vs:List PH}(p:Its2 knd h m x us)(q:Its2 knd h m y vs)(z:(u,v)::rest=us.zip vs) :
  ∃(i j:K ⊕ List K) (c b:List (K ⊕ List K)) (us2 a:List PH),x=i::c/\y=j::b/\us=u::us2/\vs=v::a/\Its2 knd h (m / 2) c us2/\Its2 knd h (m / 2) b a/\rest=us2.zip a/\
   ∀(A:PY) (E:PH->PM->Prop) (s:PM) (Q:Bool->PM->Prop),s.heap=h->A.units<cLine->Q (decide (i=j)) s->PP (PQ prog w) A (eqBool u v) Q E s:=by
 cases p with
 |nil=>cases z
 |@key _ r B c us2 e l d=>
  cases q with
  |nil=>cases z
  |@key _ o t b a e2 g n=>
   cases z;show⟨_,_,_,_,_,_,rfl,rfl,rfl,rfl,d,n,rfl,λA E s Q f u k=>knd.eqBool l g (by simpa using k)⟩
  |tup e2 _ _=>lia
 |@tup _ r b1 c us2 e l d=>
  cases q with
  |nil=>cases z
  |key e2 _ _=>lia
  |@tup _ o b2 b a e2 g n=>
   cases z;show⟨_,_,_,_,_,_,rfl,rfl,rfl,rfl,d,n,rfl,λA E s Q f u k=>wpAny_eqBool_tuple u (f▸l) (f▸g) (by simpa using k)⟩
theorem Its2.ends{us vs:List PH}(p:Its2 knd h m x us)(q:Its2 knd h m y vs)(z:us.zip vs=[]):(us.length==vs.length)=decide (x=y):=by
 cases p<;>cases q<;>first|rfl|(simp at z;done)|simp
theorem mU{P:Fin->PM->Prop}(hu:A.units+4<cLine)(T:IsDeep knd m s.heap x a)(Q:IsDeep knd m s.heap y b)(h:P (.done (.ret (.bool (decide (x=y))))) s) :
  PP (PQ prog w) A (Builtin.«tuple.__eq__» ⟨[.ref a,.ref b],[]⟩) P E s:=by
 let U:=Q.ty;rcases T with⟨o,N,n,g,c,d,p⟩;rcases Q with⟨o2,I,n2,V,c2,R,q⟩;show(show PP _ _ (isInstance (.ref b) (.type "tuple") >>= _) _ _ s from PJ (wpAny_isInstance U isSubtype_tuple_tuple ?_));simp only[Oa,Nn,if_false];show PJ (wpAny_tupleItemsOf g d (PJ (wpAny_tupleItemsOf V R (PJ ?_))));show wpAny_forIn_list _ (λrest r z=>r.1=PC/\z=s/\∃l t B f k,rest=List.zip f k/\Its2 knd s.heap l t f/\Its2 knd s.heap l B k/\decide (t=B)=decide (x=y)/\(f.length==k.length)=(N.size==I.size))
  _ (λX rest r z H=>?_) (λr z H=>?_) _ _ ⟨rfl,rfl,m,x,y,N.toList,I.toList,rfl,p,q,rfl,by simp⟩
 ·obtain⟨u,v⟩:=X;obtain⟨O,rfl,l,t,B,f,k,e,L,F,C,K⟩:=H;obtain⟨i,j,Z,Y,us2,M,rfl,rfl,rfl,rfl,S,q2,rfl,D⟩:=L.two F e;show PJ (D _ _ _ _ rfl (by lia) ?_)
  cases hk:decide (i=j) with
  |true=>
   let hk:=of_decide_eq_true hk;subst hk;simp only[Oa,Nn,if_false];show PN ⟨rfl,rfl,l / 2,Z,Y,us2,M,rfl,S,q2,C▸by simp,by simpa using K⟩
  |false=>
   let hk:=of_decide_eq_false hk;simp only[Bool.not_false,if_true];let W:decide (x=y)=PF:=C▸by simp[hk]
   show PJ (PN (PN (PN (W▸h))))
 ·obtain⟨r1,r2⟩:=r;obtain⟨O,rfl,l,t,B,f,k,e,L,F,C,K⟩:=H;cases(O);show PN ?_;change P (.done (.ret (.bool (N.size==I.size)))) z;rw[<- K,L.ends F e.symm,C];show h
theorem gQ{Q:Bool->PM->Prop}(k:A.units+8<cLine)(d:IsDeep knd m s.heap x a)(i:IsDeep knd m s.heap y b)(h:Q (decide (x=y)) s) :
  PP (PQ prog w) A (eqBool (.ref a) (.ref b)) Q E s:=by
 unfold eqBool
 try with_reducible show P8 ?_
 show(?_);split
 ·ext f;cases eq_of_beq f;cases d.one i;show PJ (wpAny_rule (PN (by simpa using h)))
 ·let c:=mU (E:=E) (A:=A.in1) (P:=λg j=>∃v,g=Fin.done (Flow.ret v)/\v≠.notImplemented/\PP (PQ prog w) A (truthOfDropped v) Q E j) (by change A.units+1+4<cLine;lia) d i ⟨_,rfl,(λe=>nomatch e),P9 h⟩
  show PJ (wpAny_richCompare_same_room d.ty i.ty F.slot_tuple_eq (Qb F.slot_tuple_eq d.ty F.entry_tuple_eq c (F.args_tuple_eq_2 _ _)) (by lia))
theorem oy{n:Nat}{o:Obj}{b:Array PH}{Q:Bool->PM->Prop}(g:s.heap.get? a=PB o)(c:o.cls=.type "tuple")(d:o.data=.seq b ep)(hi:∀v∈b.toList,∀R:Bool->PM->Prop,R PD s->PP (PQ prog w) A (eqIsQuiet n v) R E s)(q:Q PD s) :
  PP (PQ prog w) A (eqIsQuiet (n+1) (.ref a)) Q E s:=by
 let h:s.TypeIs (.ref a) "tuple":=⟨o,g,c⟩;unfold eqIsQuiet;show PJ (wpAny_specialOf h F.slot_tuple_eq.lookup (PJ (wpAny_isInstance h isSubtype_tuple_tuple ?_)));simp only[Oa,Nn,if_false];show PJ (wpAny_seqItems g d (PJ (?_)));rw[<- OE];show wpAny_forIn_list _ (λrest r z=>r.1=PC/\z=s/\∀v∈rest,v∈b.toList) _ (λv rest r z e=>?_) (λr z e=>?_) _ _ ⟨rfl,rfl,λv j=>j⟩
 ·obtain⟨f,rfl,i⟩:=e;show PJ (hi v (i v MX) _ ?_);simp only[Oa,Nn,if_false];show PN ⟨rfl,rfl,λu k=>i u (MK _ k)⟩
 ·obtain⟨l,m⟩:=r;obtain⟨f,rfl,_⟩:=e;cases(f);show PN q
theorem Its2.items{vs:List PH}(p:Its2 knd h m x vs):∀v∈vs,(∃k,knd.is k v=PD)\/∃ks b,v=.ref b/\IsTupleKey knd h ks b:=by
 induction p with
 |nil=>intro v a;cases a
 |key _ d _ c=>intro v a;show(MD.mp a).elim (λe=>.inl ⟨_,e▸d⟩) (c v)
 |tup _ d _ c=>intro v a;show(MD.mp a).elim (λe=>.inr ⟨_,_,e,d⟩) (c v)
theorem qo{Q:Bool->PM->Prop}(hk:IsDeep knd m s.heap xs a)(h:Q PD s):PP (PQ prog w) A (eqIsQuiet 8 (.ref a)) Q E s:=by
 rcases hk with⟨o,p,n,g,c,d,r⟩;show oy g c d (λv f R q=>?_) h;rcases r.items v f with⟨k,e⟩|⟨x,b,rfl,y,i,z,t,u,j,l⟩
 ·rw[eqIsQuiet_byValue _ (knd.byValue _ _ e)];show PN q
 ·show oy t u j (λv f R q=>?_) q;rw[eqIsQuiet_byValue _ (l.byValue v f)];show PN q
end
def bH{prog:PR}{w:PX}{K:Type}[DecidableEq K](m:Nat)(knd:KeyKind prog w K):HeapKind prog w (List (K ⊕ List K)) where
 is:=IsDeep knd m
 hash:=j9 knd
 draws:=λxs=>(xs.map cx).sum+1
 room:=λA=>A.units+8<cLine
 inj:=λp q=>p.one q
 keeps:=λx g e q=>x.stay g e q
 pyHash:=λB hk h=>gP B hk h
 eqBool:=λB O R h=>gQ B O R h
 quiet:=λhk h=>qo hk h
end PySem
open PySem PySem.Spec
namespace L2
open PyProof.Rows
abbrev aN:=Sum Int Str
noncomputable def lV:aN->PH->Bool
 |.inl k,v=>Value.isInt k v
 |.inr x,v=>Value.isStrOf x v
noncomputable def JB(w:PX):aN->Int
 |.inl k=>hashInt k
 |.inr x=>hashStr w x
theorem bf:∀{k:aN} {v:PH},lV k v=PD->(∃i t,k=Sum.inl i/\v=Value.int i t)\/(∃x t,k=Sum.inr x/\v=Value.str x t)
 |.inl i,v,h=>by
  obtain⟨t,e⟩:=Value.isInt_shape (k:=i) (v:=v) h;show .inl ⟨i,t,rfl,e⟩
 |.inr x,v,h=>by
  obtain⟨t,e⟩:=Value.isStrOf_shape (x:=x) (v:=v) h;show .inr ⟨x,t,rfl,e⟩
theorem uW(i:Int)(t:Tok):lV (.inl i) (.int i t)=PD:=by simp[lV,Value.isInt]
theorem uX(x:Str)(t:Tok):lV (.inr x) (.str x t)=PD:=by simp[lV,Value.isStrOf]
theorem C5(a b:Int):decide ((Sum.inl a:aN)=Sum.inl b)=(a==b):=by
 by_cases e:a=b
 ·subst e;simp
 ·let h:¬(Sum.inl a:aN)=Sum.inl b:=λq=>e (Sum.inl.inj q);rw[decide_eq_false h];show(beq_eq_false_iff_ne.mpr e).symm
theorem C6(a b:Str):decide ((Sum.inr a:aN)=Sum.inr b)=decide (a=b):=by
 by_cases e:a=b
 ·subst e;simp
 ·let h:¬(Sum.inr a:aN)=Sum.inr b:=λq=>e (Sum.inr.inj q);rw[decide_eq_false h,decide_eq_false e]
theorem C7(a:Int)(b:Str):decide ((Sum.inl a:aN)=Sum.inr b)=PF:=decide_eq_false (λq=>nomatch q)
theorem C8(a:Str)(b:Int):decide ((Sum.inr a:aN)=Sum.inl b)=PF:=decide_eq_false (λq=>nomatch q)
def aK(prog:PR)(w:PX):PySem.KeyKind prog w aN where
 is:=lV
 hash:=JB w
 inj:=λv a b R B=>by
  rcases bf R with⟨i,t,rfl,rfl⟩|⟨x,t,rfl,rfl⟩
  ·rcases bf B with⟨j,u,rfl,e⟩|⟨y,u,rfl,e⟩
   ·injection e with e1 _;rw[e1]
   ·show nomatch e
  ·rcases bf B with⟨j,u,rfl,e⟩|⟨y,u,rfl,e⟩
   ·show nomatch e
   ·injection e with e1 _;rw[e1]
 byValue:=λk v h=>by
  rcases bf h with⟨i,t,rfl,rfl⟩|⟨x,t,rfl,rfl⟩<;>rfl
 pyHash:=λq h=>by
  rcases bf q with⟨i,t,rfl,rfl⟩|⟨x,t,rfl,rfl⟩
  ·show wpAny_pyHash_int h
  ·show wpAny_pyHash_str h
 eqBool:=λO q h=>by
  rcases bf O with⟨i,t,rfl,rfl⟩|⟨x,t,rfl,rfl⟩
  ·rcases bf q with⟨j,u,rfl,rfl⟩|⟨y,u,rfl,rfl⟩
   ·rw[C5] at h;show wpAny_eqBool_int h
   ·rw[C7] at h;show SeqAt.EqAt.int_str i t y u _ _ _ _ h
  ·rcases bf q with⟨j,u,rfl,rfl⟩|⟨y,u,rfl,rfl⟩
   ·rw[C8] at h;show SeqAt.EqAt.str_int x t j u _ _ _ _ h
   ·rw[C6] at h;show wpAny_eqBool_str h
 «strs»:=λk x t v h=>by
  rcases bf h with⟨i,u,rfl,e⟩|⟨y,u,rfl,e⟩
  ·show nomatch e
  ·injection e with e1 _;subst e1
   cases v<;>rfl
theorem oz(prog:PR)(w:PX)(i:Int)(t:Tok):(aK prog w).is (.inl i) (.int i t)=PD:=uW i t
theorem oA(prog:PR)(w:PX)(x:Str)(t:Tok):(aK prog w).is (.inr x) (.str x t)=PD:=uX x t
inductive V where
 |non|bl (b:Bool)|int (i:Int)|str (x:Str)|byt (b:Array UInt8)|flt (b:UInt64)|ref (a:PL)|ty (n:String)
 deriving DecidableEq
def RelV:V->PH->Prop
 |.non,u=>u=Value.none
 |.bl b,u=>u=Value.bool b
 |.int i,u=>∃t,u=Value.int i t
 |.str x,u=>∃t,u=Value.str x t
 |.byt b,u=>∃t,u=Value.bytes b t
 |.flt b,u=>∃t,u=Value.float b t
 |.ref a,u=>u=Value.ref a
 |.ty n,u=>u=Value.type n
abbrev Vals:List V->List PH->Prop:=Paired RelV
theorem Vals.length{xs:List V}{us:List PH}(r:Vals xs us):xs.length=us.length:=Paired.length r
theorem Vals.get:∀{xs:List V} {us:List PH} {i:Nat} {x:V},Vals xs us->xs[i]?=PB x->∃u,us[i]?=PB u/\RelV x u
 |_,_,_,_,.nil,e=>by simp at e
 |_,_,0,_,.cons r _,e=>by simp at e;subst e;show⟨_,rfl,r⟩
 |_,_,i+1,x,.cons _ t,e=>by
  obtain⟨u,a,b⟩:=Vals.get (i:=i) (x:=x) t (by simpa using e);show⟨u,by simpa using a,b⟩
theorem Vals.set(r:RelV x u):∀{xs:List V} {us:List PH} (i:Nat),Vals xs us->Vals (xs.set i x) (us.set i u)
 |_,_,_,.nil=>.nil
 |_,_,0,.cons _ t=>.cons r t
 |_,_,i+1,.cons q t=>.cons q (Vals.set r i t)
theorem Vals.append:∀{xs ys:List V} {us a:List PH},Vals xs us->Vals ys a->Vals (xs++ys) (us++a)
 |_,_,_,_,.nil,s=>s
 |_,_,_,_,.cons r t,s=>.cons r (Vals.append t s)
theorem Vals.take:∀{xs:List V} {us:List PH} (n:Nat),Vals xs us->Vals (xs.take n) (us.take n)
 |_,_,0,_=>.nil
 |_,_,_+1,.nil=>.nil
 |_,_,n+1,.cons r t=>.cons r (Vals.take n t)
theorem Vals.drop:∀{xs:List V} {us:List PH} (n:Nat),Vals xs us->Vals (xs.drop n) (us.drop n)
 |_,_,0,r=>r
 |_,_,_+1,.nil=>.nil
 |_,_,n+1,.cons _ t=>Vals.drop n t
theorem Vals.none_of:∀{xs:List V} {us:List PH} {i:Nat},Vals xs us->xs[i]?=PC->us[i]?=PC:=λ{xs us i} r e=>by
 let a:=r.length;let b:xs.length<=i:=NR.mp e;show NR.mpr (by lia)
def RelO:Option V->Option PH->Prop
 |some v,PB u=>RelV v u
 |none,PC=>True
 |_,_=>False
def KV{κ:Type}:List (κ×V)->List (κ×PH)->Prop:=Paired λ(p:κ×V) (q:κ×PH)=>p.1=q.1/\RelV p.2 q.2
noncomputable def kV:aN->V
 |.inl i=>.int i
 |.inr x=>.str x
inductive HO where
 |lst (xs:List V)
 |tup (xs:List V)
 |dK (kvs:List (aN×V))|dT (m ep:Nat) (kvs:List (List (aN ⊕ List aN)×V))
 |ins (C dx:PL) (fs:List (Str×V))
 |own (x:PL)
 |frz (o:Obj) (u:HO)
 |tbl (ps:Array PH)
 |ext (B:PZ->Prop)
abbrev Hp:=PL->Option HO
noncomputable def upd(H:Hp)(a:PL)(o:HO):Hp:=λb=>if b=a then PB o else H b
theorem ak:upd H a o a=PB o:=by unfold upd;rw[if_pos rfl]
theorem ag{H:Hp}(h:b≠a):upd H a o b=H b:=by unfold upd;rw[if_neg h]
theorem BV{H:Hp}{a b:PL}{o u:HO}(h:H a=PB o)(h':H b=PB u)(d:o≠u):a≠b:=by
 intro e;subst e;rw[h] at h';show d (Option.some.inj h')
theorem aE{H:Hp}{a b:PL}{o:HO}(h:H a=PB o)(h':H b=PC):a≠b:=by
 intro e;subst e;rw[h] at h';cases h'
def TkIts(H:Hp):Nat->List (aN ⊕ List aN)->List V->Prop
 |_,[],vs=>vs=[]
 |m,.inl k::xs,vs=>∃r,vs=kV k::r/\m%2=0/\TkIts H (m / 2) xs r
 |m,.inr ks::xs,vs=>∃b r,vs=.ref b::r/\m%2=1/\H b=PB (.tup (ks.map kV))/\TkIts H (m / 2) xs r
def TkAt(H:Hp)(m:Nat)(ks:List (aN ⊕ List aN))(b:PL):Prop:=∃vs,H b=PB (.tup vs)/\TkIts H m ks vs
theorem TkIts.keep{H H':Hp}(a:∀b xs,H b=PB (.tup xs)->H' b=PB (.tup xs)):∀{m:Nat} {ks:List (aN ⊕ List aN)} {vs:List V},TkIts H m ks vs->TkIts H' m ks vs
 |_,[],_,h=>h
 |m,.inl k::xs,vs,h=>by obtain⟨r,e,z,t⟩:=h;show⟨r,e,z,t.keep a⟩
 |m,.inr ks::xs,vs,h=>by obtain⟨b,r,e,z,g,t⟩:=h;show⟨b,r,e,z,a _ _ g,t.keep a⟩
theorem TkAt.keep{H H':Hp}{b:PL}(x:TkAt H m ks b)(a:∀b xs,H b=PB (.tup xs)->H' b=PB (.tup xs)):TkAt H' m ks b:=by
 obtain⟨c,g,r⟩:=x;show⟨c,a _ _ g,r.keep a⟩
section
variable (P:PR) (w:PX)
def ObjOk(H:Hp)(h:PZ)(a:PL):HO->Prop
 |.lst xs=>xs.length<=sizeLine/\∃(O:List PH) (n:Nat),Vals xs O/\h.get? a=PB { cls:=.type "list",data:=.seq O.toArray n }
 |.tup xs=>xs.length<=sizeLine/\∃O:List PH,Vals xs O/\IsTup h a O.toArray
 |.dK kvs=>kvs.length<=sizeLine/\(a==sysModules)=PF/\∃vs,KV kvs vs/\h.DictOf (aK P w) a vs
 |.dT m ep kvs=>kvs.length<=sizeLine/\(a==sysModules)=PF/\∃xs:List (List (aN ⊕ List aN)×PL×PH),
   Paired (λ(p:List (aN ⊕ List aN)×V) (q:List (aN ⊕ List aN)×PL×PH)=>p.1=q.1/\TkAt H m p.1 q.2.1/\RelV p.2 q.2.2) kvs xs/\
   ∃o es,h.get? a=PB o/\o.ExactDict/\o.data=.dict es ep/\es.toList=xs.map (entryOfKey (bH m (aK P w)))/\(xs.map (·.1)).Nodup
 |.ins C dx fs=>H dx=PB (.own a)/\fs.length<=1000/\dx≠a/\h.get? a=PB (ND C dx)/\
   ∃mA,h.Ns1 dx mA/\(∀f,RelO (fs.lookup f) (mA f))/\PySem.Within mA (fs.map (·.1))
 |.own _=>∃o,h.get? a=PB o
 |.frz o u=>h.get? a=PB o/\ObjOk H h a u
 |.tbl ps=>h.get? a=PB { cls:=.none,data:=.fields ps }
 |.ext B=>B h/\(∃o,h.get? a=PB o)/\∀h1 h2:PZ,B h1->(∀o,h1.get? a=PB o->h2.get? a=PB o)->B h2
def HOk(H:Hp)(h:PZ):Prop:=∀a o,H a=PB o->ObjOk P w H h a o
end
section
variable {P:PR} {w:PX} {H H':Hp} {h h':PZ} {a:PL} {o:HO}
theorem ObjOk.lt(x:ObjOk P w H h a o):a<h.objs.size:=by
 cases o with
 |lst c=>obtain⟨_,_,_,_,e⟩:=x;show MC e
 |tup c=>obtain⟨_,_,_,p⟩:=x;show p.lt
 |dK b=>obtain⟨_,_,_,_,o,_,_,e,_⟩:=x;show MC e
 |dT m f b=>obtain⟨_,_,_,_,o,_,e,_⟩:=x;show MC e
 |ins C i g=>obtain⟨_,_,_,e,_⟩:=x;show MC e
 |own y=>obtain⟨_,e⟩:=x;show MC e
 |frz d u=>obtain⟨e,_⟩:=x;show MC e
 |tbl j=>show MC (show h.get? a=PB _ from x)
 |ext B=>obtain⟨_,⟨_,e⟩,_⟩:=x;show MC e
theorem Paired.mapP{α β:Type}{F G:α->β->Prop}:∀{l₁:List α} {l₂:List β},Paired F l₁ l₂->(∀a b,F a b->G a b)->Paired G l₁ l₂
 |_,_,.nil,_=>.nil
 |_,_,.cons r t,f=>.cons (f _ _ r) (Paired.mapP t f)
theorem ObjOk.stay(x:ObjOk P w H h a o)(k:∀b u,(b=a\/H b=PB (.own a))->h.get? b=PB u->h'.get? b=PB u)
  (ho:∀b,H b=PB (.own a)->H' b=PB (.own a)) (ht:∀b i,H b=PB (.tup i)->H' b=PB (.tup i)):ObjOk P w H' h' a o:=by
 induction o with
 |lst i=>obtain⟨z,g,n,r,e⟩:=x;show⟨z,g,n,r,k _ _ (.inl rfl) e⟩
 |tup i=>obtain⟨z,g,r,f,e,c⟩:=x;show⟨z,g,r,f,k _ _ (.inl rfl) e,c⟩
 |dK s=>obtain⟨z,y,F,r,f,j,l,e,c⟩:=x;show⟨z,y,F,r,f,j,l,k _ _ (.inl rfl) e,c⟩
 |dT m l s=>
  obtain⟨z,y,i,r,f,j,e,c⟩:=x;show⟨z,y,i,Paired.mapP r λp q z=>⟨z.1,z.2.1.keep ht,z.2.2⟩,f,j,k _ _ (.inl rfl) e,c⟩
 |ins C L K=>
  obtain⟨d,z,E,e,A,⟨I,j,l,e2,c⟩,r⟩:=x;show⟨ho _ d,z,E,k _ _ (.inl rfl) e,A,⟨I,j,l,k _ _ (.inr d) e2,c⟩,r⟩
 |own y=>obtain⟨f,e⟩:=x;show⟨f,k _ _ (.inl rfl) e⟩
 |frz f u D=>obtain⟨e,q⟩:=x;show⟨k _ _ (.inl rfl) e,D q⟩
 |tbl v=>
  let e:h.get? a=PB { cls:=.none,data:=.fields v }:=x;change h'.get? a=PB { cls:=.none,data:=.fields v };show k a _ (.inl rfl) e
 |ext B=>obtain⟨p,⟨o,e⟩,t⟩:=x;show⟨t _ _ p λo q=>k _ _ (.inl rfl) q,⟨o,k _ _ (.inl rfl) e⟩,t⟩
theorem HOk.lt(x:HOk P w H h)(e:H a=PB o):a<h.objs.size:=(x a o e).lt
theorem HOk.fresh(x:HOk P w H h)(e:h.objs.size<=a):H a=PC:=by
 cases q:H a with
 |none=>rfl
 |some u=>show absurd (MG (x.lt q) e) (Ny _)
theorem HOk.kept(x:HOk P w H h)(k:∀b u,h.get? b=PB u->h'.get? b=PB u):HOk P w H h':=λa o e=>
 (x a o e).stay (λb u _ q=>k b u q) (λ_ q=>q) λ_ _ q=>q
theorem HOk.laid(x:HOk P w H h)(k:∀b u,h.get? b=PB u->h'.get? b=PB u)(i:h.objs.size<=a)(d:ObjOk P w (upd H a o) h' a o):HOk P w (upd H a o) h':=λb u e=>by
 let g:=x.fresh i;by_cases f:b=a
 ·subst f;rw[ak] at e;cases e;show d
 ·rw[ag f] at e;show(x b u e).stay (λc v _ q=>k c v q) (λc q=>by rw[ag (aE q g)];show q) λc j q=>by rw[ag (aE q g)];show q
end
def Rd(H:Hp)(a:PL)(u:HO):Prop:=H a=PB u\/∃o,H a=PB (.frz o u)
theorem Rd.ok(r:Rd H a u)(x:HOk P w H h):ObjOk P w H h a u:=by
 rcases r with r|⟨o,r⟩
 ·show x a u r
 ·obtain⟨_,q⟩:=x a _ r;show q
def Gr:Option HO->Prop
 |some (.lst _)=>True
 |some (.dK _)=>True
 |some (.dT _ _ _)=>True
 |some (.ins _ _ _)=>True
 |some (.ext _)=>True
 |_=>False
section
variable {P:PR} {w:PX} {H:Hp} {h h':PZ} {x e:PL} {o':HO}
theorem HOk.write(s:HOk P w H h)(j:Gr (H x))(n:e=x\/H e=PB (.own x))(k:∀b u,b≠e->h.get? b=PB u->h'.get? b=PB u)(m:∃u,h'.get? e=PB u)
  (new:ObjOk P w (upd H x o') h' x o'):HOk P w (upd H x o') h':=λb u q=>by
 let d:∀c y,H c=PB (.own y)->c≠x:=λc y r z=>by subst z;rw[r] at j;show j
 let f:∀c i,H c=PB (.tup i)->c≠x:=λc i r z=>by subst z;rw[r] at j;show j
 by_cases g:b=x
 ·subst g;rw[ak] at q;cases q;show new
 ·rw[ag g] at q;by_cases a:b=e
  ·let o:H b=PB (.own x):=by
    rcases n with z|z
    ·show absurd (a.trans z) g
    ·rw[a];show z
   rw[q] at o;cases o;obtain⟨v,p⟩:=m;show⟨v,by rw[a];show p⟩
  ·show(s b u q).stay (λc v l r=>k c v ?_ r) (λc r=>by rw[ag (d c b r)];show r) λc i r=>by rw[ag (f c i r)];show r
   rcases l with rfl|l
   ·show a
   ·rintro rfl
    rcases n with z|z
    ·show d c b l z
    ·rw[l] at z;cases z;show g rfl
end
structure Un(fs ex:List Addr)(H H':Hp)(h h':Heap):Prop where
 keep:∀b o,h.get? b=PB o->H b=PC->b∉fs->b∉ex->h'.get? b=PB o
 slot:∀b o,h.get? b=PB o->H b=PC->b∈fs->b∉ex->∃sl,h'.get? b=PB { o with slots:=sl }
 free:∀b o,h.get? b=PB o->H b=PC->b∉ex->H' b=PC
 there:∀b o,h.get? b=PB o->b∉ex->∃o',h'.get? b=PB o'
 tups:∀b xs,H b=PB (.tup xs)->H' b=PB (.tup xs)
 frzs:∀b o u,H b=PB (.frz o u)->H' b=PB (.frz o u)
 tbls:∀b ps,H b=PB (.tbl ps)->∃more,H' b=PB (.tbl (ps++more))
section
variable {fs fs' ex ex':List PL} {H H1 H2:Hp} {h h1 h2 h':PZ} {a x e:PL} {o:HO}
theorem Un.any(u:Un fs ex H H1 h h1)(q:h.get? b=PB ob)(n:H b=PC)(c:b∉ex):∃d,h1.get? b=PB { ob with slots:=d }:=by
 by_cases a:b∈fs
 ·show u.slot b ob q n a c
 ·show⟨ob.slots,u.keep b ob q n a c⟩
theorem Un.kept(k:∀b u,h.get? b=PB u->h'.get? b=PB u):Un fs ex H H h h':=
 ⟨λb a q _ _ _=>k b a q,λb a q _ _ _=>⟨a.slots,k b a q⟩,λ_ _ _ n _=>n,λb a q _=>⟨a,k b a q⟩,λ_ _ q=>q,λ_ _ _ q=>q,λ_ c q=>⟨#[],by rw[q];simp⟩⟩
theorem Un.refl:Un fs ex H H h h:=Un.kept λ_ _ q=>q
theorem Un.laid(k:∀b u,h.get? b=PB u->h'.get? b=PB u)(e:h.objs.size<=a)(c:H a=PC):Un fs ex H (upd H a o) h h' where
 keep:=λb u q _ _ _=>k b u q
 slot:=λb u q _ _ _=>⟨u.slots,k b u q⟩
 free:=λb u q n _=>by rw[ag (MM (MG (MC q) e))];show n
 there:=λb u q _=>⟨u,k b u q⟩
 tups:=λb d q=>by rw[ag (aE q c)];show q
 frzs:=λb u d q=>by rw[ag (aE q c)];show q
 tbls:=λb f q=>⟨#[],by rw[ag (aE q c),q];simp⟩
theorem Un.write(c:Gr (H x))(j:e=x\/H e=PB (.own x))(k:∀b u,b≠e->h.get? b=PB u->h'.get? b=PB u)(f:∃u,h'.get? e=PB u):Un fs ex H (upd H x o) h h':=by
 let i:∀b,H b=PC->b≠x:=λb n z=>by subst z;rw[n] at c;show c
 let g:∀b,H b=PC->b≠e:=λb n z=>by
  subst z;rcases j with r|r
  ·show i b n r
  ·rw[n] at r;cases r
 let d:∀b u,H b=PB u->¬Gr (PB u)->b≠x:=λb u q m z=>by subst z;rw[q] at c;show m c
 show⟨λb u q n _ _=>k b u (g b n) q,λb u q n _ _=>⟨u.slots,k b u (g b n) q⟩,λb u q n _=>by rw[ag (i b n)];show n,λb u q _=>?_,
  λb l q=>by rw[ag (d b _ q λz=>z)];show q,λb u l q=>by rw[ag (d b _ q λz=>z)];show q,λb p q=>⟨#[],by rw[ag (d b _ q λz=>z),q];simp⟩⟩
 by_cases a:b=e
 ·subst a;show f
 ·show⟨u,k b u a q⟩
end
noncomputable def Ji(h:PZ)(H:Hp):List PL:=(Na h.objs.size).filter λa=>(H a).isSome
def mV(h:PZ)(H:Hp):PZ:=PySem.W.hideAll h (Ji h H)
theorem uY(h:PZ)(H:Hp):(mV h H).objs.size=h.objs.size:=PySem.W.hideAll_size _ _
theorem wq{h:PZ}{H:Hp}(e:h.get? b=PB o)(n:H b=PC):(mV h H).get? b=PB o:=
 PySem.W.hideAll_get _ e λa=>by
  let q:(H b).isSome=PD:=(Od.mp a).2;rw[n] at q;simp at q
theorem zI{h:PZ}{H:Hp}(e:(mV h H).get? b=PB o):h.get? b=PB o/\H b=PC:=by
 let a:h.get? b=PB o:=PySem.W.of_hideAll (Ji h H) e;show⟨a,?_⟩
 cases q:H b with
 |none=>rfl
 |some x=>
  let c:b∈Ji h H:=Od.mpr ⟨NV.mpr (MC a),by simp[q]⟩;let z:(mV h H).get? b=PC:=PySem.W.hideAll_none (Ji h H) c;rw[z] at e;cases e
def zJ(g h:PZ)(L:PL):List (PL×Obj):=(Na h.objs.size).filterMap λa=>if a=L\/(g.get? a).isSome=PD then PC else(h.get? a).map λo=>(a,o)
def rest(g h:PZ)(L d:PL):List (PL×Obj):=(zJ g h L).filter λp=>decide (p.1≠d)
structure Mod(K:Mu)(mg:Str->Option Value)(base:Heap):Prop where
 kin:K.In base
 glob:base.Ns P0 mg
 blt:∃mb,base.Ns builtinsNs mb/\∀x:Str,x≠"__name__"->mb x=bootBuiltins x
 nolimit:base.NoLimit
structure Cx where
 prog:PR
 w:PX
 K:Mu
 mg:Str->Option PH
 base:PZ
 A:PY
 N:List Str
 s₀:PM
 H₀:Hp
 env:Env
 outer:List Env
 stack:List Env
 ex:List PL
 fn:Str->Bool
 calm:Bool
 pn:List (PL×Obj)
 xe:PH->PM->Prop
noncomputable def we(l:List Env):List PL:=l.filterMap (·.frame)
abbrev Cx.fs(X:Cx):List PL:=we X.outer
def Gs(q:P1)(x:Str):Prop:=q.names.lookup x=PB .local\/q.names.lookup x=PB .cell\/q.names.lookup x=PB .free
def BW(q:P1)(x:Str):Prop:=q.names.lookup x=PB .local\/q.names.lookup x=PB .cell
def JC(env:Env)(h:PZ)(m:Str->Option PH)(x:Str)(u:PH):Prop:=
 (env.kindOf x=PB .local/\m x=PB u)\/((env.kindOf x=PB .cell\/env.kindOf x=PB .free)/\∃c,env.cells.lookup x=PB c/\h.IsCell c (PB u))
structure Cx.Ok(X:Cx):Prop where
 mod:Mod X.K X.mg X.base
 kind:X.env.scope.kind=.function
 glob:X.env.globals=P0
 blt:X.env.builtins=builtinsNs
 above:X.s₀.heap.objs.size<=X.env.locals
 inj:∀x y c,X.env.cells.lookup x=PB c->X.env.cells.lookup y=PB c->x=y
 has:∀x,(X.env.kindOf x=PB .cell\/X.env.kindOf x=PB .free)->∃c,X.env.cells.lookup x=PB c
 cab:∀x c,X.fn x=PD->X.env.cells.lookup x=PB c->X.s₀.heap.objs.size<=c
 hd:X.calm=PD->X.A.handled=PC
 frames:X.A.frames=PB X.stack
 stk:X.stack=X.outer\/(X.stack=X.env::X.outer/\X.env.frame=PB X.env.locals)
 exf:∀b∈X.ex,b≠X.env.locals/\∀x c,X.env.cells.lookup x=PB c->c≠b
 bs:∀b o,X.base.get? b=PB o->X.s₀.heap.get? b=PB o/\X.H₀ b=PC
 bsz:X.base.objs.size<=X.s₀.heap.objs.size
 noex:∀b o,X.base.get? b=PB o->b∉X.ex
 exfs:∀b∈X.ex,b∉X.fs
 funs:X.s₀.heap.FunFrames X.base X.outer
 frf:∀b∈X.fs,X.H₀ b=PC
structure Inv(X:Cx)(pins:List (Addr×Obj))(Y:List (Option V))(H:Hp)(s:Shared):Prop where
 ok:X.Ok
 os:s.os=X.s₀.os
 bare:AllBare s.gens
 base:Un X.fs X.ex X.H₀ H X.s₀.heap s.heap
 loc:∃m,s.heap.Ns X.env.locals m/\∀(i:Nat) (x:Str) (v:V),X.N[i]?=PB x->Y[i]?=PB (PB v)->Gs X.env.scope x->∃u,RelV v u/\JC X.env s.heap m x u
 cell:∀x c,X.env.cells.lookup x=PB c->∃v,s.heap.IsCell c v
 free:H X.env.locals=PC
 freeC:∀x c,X.env.cells.lookup x=PB c->H c=PC
 pin:∀p∈X.pn++pins,s.heap.get? p.1=PB p.2/\H p.1=PC/\p.1≠X.env.locals/\p.1∉X.fs/\∀v,p.2.data≠.cell v
 hok:HOk X.prog X.w H s.heap
 len:Y.length=X.N.length
section
variable {X:Cx} {pins:List (PL×Obj)} {Y:List (Option V)} {H H':Hp} {s:PM} {h':PZ}
theorem Cx.Ok.nofr(c:X.Ok)(e:X.base.get? b=PB o):b∉X.fs:=λa=>by
 have:=(c.funs.mem a).1;rw[e] at this;cases this
theorem Inv.bs(I:Inv X pins Y H s):∀b o,X.base.get? b=PB o->s.heap.get? b=PB o/\H b=PC:=λb o e=>
 ⟨I.base.keep b o (I.ok.bs b o e).1 (I.ok.bs b o e).2 (I.ok.nofr e) (I.ok.noex b o e),I.base.free b o (I.ok.bs b o e).1 (I.ok.bs b o e).2 (I.ok.noex b o e)⟩
theorem Inv.bk(I:Inv X pins Y H s):∀b o,X.base.get? b=PB o->s.heap.get? b=PB o:=λb o e=>(I.bs b o e).1
theorem Inv.mod(I:Inv X pins Y H s):Mod X.K X.mg X.base:=I.ok.mod
theorem Inv.kIn(I:Inv X pins Y H s):X.K.In s.heap:=I.ok.mod.kin.keeps I.bk
theorem Inv.lt(I:Inv X pins Y H s):X.env.locals<s.heap.objs.size:=let ⟨_,hn,_⟩:=I.loc;hn.lt
theorem Inv.sz(I:Inv X pins Y H s):X.s₀.heap.objs.size<=s.heap.objs.size:=Nb I.ok.above (Of I.lt)
theorem Inv.nofs(I:Inv X pins Y H s)(h:s.heap.objs.size<=a):a∉X.fs:=λb=>by
 obtain⟨_,o,c,_⟩:=I.ok.funs.mem b;show absurd (MG (MC c) (Nb I.sz h)) (Ny _)
theorem Inv.cne(I:Inv X pins Y H s):∀x c,X.env.cells.lookup x=PB c->c≠X.env.locals:=λx c e z=>by
 obtain⟨v,o,f,d⟩:=I.cell x c e;obtain⟨m,⟨g,i,h,b,a,_⟩,_⟩:=I.loc;rw[z,b] at f;cases f;rw[a] at d;cases d
theorem Inv.funs(I:Inv X pins Y H s):s.heap.FunFrames X.base X.outer:=by
 let c:∀(l:List Env),(∀b∈we l,b∈X.fs)->X.s₀.heap.FunFrames X.base l->s.heap.FunFrames X.base l:=by
  intro l
  induction l with
  |nil=>intro _ _;trivial
  |cons p r h=>
   intro g k;obtain⟨hk,⟨L,o,f,j,n,m⟩,i⟩:=k;let d:L∈X.fs:=g L (by unfold we;rw[Nf,f];show MX);obtain⟨q,e⟩:=I.base.slot L o n (I.ok.frf L d) d λz=>I.ok.exfs L z d;show⟨hk,⟨L,_,f,j,e,m⟩,h (λb a=>g b (by unfold we;rw[Nf,f];show MK _ a)) i⟩
 show c X.outer (λ_ a=>a) I.ok.funs
theorem Inv.stack(I:Inv X pins Y H s):s.heap.FunFrames X.base X.stack:=by
 rcases I.ok.stk with e|⟨e,b⟩
 ·rw[e];show I.funs
 ·rw[e];obtain⟨m,a,_⟩:=I.loc;show .cons (by rw[I.ok.kind];decide) b a ?_ I.funs;show Heap.get?_none_of_le (Nb I.ok.bsz I.ok.above)
theorem Inv.stkSub(I:Inv X pins Y H s):∀b∈we X.stack,b∈X.env.locals::X.fs:=λb a=>by
 rcases I.ok.stk with e|⟨e,c⟩
 ·rw[e] at a;show MK _ a
 ·rw[e] at a;unfold we at a;rw[Nf,c] at a;show a
theorem Inv.stkFree(I:Inv X pins Y H s):∀b∈we X.stack,H b=PC:=λb a=>by
 rcases MD.mp (I.stkSub b a) with e|a
 ·rw[e];show I.free
 ·obtain⟨_,o,c,_⟩:=I.ok.funs.mem a;show I.base.free b o c (I.ok.frf b a) λz=>I.ok.exfs b z a
theorem Inv.step{t':Nat}{ch:List PL}(I:Inv X pins Y H s)(h:∀b∈ch,(b∈X.ex\/X.s₀.heap.objs.size<=b)/\b≠X.env.locals/\(∀x c,X.env.cells.lookup x=PB c->c≠b)/\∀p∈X.pn++pins,p.1≠b)(j:∀b o,b≠X.env.locals->b∉X.fs->b∉ch->s.heap.get? b=PB o->H b=PC->h'.get? b=PB o)(A:∀b o,b≠X.env.locals->b∈X.fs->b∉ch->s.heap.get? b=PB o->H b=PC->∃Q,h'.get? b=PB { o with slots:=Q })(f:∀b o,b∉ch->s.heap.get? b=PB o->H b=PC->H' b=PC)(C:∀b o,b∉ch->s.heap.get? b=PB o->∃o',h'.get? b=PB o')(L:∀b xs,H b=PB (.tup xs)->H' b=PB (.tup xs))(K:∀b o u,H b=PB (.frz o u)->H' b=PB (.frz o u))(F:∀b ps,H b=PB (.tbl ps)->∃E,H' b=PB (.tbl (ps++E)))(ns:∀m,s.heap.Ns X.env.locals m->h'.Ns X.env.locals m)(O:HOk X.prog X.w H' h')(V:AllBare g') :
  Inv X pins Y H' { s with heap:=h',gens:=g',drawn:=d',toks:=t' }:=by
 let M:∀b o,X.s₀.heap.get? b=PB o->b≠X.env.locals:=λb o e=>MM (MG (MC e) I.ok.above)
 let y:∀b o,X.s₀.heap.get? b=PB o->b∉X.ex->b∉ch:=λb o e a B=>by
  rcases(h b B).1 with z|z
  ·show a z
  ·show absurd (MG (MC e) z) (Ny _)
 let g:∀x c,X.env.cells.lookup x=PB c->∀v,s.heap.IsCell c v->h'.IsCell c v:=λx c e v ⟨o,D,P⟩=>by
  let t:c∉ch:=λz=>(h c z).2.2.1 x c e rfl;by_cases T:c∈X.fs
  ·obtain⟨Q,q⟩:=A c o (I.cne x c e) T t D (I.freeC x c e);show⟨_,q,P⟩
  ·show⟨o,j c o (I.cne x c e) T t D (I.freeC x c e),P⟩
 show⟨I.ok,I.os,V,⟨λb o e n B a=>?_,λb o e n B a=>?_,λb o e n a=>?_,λb o e a=>?_,λb xs e=>L b xs (I.base.tups b xs e),λb o xs e=>K b o xs (I.base.frzs b o xs e),λb ps e=>?_⟩,?_,λx c e=>?_,?_,λx c e=>?_,λp S=>?_,O,I.len⟩
 ·show j b o (M b o e) B (y b o e a) (I.base.keep b o e n B a) (I.base.free b o e n a)
 ·obtain⟨Q,e1⟩:=I.base.slot b o e n B a;obtain⟨N,e2⟩:=A b _ (M b o e) B (y b o e a) e1 (I.base.free b o e n a);show⟨N,e2⟩
 ·obtain⟨o',e1⟩:=I.base.there b o e a;show f b o' (y b o e a) e1 (I.base.free b o e n a)
 ·obtain⟨o',e1⟩:=I.base.there b o e a;show C b o' (y b o e a) e1
 ·obtain⟨Z,e1⟩:=I.base.tbls b ps e;obtain⟨m2,e2⟩:=F b _ e1;show⟨Z++m2,by rw[e2,Array.append_assoc]⟩
 ·obtain⟨m,W,hl⟩:=I.loc;show⟨m,ns m W,λi x v e1 e2 e3=>?_⟩;obtain⟨u,r,l⟩:=hl i x v e1 e2 e3;show⟨u,r,?_⟩;rcases l with l|⟨k,c,e,z⟩
  ·show .inl l
  ·show .inr ⟨k,c,e,g x c e _ z⟩
 ·obtain⟨v,z⟩:=I.cell x c e;show⟨v,g x c e v z⟩
 ·obtain⟨m,⟨o,_,_,D,_⟩,_⟩:=I.loc;show f _ o (λz=>(h _ z).2.1 rfl) D I.free
 ·obtain⟨v,o,D,P⟩:=I.cell x c e;show f c o (λz=>(h c z).2.2.1 x c e rfl) D (I.freeC x c e)
 ·obtain⟨e,n,R,U,d⟩:=I.pin p S;let t:p.1∉ch:=λz=>(h p.1 z).2.2.2 p S rfl;show⟨j p.1 p.2 R U t e n,f p.1 p.2 t e n,R,U,d⟩
theorem Inv.un{t':Nat}(I:Inv X pins Y H s)(u:Un X.fs [] H H' s.heap h')(g:HOk X.prog X.w H' h'):Inv X pins Y H' { s with heap:=h',toks:=t' }:=by
 obtain⟨m,⟨o,q,p,h,r⟩,_⟩:=id I.loc;obtain⟨t,j⟩:=u.any h I.free (by simp)
 show I.step (g':=s.gens) (d':=s.drawn) (ch:=[]) (λ_ z=>nomatch z) (λb o _ c _ e n=>u.keep b o e n c (by simp)) (λb o _ c _ e n=>u.slot b o e n c (by simp)) (λb o _ e n=>u.free b o e n (by simp)) (λb o _ e=>u.there b o e (by simp)) u.tups u.frzs u.tbls (λv k=>by
  obtain⟨l,f,d,a,i⟩:=k;rw[h] at a;cases a;show⟨_,f,d,j,i⟩) g I.bare
theorem Inv.call{t':Nat}{ch:List PL}(I:Inv X pins Y H s)(u:Un (we X.stack) ch H H' s.heap h')(j:HOk X.prog X.w H' h')(t:AllBare g')(f:∀b∈ch,(b∈X.ex\/X.s₀.heap.objs.size<=b)/\b≠X.env.locals/\(∀x c,X.env.cells.lookup x=PB c->c≠b)/\∀p∈X.pn++pins,p.1≠b) :
  Inv X pins Y H' { s with heap:=h',gens:=g',drawn:=d',toks:=t' }:=by
 obtain⟨m,⟨o,B,A,k,r⟩,_⟩:=id I.loc;obtain⟨C,i⟩:=u.any k I.free λz=>(f _ z).2.1 rfl
 show I.step (ch:=ch) f (λb o i l a e n=>u.keep b o e n (λz=>(MD.mp (I.stkSub b z)).elim i l) a) (λb o _ _ a e n=>u.any e n a) (λb o a e n=>u.free b o e n a) (λb o a e=>u.there b o e a) u.tups u.frzs u.tbls (λD v=>by
  obtain⟨y,h,g,d,q⟩:=v;rw[k] at d;cases d;show⟨_,h,g,i,q⟩) j t
theorem Inv.turned{t':Nat}{it:PL}(I:Inv X pins Y H s)(k:∀b o,b≠it->s.heap.get? b=PB o->h'.get? b=PB o)(i:H it=PC)(f:it≠X.env.locals)
  (h1:it∈X.ex\/X.s₀.heap.objs.size<=it) (h2:∀x c,X.env.cells.lookup x=PB c->c≠it) (h3:∀p∈X.pn++pins,p.1≠it):Inv X pins Y H { s with heap:=h',toks:=t' }:=by
 let d:∀b u,H b=PB u->b≠it:=λb u e z=>by rw[z,i] at e;cases e
 show I.step (g':=s.gens) (d':=s.drawn) (ch:=[it]) (λb g=>?_) (λb o _ _ a e _=>k b o (λz=>a (by simp[z])) e) (λb o _ _ a e _=>⟨o.slots,k b o (λz=>a (by simp[z])) e⟩) (λ_ _ _ _ n=>n)
  (λb o a e=>⟨o,k b o (λz=>a (by simp[z])) e⟩) (λ_ _ e=>e) (λ_ _ _ e=>e) (λb w e=>⟨#[],by rw[e];simp⟩) (λm j=>?_) (λb u e=>?_) I.bare
 ·let e:b=it:=by simpa using g
  subst e;show⟨h1,f,h2,h3⟩
 ·obtain⟨o,l,h,t,r⟩:=j;show⟨o,l,h,k _ o (Ne.symm f) t,r⟩
 ·show(I.hok b u e).stay (λc v a q=>k c v ?_ q) (λ_ q=>q) λ_ _ q=>q;rcases a with z|z
  ·rw[z];show d b u e
  ·show d c _ z
theorem Inv.tok(I:Inv X pins Y H s)(t:Nat):Inv X pins Y H { s with toks:=t }:=I.un (h':=s.heap) (t':=t) Un.refl I.hok
theorem Inv.kept{t':Nat}(I:Inv X pins Y H s)(k:∀b u,s.heap.get? b=PB u->h'.get? b=PB u):Inv X pins Y H { s with heap:=h',toks:=t' }:=I.un (Un.kept k) (I.hok.kept k)
theorem Inv.laid{t':Nat}(I:Inv X pins Y H s)(k:∀b u,s.heap.get? b=PB u->h'.get? b=PB u)(c:s.heap.objs.size<=a)(d:ObjOk X.prog X.w (upd H a o) h' a o) :
  Inv X pins Y (upd H a o) { s with heap:=h',toks:=t' }:=I.un (Un.laid k c (I.hok.fresh c)) (I.hok.laid k c d)
theorem Inv.write{x e:PL}{t':Nat}(I:Inv X pins Y H s)(d:Gr (H x))(f:e=x\/H e=PB (.own x))(k:∀b u,b≠e->s.heap.get? b=PB u->h'.get? b=PB u)(a:∃u,h'.get? e=PB u)(c:ObjOk X.prog X.w (upd H x o) h' x o):Inv X pins Y (upd H x o) { s with heap:=h',toks:=t' }:=I.un (Un.write d f k a) (I.hok.write d f k a c)
theorem Inv.pins_of{a:List (PL×Obj)}(I:Inv X pins Y H s)(h:∀p∈a,s.heap.get? p.1=PB p.2/\H p.1=PC/\p.1≠X.env.locals/\p.1∉X.fs/\∀v,p.2.data≠.cell v):Inv X a Y H s:=
 ⟨I.ok,I.os,I.bare,I.base,I.loc,I.cell,I.free,I.freeC,λp b=>(M5.mp b).elim (λz=>I.pin p (N7 _ z)) (h p),I.hok,I.len⟩
theorem oB{N:List Str}(c:N.Nodup){i j:Nat}(a:N[i]?=PB x)(b:N[j]?=PB x):i=j:=by
 obtain⟨d,e1⟩:=Mv.mp a;obtain⟨e,e2⟩:=Mv.mp b;show(List.getElem_inj c).mp (e1.trans e2.symm)
theorem iK{i:Nat}{Q:Unit->PM->Prop}(I:Inv X pins Y H s)(hN:X.N.Nodup)(hi:X.N[i]?=PB x)(t:BW X.env.scope x)(r:RelV v u)(h:∀s',Inv X pins (Y.set i (PB v)) H s'->(∃a,Heap.SameBut a s.heap s'.heap/\(a=X.env.locals\/X.env.cells.lookup x=PB a))->Q () s')(hf:X.fn x=PD\/X.env.scope.names.lookup x=PB .local:=by first|show .inl rfl|show .inr rfl|assumption):PP M A (storeName X.env x u) Q E s:=by
 obtain⟨m,hn,hl⟩:=id I.loc;let T:(X.env.scope.kind==.class||(X.env.scope.kind==.module&&X.env.locals != X.env.globals))=PF:=by rw[I.ok.kind];rfl
 let P:i<Y.length:=by rw[I.len];show(Mv.mp hi).1
 let K:=I.cne
 let g:∀{a:PL} {L:PZ},(∃o,s.heap.get? a=PB o/\H a=PC)->Heap.SameBut a s.heap L->HOk X.prog X.w H L:=λ{a L} ha f b ob e=>by
  obtain⟨_,_,B⟩:=ha;show(I.hok b ob e).stay (λc W l q=>(f.2 c ?_).trans q) (λ_ q=>q) λ_ _ q=>q
  rintro rfl
  rcases l with rfl|l
  ·rw[B] at e;cases e
  ·rw[B] at l;cases l
 rcases t with hk|hk
 ·show wpAny_storeName_local hk hn (λL hd f=>?_) T;obtain⟨oL,_,_,he,_⟩:=id hn;show h _ ⟨I.ok,I.os,I.bare,⟨λb o e n C t=>?_,λb o e n C t=>?_,I.base.free,λb o e t=>?_,I.base.tups,I.base.frzs,I.base.tbls⟩,⟨_,hd,λj y v' e1 e2 e3=>?_⟩,λy c e=>?_,I.free,I.freeC,λp hp=>?_,g ⟨oL,he,I.free⟩ f,by simpa using I.len⟩ ⟨_,f,.inl rfl⟩
  ·show(f.2 b (MM (MG (MC e) I.ok.above))).trans (I.base.keep b o e n C t)
  ·obtain⟨sl,e1⟩:=I.base.slot b o e n C t;show⟨sl,(f.2 b (MM (MG (MC e) I.ok.above))).trans e1⟩
  ·obtain⟨o',e1⟩:=I.base.there b o e t;show⟨o',(f.2 b (MM (MG (MC e) I.ok.above))).trans e1⟩
  ·by_cases F:j=i
   ·subst F;rw[hi] at e1;cases e1;rw[M9 P] at e2;cases e2;show⟨u,r,.inl ⟨hk,by simp⟩⟩
   ·rw[M6 (Ne.symm F)] at e2;obtain⟨u',r',q⟩:=hl j y v' e1 e2 e3;show⟨u',r',?_⟩;rcases q with⟨k,e⟩|⟨k,c,e,z⟩
    ·show .inl ⟨k,?_⟩;have:y≠x:=λe=>F (oB hN e1 (e▸hi));simp[this,e]
    ·show .inr ⟨k,c,e,z.sameBut f (K y c e)⟩
  ·obtain⟨W,z⟩:=I.cell y c e;show⟨W,z.sameBut f (K y c e)⟩
  ·obtain⟨e,n,V,nf,d⟩:=I.pin p hp;show⟨(f.2 p.1 V).trans e,n,V,nf,d⟩
 ·let D:X.fn x=PD:=by
   rcases hf with z|z
   ·show z
   ·rw[z] at hk;cases hk
  obtain⟨c,l⟩:=I.ok.has x (.inl hk);obtain⟨W,z⟩:=I.cell x c l;show wpAny_storeName_cell I.ok.kind hk l z (λL S f=>?_);obtain⟨oc,U,O⟩:=id z;show h { s with heap:=L } ⟨I.ok,I.os,I.bare,⟨λb o e n C t=>?_,λb o e n C t=>?_,I.base.free,λb o e t=>?_,I.base.tups,I.base.frzs,I.base.tbls⟩,⟨m,hn.sameBut f (Ne.symm (K x c l)),λj y v' e1 e2 e3=>?_⟩,λy Z e=>?_,I.free,I.freeC,λp hp=>?_,g ⟨oc,U,I.freeC x c l⟩ f,by simpa using I.len⟩ ⟨c,f,.inr l⟩
  ·show(f.2 b (MM (MG (MC e) (I.ok.cab x c D l)))).trans (I.base.keep b o e n C t)
  ·obtain⟨sl,e1⟩:=I.base.slot b o e n C t;show⟨sl,(f.2 b (MM (MG (MC e) (I.ok.cab x c D l)))).trans e1⟩
  ·obtain⟨o',e1⟩:=I.base.there b o e t;show⟨o',(f.2 b (MM (MG (MC e) (I.ok.cab x c D l)))).trans e1⟩
  ·by_cases F:j=i
   ·subst F;rw[hi] at e1;cases e1;rw[M9 P] at e2;cases e2;show⟨u,r,.inr ⟨.inl hk,c,l,S⟩⟩
   ·rw[M6 (Ne.symm F)] at e2;obtain⟨u',r',q⟩:=hl j y v' e1 e2 e3;show⟨u',r',?_⟩;rcases q with q|⟨k,Z,e,z'⟩
    ·show .inl q
    ·show .inr ⟨k,Z,e,z'.sameBut f ?_⟩
     rintro rfl
     show F (oB hN e1 (I.ok.inj _ _ _ e l▸hi))
  ·by_cases R:Z=c
   ·subst R;show⟨_,S⟩
   ·obtain⟨w2,z2⟩:=I.cell y Z e;show⟨w2,z2.sameBut f R⟩
  ·obtain⟨e,n,V,nf,d⟩:=I.pin p hp;show⟨(f.2 p.1 ?_).trans e,n,V,nf,d⟩;intro q;rw[q,U] at e;let q':oc=p.2:=Option.some.inj e;show d W (by rw[<- q'];show O)
theorem kg{i:Nat}{Q:Unit->PM->Prop}(I:Inv X pins Y H s)(a:X.N.Nodup)(hi:X.N[i]?=PB x)(b:BW X.env.scope x)(r:RelV v u)(h:∀s',Inv X pins (Y.set i (PB v)) H s'->Q () s')(c:X.fn x=PD\/X.env.scope.names.lookup x=PB .local:=by first|show .inl rfl|show .inr rfl|assumption):PP M A (storeName X.env x u) Q E s:=
 iK I a hi b r (λs' d _=>h s' d) c
theorem Inv.call'{s':PM}{ch:List PL}(I:Inv X pins Y H s)(g:s'.os=s.os)(u:Un (we X.stack) ch H H' s.heap s'.heap)(a:HOk X.prog X.w H' s'.heap)(f:AllBare s'.gens)
  (hch:∀b∈ch,(b∈X.ex\/X.s₀.heap.objs.size<=b)/\b≠X.env.locals/\(∀x c,X.env.cells.lookup x=PB c->c≠b)/\∀p∈X.pn++pins,p.1≠b):Inv X pins Y H' s':=by
 obtain⟨h,g',d',t',d⟩:=s';let e:d=s.os:=g;subst e;show I.call (g':=g') (t':=t') (d':=d') u a f hch
end
abbrev XK:=PH->Option PL->Hp->Prop
abbrev St:=List (Option V)
abbrev VK:=V->Hp->Prop
abbrev TE:=St->Hp->VK->Prop
abbrev TT:=St->Hp->(Bool->Hp->Prop)->Prop
abbrev TA:=St->Hp->(List V->Hp->Prop)->Prop
structure iL where
 nx:St->Hp->Prop
 rt:VK
 bk:St->Hp->Prop:=λ_ _=>False
 ct:St->Hp->Prop:=λ_ _=>False
abbrev TS:=iL->St->Hp->Prop
def EP(X:Cx)(pins:List (PL×Obj))(Y:St)(Q:VK)(u:PH)(s':PM):Prop:=∃v H',Inv X pins Y H' s'/\RelV v u/\Q v H'
def TP(X:Cx)(pins:List (PL×Obj))(Y:St)(Q:Bool->Hp->Prop)(b:Bool)(s':PM):Prop:=∃H',Inv X pins Y H' s'/\Q b H'
def AP(X:Cx)(pins:List (PL×Obj))(Y:St)(Q:List V->Hp->Prop)(us:List PH)(s':PM):Prop:=∃vs H',Inv X pins Y H' s'/\Vals vs us/\Q vs H'
def SP(X:Cx)(pins:List (PL×Obj))(D:iL)(f:Flow)(s':PM):Prop:=
 match f with
 |.next=>∃Y' H',Inv X pins Y' H' s'/\D.nx Y' H'
 |.brk=>∃Y' H',Inv X pins Y' H' s'/\D.bk Y' H'
 |.cont=>∃Y' H',Inv X pins Y' H' s'/\D.ct Y' H'
 |.ret u=>∃v Y' H',Inv X pins Y' H' s'/\RelV v u/\D.rt v H'
def PE(X:Cx)(e:PK)(t:TE):Prop:=
 ∀(pins:List (PL×Obj)) (s:PM) (Y:St) (H:Hp) (Q:VK),Inv X pins Y H s->t Y H Q->PP (PQ X.prog X.w) X.A (eval e X.env) (EP X pins Y Q) X.xe s
def PT(X:Cx)(e:PK)(t:TT):Prop:=
 ∀(pins:List (PL×Obj)) (s:PM) (Y:St) (H:Hp) (Q:Bool->Hp->Prop),Inv X pins Y H s->t Y H Q->PP (PQ X.prog X.w) X.A (isTrue e X.env (eval e X.env)) (TP X pins Y Q) X.xe s
def PW(X:Cx)(e:PK)(t:TT):Prop:=
 ∀(q:Sem PH) (pins:List (PL×Obj)) (s:PM) (Y:St) (H:Hp) (Q:Bool->Hp->Prop),Inv X pins Y H s->t Y H Q->PP (PQ X.prog X.w) X.A (isTrue e X.env q) (TP X pins Y Q) X.xe s
def PA(X:Cx)(es:List PK)(t:TA):Prop:=
 ∀(pos:Pos) (pins:List (PL×Obj)) (s:PM) (Y:St) (H:Hp) (Q:List V->Hp->Prop),Inv X pins Y H s->t Y H Q->PP (PQ X.prog X.w) X.A (spliced (backTo pos (PU es X.env))) (AP X pins Y Q) X.xe s
def PS(X:Cx)(st:PV)(t:TS):Prop:=
 ∀(pins:List (PL×Obj)) (s:PM) (Y:St) (H:Hp) (D:iL),Inv X pins Y H s->t D Y H->PP (PQ X.prog X.w) X.A (exec st X.env) (SP X pins D) X.xe s
def PSs(X:Cx)(st:List PV)(t:TS):Prop:=
 ∀(pins:List (PL×Obj)) (s:PM) (Y:St) (H:Hp) (D:iL),Inv X pins Y H s->t D Y H->PP (PQ X.prog X.w) X.A (execs st X.env) (SP X pins D) X.xe s
theorem aY{α:Type}{t:Sem α}{Q b:α->PM->Prop}{M:Model}{A:PY}{E:PH->PM->Prop}{s:PM}(h:PP M A t Q E s)(c:∀a s,Q a s->b a s):PP M A t b E s:=wpAny_mono h c λ_ _ x=>x
section
variable {X:Cx}
def JD(i:Nat):TE:=λY H Q=>∃v,Y[i]?=PB (PB v)/\Q v H
def tC(v:V):TE:=λ_ H Q=>Q v H
theorem qp{i:Nat}(j:X.N[i]?=PB x)(n:Gs X.env.scope x)(hd:(x==("__debug__":Str))=PF:=by decide)(f:(x==("__classdict__":Str))=PF:=by decide):PE X (.Name x pos) (JD i):=by
 intro d s Y H Q I h;obtain⟨v,e,h⟩:=h;obtain⟨m,k,o⟩:=I.loc;obtain⟨u,r,l⟩:=o i x v j e n;let b:EP X d Y Q u s:=⟨v,H,I,r,h⟩;rcases l with⟨hk,p⟩|⟨hk,c,g,a⟩
 ·show wpAny_Name (wpAny_loadName_local I.ok.kind hk k p b) hd
 ·rcases hk with hk|hk
  ·show wpAny_Name (wpAny_loadName_cell I.ok.kind hk g a b) hd
  ·show wpAny_Name (wpAny_loadName_free I.ok.kind hk g a b f) hd
theorem C9{i j pos}:PE X (.Constant (.int i) j pos) (tC (.int i)):=λ_ _ _ H _ I h=>wpAny_Constant_int ⟨.int i,H,I.tok _,⟨_,rfl⟩,h⟩
theorem Gu{b j pos}:PE X (.Constant (.bool b) j pos) (tC (.bl b)):=λ_ _ _ H _ I h=>Constant_bool ⟨.bl b,H,I,rfl,h⟩
theorem Da{j pos}:PE X (.Constant .none j pos) (tC .non):=λ_ _ _ H _ I h=>Constant_none ⟨.non,H,I,rfl,h⟩
theorem Db{x j pos}:PE X (.Constant (.str x) j pos) (tC (.str x)):=λ_ _ _ H _ I h=>Calls.Constant_str ⟨.str x,H,I.tok _,⟨_,rfl⟩,h⟩
def Gl(X:Cx)(x:Str):Prop:=X.env.kindOf x=PB .globalImplicit
theorem mW{Q:PH->PM->Prop}(I:Inv X pins Y H s)(a:Gl X x)(b:X.mg x=PB u)(h:Q u s)(hd:(x==("__debug__":Str))=PF:=by decide):PP (PQ X.prog X.w) X.A (eval (.Name x pos) X.env) Q E s:=
 Calls.Name_function_global I.ok.kind a (Calls.loadGlobal_global (by rw[I.ok.glob];show I.mod.glob.keeps I.bk) b h) hd
theorem dP{Q:PH->PM->Prop}(I:Inv X pins Y H s)(c:Gl X x)(d:X.mg x=PC)(b:bootBuiltins x=PB u)(h:Q u s)(a:x≠"__name__":=by decide)(hd:(x==("__debug__":Str))=PF:=by decide):PP (PQ X.prog X.w) X.A (eval (.Name x pos) X.env) Q E s:=by
 obtain⟨g,e,f⟩:=I.mod.blt;show Calls.Name_function_global I.ok.kind c (Calls.loadGlobal_builtin (by rw[I.ok.glob];show I.mod.glob.keeps I.bk) d (by rw[I.ok.blt];show e.keeps I.bk) ((f x a).trans b) h) hd
theorem zK(a:Gl X x)(b:X.mg x=PB u)(r:RelV v u)(hd:(x==("__debug__":Str))=PF:=by decide):PE X (.Name x pos) (tC v):=
 λ_ _ _ H _ I h=>mW I a b ⟨v,H,I,r,h⟩ hd
theorem zL(c:Gl X x)(d:X.mg x=PC)(b:bootBuiltins x=PB u)(r:RelV v u)(a:x≠"__name__":=by decide)(hd:(x==("__debug__":Str))=PF:=by decide):PE X (.Name x pos) (tC v):=
 λ_ _ _ H _ I h=>dP I c d b ⟨v,H,I,r,h⟩ a hd
variable {a b:PK} {ta tb:TE} {pos:Pos}
variable {tA tB':TT} {rest:List PK}
def JE(t u:TT):TT:=λY H Q=>t Y H λc H1=>if c=PD then u Y H1 Q else Q PF H1
def Ma(t u:TT):TT:=λY H Q=>t Y H λc H1=>if c=PD then Q PD H1 else u Y H1 Q
def JF(t:TT):TT:=λY H Q=>t Y H λc H1=>Q (!c) H1
theorem zM(d:PT X a tA):PW X (.BoolOp .And [a] pos) tA:=by
 intro f b s Y H Q I h;show isTrue_and (aY (d b s Y H Q I h) λc s1 e=>?_)
 cases c with
 |true=>show isTrue_and_nil e
 |false=>show e
theorem Dc(d:PT X a tA):PW X (.BoolOp .Or [a] pos) tA:=by
 intro f b s Y H Q I h;show isTrue_or (aY (d b s Y H Q I h) λc s1 e=>?_)
 cases c with
 |false=>show isTrue_or_nil e
 |true=>show e
theorem wt(k:PT X a tA)(i:PW X (.BoolOp .And (b::rest) pos) tB'):PW X (.BoolOp .And (a::b::rest) pos) (JE tA tB'):=by
 intro j d s Y H Q I h;show isTrue_and (aY (k d s Y H _ I h) λc s1 ⟨g,e,f⟩=>?_)
 cases c with
 |true=>show i j d s1 Y g Q e f
 |false=>show⟨g,e,f⟩
theorem BX(k:PT X a tA)(i:PW X (.BoolOp .Or (b::rest) pos) tB'):PW X (.BoolOp .Or (a::b::rest) pos) (Ma tA tB'):=by
 intro j d s Y H Q I h;show isTrue_or (aY (k d s Y H _ I h) λc s1 ⟨g,e,f⟩=>?_)
 cases c with
 |true=>show⟨g,e,f⟩
 |false=>show i j d s1 Y g Q e f
theorem Dd(e:PT X a tA):PT X (.UnaryOp .Not a pos) (JF tA):=by
 intro b s Y H Q I h;show isTrue_not (e b s Y H (λc d=>Q (!c) d) I h)
def Gv(ta tb:TE):TE:=λY H Q=>ta Y H λx H1=>∃c,x=.bl c/\if c=PD then tb Y H1 Q else Q (.bl PF) H1
def JG(ta tb:TE):TE:=λY H Q=>ta Y H λx H1=>∃c,x=.bl c/\if c=PD then Q (.bl PD) H1 else tb Y H1 Q
theorem De{op}(h:PE X a t):PE X (.BoolOp op [a] pos) t:=λb s Y H Q I c=>BoolOp_one (h b s Y H Q I c)
theorem wu(k:PE X a ta)(i:PE X (.BoolOp .And (b::rest) pos) tb):PE X (.BoolOp .And (a::b::rest) pos) (Gv ta tb):=by
 intro d s Y H Q I h;show BoolOp_and (aY (k d s Y H _ I h) λv s1 ⟨x,g,f,j,e⟩=>?_);obtain⟨c,rfl,e⟩:=e;cases j;show P9 ?_
 cases c with
 |true=>show i d s1 Y g Q f e
 |false=>show⟨.bl PF,g,f,rfl,e⟩
theorem BY(k:PE X a ta)(i:PE X (.BoolOp .Or (b::rest) pos) tb):PE X (.BoolOp .Or (a::b::rest) pos) (JG ta tb):=by
 intro d s Y H Q I h;show BoolOp_or (aY (k d s Y H _ I h) λv s1 ⟨x,g,f,j,e⟩=>?_);obtain⟨c,rfl,e⟩:=e;cases j;show P9 ?_
 cases c with
 |false=>show i d s1 Y g Q f e
 |true=>show⟨.bl PD,g,f,rfl,e⟩
def Mb(t:TT)(ta tb:TE):TE:=λY H Q=>t Y H λc H1=>if c=PD then ta Y H1 Q else tb Y H1 Q
theorem oC{c:PK}(k:PT X c tA)(l:PE X a ta)(j:PE X b tb):PE X (.IfExp c a b pos) (Mb tA ta tb):=by
 intro e s Y H Q I h;show wpAny_IfExp (aY (k e s Y H _ I h) λd s1 ⟨i,f,g⟩=>?_)
 cases d with
 |true=>show l e s1 Y i Q f g
 |false=>show j e s1 Y i Q f g
end
def SqL(K:Mu)(H:Hp)(a:PL)(xs:List V):Prop:=
 Rd H a (.lst xs)\/
  ∃(o:Obj) (q:Array PH) (n:Nat),K.lookup a=PB o/\o.cls=.type "list"/\o.dict=PC/\o.data=.seq q n/\q.size<=sizeLine/\Vals xs q.toList
def SqT(K:Mu)(H:Hp)(a:PL)(xs:List V):Prop:=
 Rd H a (.tup xs)\/
  ∃(o:Obj) (q:Array PH) (n:Nat),K.lookup a=PB o/\o.cls=.type "tuple"/\o.data=.seq q n/\q.size<=sizeLine/\Vals xs q.toList
noncomputable def JH:PH->Option V
 |.none=>PB .non
 |.bool b=>PB (.bl b)
 |.int i _=>PB (.int i)
 |.str x _=>PB (.str x)
 |.bytes b _=>PB (.byt b)
 |.float b _=>PB (.flt b)
 |.ref a=>PB (.ref a)
 |.type n=>PB (.ty n)
 |_=>PC
theorem RelV.abs(r:RelV x u):JH u=PB x:=by
 cases x with
 |non=>cases r;rfl
 |bl _=>cases r;rfl
 |int _=>obtain⟨t,rfl⟩:=r;rfl
 |str _=>obtain⟨t,rfl⟩:=r;rfl
 |byt _=>obtain⟨t,rfl⟩:=r;rfl
 |flt _=>obtain⟨t,rfl⟩:=r;rfl
 |ref _=>cases r;rfl
 |ty _=>cases r;rfl
theorem RelV.inj(r:RelV x u)(q:RelV y u):x=y:=Option.some.inj (r.abs.symm.trans q.abs)
theorem Vals.inj(h:Vals xs us)(k:Vals ys us):xs=ys:=by
 induction h generalizing ys with
 |nil=>cases k;rfl
 |cons r t c=>cases k with
  |cons b a=>rw[r.inj b,c a]
section
variable {X:Cx} {pins:List (PL×Obj)} {Y:St} {H:Hp} {s:PM} {a:PL} {xs ys:List V}
theorem SqL.of{K:Mu}(h:H a=PB (.lst xs)):SqL K H a xs:=.inl (.inl h)
theorem SqT.of{K:Mu}(h:H a=PB (.tup xs)):SqT K H a xs:=.inl (.inl h)
theorem Inv.list(I:Inv X pins Y H s)(h:SqL X.K H a xs):∃b:List PH,Vals xs b/\PlainL s.heap a b.toArray/\xs.length<=sizeLine:=by
 rcases h with h|⟨o,b,n,hk,c,d,f,g,r⟩
 ·obtain⟨z,b,n,r,e⟩:=h.ok I.hok;show⟨b,r,⟨_,n,e,rfl,rfl,rfl⟩,z⟩
 ·show⟨b.toList,r,⟨o,n,I.kIn a o hk,c,d,by simpa using f⟩,?_⟩;let e:=r.length;simp only[Oc] at e
  lia
theorem Inv.tuple(I:Inv X pins Y H s)(h:SqT X.K H a xs):∃b:List PH,Vals xs b/\IsTup s.heap a b.toArray/\xs.length<=sizeLine:=by
 rcases h with h|⟨o,b,n,hk,c,d,f,r⟩
 ·obtain⟨z,b,r,p⟩:=h.ok I.hok;show⟨b,r,p,z⟩
 ·show⟨b.toList,r,⟨o,I.kIn a o hk,c,n,by simpa using d⟩,?_⟩;let e:=r.length;simp only[Oc] at e
  lia
theorem Inv.list_inj(I:Inv X pins Y H s)(h:SqL X.K H a xs)(h':SqL X.K H a ys):xs=ys:=by
 obtain⟨c,r,⟨o,n,e,_,_,d⟩,_⟩:=I.list h;obtain⟨b,i,⟨k,j,g,_,_,f⟩,_⟩:=I.list h';rw[e] at g;cases g;rw[d] at f;injection f with d1 _;have:c=b:=by simpa using congrArg Array.toList d1
 subst this;show r.inj i
theorem Inv.tuple_inj(I:Inv X pins Y H s)(h:SqT X.K H a xs)(h':SqT X.K H a ys):xs=ys:=by
 obtain⟨c,r,⟨o,e,_,n,d⟩,_⟩:=I.tuple h;obtain⟨b,i,⟨k,g,_,j,f⟩,_⟩:=I.tuple h';rw[e] at g;cases g;rw[d] at f;injection f with d1 _;have:c=b:=by simpa using congrArg Array.toList d1
 subst this;show r.inj i
end
noncomputable abbrev Cx.wish(X:Cx)(E:PH->PM->Prop):Cx:={ X with xe:=E }
abbrev Cx.nox(X:Cx):Cx:=X.wish λ_ _=>False
theorem Cx.Ok.wish{X:Cx}(a:X.Ok)(E:PH->PM->Prop):(X.wish E).Ok:=
 ⟨a.mod,a.kind,a.glob,a.blt,a.above,a.inj,a.has,a.cab,a.hd,a.frames,a.stk,a.exf,a.bs,a.bsz,a.noex,a.exfs,a.funs,a.frf⟩
theorem Cx.Ok.unwish{X:Cx}(a:(X.wish E).Ok):X.Ok:=
 ⟨a.mod,a.kind,a.glob,a.blt,a.above,a.inj,a.has,a.cab,a.hd,a.frames,a.stk,a.exf,a.bs,a.bsz,a.noex,a.exfs,a.funs,a.frf⟩
section
variable {X:Cx} {pins:List (PL×Obj)} {Y:St} {H:Hp} {s:PM} {E:PH->PM->Prop}
theorem Inv.wish(I:Inv X pins Y H s)(E:PH->PM->Prop):Inv (X.wish E) pins Y H s:=⟨I.ok.wish E,I.os,I.bare,I.base,I.loc,I.cell,I.free,I.freeC,I.pin,I.hok,I.len⟩
theorem Inv.unwish(I:Inv (X.wish E) pins Y H s):Inv X pins Y H s:=⟨I.ok.unwish,I.os,I.bare,I.base,I.loc,I.cell,I.free,I.freeC,I.pin,I.hok,I.len⟩
theorem SP.unwish(h:SP (X.wish E) pins D f s'):SP X pins D f s':=by
 cases f with
 |next=>obtain⟨a,b,I,q⟩:=h;show⟨a,b,I.unwish,q⟩
 |brk=>obtain⟨a,b,I,q⟩:=h;show⟨a,b,I.unwish,q⟩
 |cont=>obtain⟨a,b,I,q⟩:=h;show⟨a,b,I.unwish,q⟩
 |ret u=>obtain⟨v,a,b,I,r,q⟩:=h;show⟨v,a,b,I.unwish,r,q⟩
theorem PSs.nox{st:List PV}{t:TS}(h:PSs X.nox st t):PSs X st t:=λa s Y H D I b=>
 wpAny_mono (h a s Y H D (I.wish _) b) (λ_ _ q=>q.unwish) λ_ _ z=>False.elim z
end
section
variable {X:Cx} {st:PV} {rest:List PV} {t u:TS} {e:PK} {te:TE} {pos:Pos}
def ww:TS:=λD Y H=>D.nx Y H
def JI(t u:TS):TS:=λD Y H=>t { D with nx:=u D } Y H
theorem zN:PSs X [] ww:=λ_ _ Y H _ I h=>wpAny_execs_nil ⟨Y,H,I,h⟩
theorem wx(h1:PS X st t)(h2:PSs X rest u):PSs X (st::rest) (JI t u):=by
 intro a s Y H D I h;show wpAny_execs_cons (aY (h1 a s Y H { D with nx:=u D } I h) λf s1 q=>?_)
 cases f with
 |next=>
  obtain⟨b,d,c,q⟩:=q;show h2 a s1 b d D c q
 |ret v=>show q
 |brk=>show q
 |cont=>show q
theorem zO(h1:PS X st t):PSs X [st] t:=by
 intro a s Y H D I h;show wpAny_execs_cons (aY (h1 a s Y H D I h) λf s1 q=>?_)
 cases f with
 |next=>show wpAny_execs_nil q
 |ret v=>show q
 |brk=>show q
 |cont=>show q
theorem zP:PS X (.Pass pos) ww:=λ_ _ Y H _ I h=>wpAny_Pass ⟨Y,H,I,h⟩
theorem Inv.quiet(I:Inv X pins Y H s):interactive X.env=PF:=by simp[interactive,I.ok.kind]
theorem Df{x j pos pos'}:PS X (.Expr (.Constant (.str x) j pos) pos') ww:=λ_ s Y H _ I h=>wpAny_Expr (Calls.Constant_str (show SP X _ _ .next { s with toks:=s.toks+1 } from⟨Y,H,I.tok _,h⟩)) I.quiet
def Gw(te:TE):TS:=λD Y H=>te Y H λ_ H1=>D.nx Y H1
theorem zQ(b:PE X e te)(g:swapsWith e PC pos.line X.env=pure PF:=by rfl):PS X (.Expr e pos) (Gw te):=by
 intro a s Y H D I h;show wpAny_Expr_any (aY (b a s Y H _ I h) λv s1 ⟨x,c,d,i,f⟩=>⟨Y,c,d,f⟩) I.quiet g
def JJ(te:TE):TS:=λD Y H=>te Y H D.rt
theorem Dg(c:PE X e te):PS X (.Return (PB e) pos) (JJ te):=by
 intro a s Y H D I h;show wpAny_Return_some (aY (c a s Y H _ I h) λv s1 ⟨x,g,d,b,f⟩=>⟨x,Y,g,d,b,f⟩)
def JK(c:TT)(t u:TS):TS:=λD Y H=>c Y H λb H1=>if b=PD then t D Y H1 else u D Y H1
theorem BZ{c:PK}{a b:List PV}{tc:TT}(k:PT X c tc)(l:PSs X a t)(j:PSs X b u):PS X (.If c a b pos) (JK tc t u):=by
 intro e s Y H D I h;show wpAny_If (aY (k e s Y H _ I h) λd s1 ⟨i,g,f⟩=>?_)
 cases d with
 |true=>show l e s1 Y i D g f
 |false=>show j e s1 Y i D g f
end
abbrev TG:=V->St->Hp->(St->Hp->Prop)->Prop
abbrev wy:=List V->St->Hp->(St->Hp->Prop)->Prop
def PG(X:Cx)(q:PK)(t:TG):Prop:=
 ∀(pins:List (PL×Obj)) (s:PM) (Y:St) (H:Hp) (v:V) (u:PH) (Q:St->Hp->Prop),Inv X pins Y H s->RelV v u->t v Y H Q->
  PP (PQ X.prog X.w) X.A (assign q X.env u) (λ_ s'=>∃Y' H',Inv X pins Y' H' s'/\Q Y' H') X.xe s
def Dh(X:Cx)(q:List PK)(t:wy):Prop:=
 ∀(pins:List (PL×Obj)) (s:PM) (Y:St) (H:Hp) (vs:List V) (us:List PH) (Q:St->Hp->Prop),Inv X pins Y H s->Vals vs us->t vs Y H Q->
  PP (PQ X.prog X.w) X.A (assignInOrder ((P5 q X.env).map (·.2)) us) (λ_ s'=>∃Y' H',Inv X pins Y' H' s'/\Q Y' H') X.xe s
abbrev Di:=V->V->V->Hp->(Hp->Prop)->Prop
def Gx(X:Cx)(t:Di):Prop:=
 ∀(pins:List (PL×Obj)) (s:PM) (Y:St) (H:Hp) (o i v:V) (B q u:PH) (Q:Hp->Prop),Inv X pins Y H s->RelV o B->RelV i q->RelV v u->t o i v H Q->
  PP (PQ X.prog X.w) X.A (setItem B q u) (λ_ s'=>∃H',Inv X pins Y H' s'/\Q H') X.xe s
abbrev JL:=V->V->Hp->VK->Prop
def LH(X:Cx)(op:P2)(t:JL):Prop:=
 ∀(pins:List (PL×Obj)) (s:PM) (Y:St) (H:Hp) (x y:V) (v u:PH) (Q:VK),Inv X pins Y H s->RelV x v->RelV y u->t x y H Q->
  PP (PQ X.prog X.w) X.A (inplaceOp op v u) (EP X pins Y Q) X.xe s
section
variable {X:Cx} {pos:Pos}
def gR(i:Nat):TG:=λv Y H Q=>Q (Y.set i (PB v)) H
theorem sw{i:Nat}(b:X.N.Nodup)(hi:X.N[i]?=PB x)(c:BW X.env.scope x)(d:X.fn x=PD\/X.env.scope.names.lookup x=PB .local:=by first|show .inl rfl|show .inr rfl|assumption):PG X (.Name x pos) (gR i):=by
 intro a s Y H v u Q I r h;show wpAny_assign_Name (kg I b hi c r (λf e=>⟨_,H,e,h⟩) d)
def Dj:wy:=λvs Y H Q=>vs=[]/\Q Y H
def wz(t:TG)(u:wy):wy:=λvs Y H Q=>∃v r,vs=v::r/\t v Y H λY' H'=>u r Y' H' Q
theorem sA:Dh X [] Dj:=by
 intro a s Y H c b Q I r h;obtain⟨e,h⟩:=h;subst e;cases r;show assignInOrder_nil ⟨Y,H,I,h⟩
theorem oE{e:PK}{es:List PK}{t:TG}{u:wy}(h1:PG X e t)(h2:Dh X es u)
  (hs:(P5 (e::es) X.env).map (·.2)=assign e X.env::(P5 es X.env).map (·.2):=by rfl):Dh X (e::es) (wz t u):=by
 intro a s Y H i j Q I r h;obtain⟨v,k,e1,h⟩:=h;subst e1
 cases r with
 |cons r c=>
  rw[hs];show assignInOrder_cons (aY (h1 a s Y H _ _ _ I r h) λ_ s1 ⟨f,g,d,b⟩=>?_);show h2 a s1 f g _ _ Q d c b
def Gy(K:Mu)(n:Nat)(t:wy):TG:=λv Y H Q=>∃a xs,v=.ref a/\SqT K H a xs/\xs.length=n/\t xs Y H Q
theorem wB(q:X.calm=PD)(h:Dh X es t)(p:(P5 es X.env).length=n:=by rfl)(f:(P5 es X.env).findIdx? (·.1)=PC:=by rfl):PG X (.Tuple es k pos) (Gy X.K n t):=by
 intro c s Y H v u Q I r d;obtain⟨a,l,e1,y,w,d⟩:=d;subst e1;cases r;obtain⟨m,g,z,A⟩:=I.tuple y;show assign_Tuple_tuple (I.ok.hd q) z (by simp[p,<- w,g.length]) f λj i=>?_;let x:Inv X c Y H { s with heap:=j }:=I.kept (t':=s.toks) λb o e=>i b o (MM (MC e)) e;show h c _ Y H l _ Q x (by simpa using g) d
def JM(to q:TE)(t:Di):TG:=λv Y H Q=>to Y H λo H1=>q Y H1 λi H2=>t o i v H2 λB=>Q Y B
theorem Dk{o i:PK}{to d:TE}{t:Di}(A:PE X o to)(hi:PE X i d)(p:Gx X t)
  (ha:∀v,assign (.Subscript o i pos) X.env v=(do
   let b <- holding [v] (eval o X.env);let c <- holding [v,b] (eval i X.env)
   standAt pos
   holding [v,b,c] (setItem b c v)
   release [v,b,c] []):=by intro _;rfl):PG X (.Subscript o i pos) (JM to d t):=by
 intro a s Y H v u Q I r h;rw[ha];show PJ (P8 (aY (A a s Y H _ I h) λb s1 ⟨x,z,q,n,g⟩=>?_));show PJ (P8 (aY (hi a s1 Y z _ q g) λc s2 ⟨y,l,m,f,w⟩=>?_));show PJ (wpAny_standAt (PJ (P8 (aY (p a s2 Y l x y v b c u _ m n f r w) λ_ B ⟨e,k,j⟩=>?_))));show wpAny_release ⟨Y,e,k,j⟩
def zR(te:TE)(g:TG):TS:=λD Y H=>te Y H λx H1=>g x Y H1 D.nx
theorem qr{tg e:PK}{te:TE}{g:TG}(d:PE X e te)(f:PG X tg g)(j:swapsWithSole [tg] e pos.line X.env=pure PF:=by rfl)(b:swappedStores [tg] e X.env=pure PC:=by rfl)
  (h1:(P5 [tg] X.env).map (·.2)=[assign tg X.env]:=by rfl):PS X (.Assign [tg] e pos) (zR te g):=by
 intro a s Y H D I h;show wpAny_Assign_stores (aY (d a s Y H _ I h) λv s1 ⟨x,l,k,c,i⟩=>?_) j b;rw[h1];show aY (f a s1 Y l x v _ k c i) λ_ s2 q=>q
theorem qt{i:Nat}{x:Str}{e:PK}{te:TE}{pos':Pos}(b:X.N.Nodup)(hi:X.N[i]?=PB x)(f:BW X.env.scope x)(d:PE X e te)(j:swapsWith e (PB (.Name x pos')) pos.line X.env=pure PF:=by rfl)(k:X.fn x=PD\/X.env.scope.names.lookup x=PB .local:=by first|show .inl rfl|show .inr rfl|assumption) :
  PS X (.Assign [.Name x pos'] e pos) (zR te (gR i)):=by
 intro a s Y H D I h;show wpAny_Assign_Name (aY (d a s Y H _ I h) λv s1 ⟨y,n,l,c,g⟩=>?_) j;show kg l b hi f c (λs2 m=>⟨_,n,m,g⟩) k
def JN(i:Nat)(te:TE)(q:JL):TS:=λD Y H=>∃x,Y[i]?=PB (PB x)/\te Y H λy H1=>q x y H1 λz H2=>D.nx (Y.set i (PB z)) H2
theorem Dl{i:Nat}{x:Str}{e:PK}{te:TE}{op:P2}{j:JL}{pos':Pos}(K:X.N.Nodup)(hi:X.N[i]?=PB x)(d:BW X.env.scope x)(M:PE X e te)(U:LH X op j)(B:X.fn x=PD\/X.env.scope.names.lookup x=PB .local:=by first|show .inl rfl|show .inr rfl|assumption) :
  PS X (.AugAssign (.Name x pos') op e pos) (JN i te j):=by
 intro a s Y H D I h;obtain⟨v,e1,h⟩:=h;obtain⟨m,q,t⟩:=I.loc;let f:Gs X.env.scope x:=by rcases d with k|k;show .inl k;show .inr (.inl k)
 obtain⟨u,r,l⟩:=t i x v hi e1 f;show wpAny_AugAssign_Name ?_
 let g:PP (PQ X.prog X.w) X.A (eval e X.env) (λw o=>PP (PQ X.prog X.w) X.A (inplaceOp op u w) (λr O=>PP (PQ X.prog X.w) X.A (storeName X.env x r) (λ_=>SP X a D .next) X.xe O) X.xe o) X.xe s:=by
  show aY (M a s Y H _ I h) λw s1 ⟨y,T,Q,L,p⟩=>?_;show aY (U a s1 Y T v y u w _ Q r L p) λz s2 ⟨W,E,F,n,S⟩=>?_;show kg F K hi d n (λV C=>⟨_,E,C,S⟩) B
 rcases l with⟨hk,R⟩|⟨hk,c,P,b⟩
 ·show wpAny_loadName_local I.ok.kind hk q R g
 ·rcases hk with hk|hk
  ·show wpAny_loadName_cell I.ok.kind hk P b g
  ·rcases d with k|k
   ·have:X.env.scope.names.lookup x=PB .free:=hk;rw[k] at this;cases this
   ·have:X.env.scope.names.lookup x=PB .free:=hk;rw[k] at this;cases this
def Dm(c:TT)(tb:TS):TS:=λD Y H=>∃W:Nat->St->Hp->Prop,(∃m,W m Y H)/\∀m Y H,W m Y H->
 c Y H λb H1=>if b=PD then ∃N:St->Hp->Prop,(∀Y' H',N Y' H'->∃q,q<m/\W q Y' H')/\tb { D with nx:=N,ct:=N,bk:=D.nx } Y H1 else D.nx Y H1
theorem wC{c:PK}{body:List PV}{tc:TT}{tb:TS}(z:PassesOwn (PQ X.prog X.w) X.A X.env X.xe)(M:PT X c tc)(C:PSs X body tb):PS X (.While c body [] pos) (Dm tc tb):=by
 intro a s Y H D I h;obtain⟨W,⟨F,K⟩,g⟩:=h;show wpAny_While (codeAny_whileLoop (λn E=>∃x y,Inv X a x y E/\W n x y) ?_ F ⟨Y,H,I,K⟩)
 rintro n s1 ⟨j,B,O,L⟩
 show Qc z (aY (M a s1 j B _ O (g n j B L)) λb s2 ⟨r,t,k⟩=>?_)
 cases b with
 |true=>
  obtain⟨N,u,k⟩:=k;rw[if_pos rfl];show Qc z (aY (C a s2 j r _ t k) λf P i=>?_)
  cases f with
  |next=>
   obtain⟨e,d,m,l⟩:=i;obtain⟨o,p,q⟩:=u e d l;show⟨o,p,e,d,m,q⟩
  |cont=>
   obtain⟨e,d,m,l⟩:=i;obtain⟨o,p,q⟩:=u e d l;show⟨o,p,e,d,m,q⟩
  |brk=>show i
  |ret v=>show i
 |false=>
  rw[if_neg M4];show wpAny_execs_nil ⟨j,r,t,k⟩
end
structure It where
 go:Nat->Hp->Prop
 yld:Nat->Hp->V->Hp->Prop
 stop:Nat->Hp->Prop
def iM(X:Cx)(pins:List (PL×Obj))(H:Hp)(b:PL):Prop:=
 H b=PC/\b≠X.env.locals/\b∉X.fs/\(b∈X.ex\/X.s₀.heap.objs.size<=b)/\(∀x c,X.env.cells.lookup x=PB c->c≠b)/\∀p∈X.pn++pins,p.1≠b
theorem Inv.fpOk{H H':Hp}{s:PM}(I:Inv X pins Y H s)(a:s.heap.objs.size<=b)(d:H' b=PC):iM X pins H' b:=by
 show⟨d,NL (MG I.lt a),I.nofs a,.inr (Nb I.sz a),λx c e z=>?_,λp f z=>?_⟩
 ·obtain⟨v,q⟩:=I.cell x c e;show absurd (MG q.lt (by rw[z];show a)) (Ny _)
 ·show absurd (MG (MC (I.pin p f).1) (by rw[z];show a)) (Ny _)
structure qu(P:Program)(w:World)(K:Mu)(tg:Expr)(J:It)(fp:List Addr)(it:Addr)(tn:Nat->Heap->Prop):Prop where
 mem:it∈fp
 obj:∀i h,tn i h->∀b∈fp,∃o,h.get? b=PB o/\∀v,o.data≠.cell v
 keep:∀i h h',tn i h->(∀b∈fp,∀o,h.get? b=PB o->h'.get? b=PB o)->tn i h'
 item:∀(X:Cx),X.prog=P->X.w=w->X.K=K->X.calm=PD->∀(i:Nat) (pins:List (PL×Obj)) (s:PM) (Y:St) (H:Hp) (E:PH->PM->Prop),Inv X pins Y H s->(∀b∈fp,iM X pins H b)->tn i s.heap->J.go i H->
  PP (PQ P w) X.A (pyNext (.ref it)) (λr s1=>∃u,r=PB u/\
   PP (PQ P w) X.A (letOwnedTupleGo tg (.ref it) u) (λ_ s2=>∃x H',Inv X pins Y H' s2/\RelV x u/\J.yld i H x H'/\tn (i+1) s2.heap/\∀b∈fp,H' b=PC) E s1) E s
 done:∀(X:Cx),X.prog=P->X.w=w->X.K=K->X.calm=PD->∀(i:Nat) (pins:List (PL×Obj)) (s:PM) (Y:St) (H:Hp) (E:PH->PM->Prop),Inv X pins Y H s->(∀b∈fp,iM X pins H b)->tn i s.heap->J.stop i H->
  PP (PQ P w) X.A (pyNext (.ref it)) (λr s1=>r=PC/\Inv X pins Y H s1) E s
 self:∀(A:PY) (i:Nat) (s:PM) (Q:PH->PM->Prop) (E:PH->PM->Prop),tn i s.heap->Q (.ref it) s->PP (PQ P w) A (pyIter (.ref it)) Q E s
abbrev TI:=St->Hp->(It->Hp->Prop)->Prop
def JO(X:Cx)(pins:List (PL×Obj))(Y:St)(tg:PK)(R:It->Hp->Prop)(q:PH)(s2:PM):Prop:=
 ∃(it:PL) (B:List PL) (O:Nat->PZ->Prop) (J:It) (H':Hp),q=.ref it/\Inv X pins Y H' s2/\qu X.prog X.w X.K tg J B it O/\O 0 s2.heap/\(∀b∈B,iM X pins H' b)/\R J H'
def PI(X:Cx)(tg iter:PK)(q:TI):Prop:=
 ∀(pins:List (PL×Obj)) (s:PM) (Y:St) (H:Hp) (R:It->Hp->Prop),Inv X pins Y H s->q Y H R->
  PP (PQ X.prog X.w) X.A (eval iter X.env) (λv s1=>PP (PQ X.prog X.w) X.A (pyIter v) (JO X pins Y tg R) X.xe s1) X.xe s
theorem wD{s:PM}{o:Obj}{n:String}{Q:Unit->PM->Prop}(d:s.heap.get? it=PB o)(c:o.cls=.type n)(hd:o.data=.fields vs)(b:["enumerate","zip","dict_itemiterator","dict_reverseitemiterator","odict_iterator","itertools.zip_longest","itertools.pairwise"].contains n=PF)(a:Q () s):PP M A (letOwnedTupleGo tg (.ref it) u) Q E s:=by
  unfold letOwnedTupleGo
  cases tg<;>first
    |show PN a
    |(cases u<;>first
        |show PN a
        | (show PJ (wpAny_load d ?_)
           rw[c,hd]
           change PP M A (if(["enumerate","zip","dict_itemiterator","dict_reverseitemiterator","odict_iterator","itertools.zip_longest","itertools.pairwise"].contains n&&vs[0]?==PB (Qe _))=PD then _ else _) Q E s
           rw[if_neg (by intro h;rw[b,Bool.false_and] at h;cases h)];show PN a))
noncomputable def FV(K:Mu)(a:PL):It:=
 ⟨λi H=>∃xs x,SqL K H a xs/\xs[i]?=PB x,λi H x H'=>H'=H/\∀xs,SqL K H a xs->xs[i]?=PB x,λi H=>∃xs,SqL K H a xs/\xs.length<=i⟩
noncomputable def JP(K:Mu)(a:PL):It:=
 ⟨λi H=>∃xs x,SqT K H a xs/\xs[i]?=PB x,λi H x H'=>H'=H/\∀xs,SqT K H a xs->xs[i]?=PB x,λi H=>∃xs,SqT K H a xs/\xs.length<=i⟩
noncomputable def Gz(lo:Int)(n:Nat):It:=⟨λi _=>i<n,λi H x H'=>H'=H/\x=.int (lo+i),λi _=>n<=i⟩
theorem uZ{P:PR}{w:PX}{K:Mu}{tg:PK}(a it:PL):qu P w K tg (FV K a) [it] it (λi h=>h.IsListIter it a i) where
 mem:=by simp
 obj:=λi h f b j=>by
  let e:b=it:=by simpa using j
  subst e;obtain⟨o,e,c,d⟩:=f;show⟨o,e,λv z=>by rw[d] at z;cases z⟩
 keep:=λi h n f k=>f.at λo e=>k it (by simp) o e
 item:=by
  intro X M L O Q i g s Y H E I m f A;subst M L O;obtain⟨V,x,q,y⟩:=A;obtain⟨C,t,p,R⟩:=I.list q;obtain⟨u,S,ru⟩:=t.get y;obtain⟨D,r,f2,B,N,F⟩:=m it (by simp);show wpAny_pyNext_list_item f p.isList (x:=u) (by simpa using S) λn l T=>?_;let W:Inv X g Y H { s with heap:=n }:=I.turned (t':=s.toks) (λb o j e=>(T.2 b j).trans e) D r B N F;obtain⟨o,e,c,d⟩:=id l;show⟨u,rfl,wD (s:={ s with heap:=n }) e c d (by decide) ⟨x,H,W,ru,⟨rfl,λys Z=>by rw[I.list_inj Z q];show y⟩,l,λb j=>(m b j).1⟩⟩
 done:=by
  intro X M L O Q i g s Y H E I m f A;subst M L O;obtain⟨V,q,y⟩:=A;obtain⟨C,t,p,R⟩:=I.list q;obtain⟨D,r,f2,B,N,F⟩:=m it (by simp);let hl:=t.length;show wpAny_pyNext_list_end (I.ok.hd Q) f p.isList (by simp;lia) λn U=>⟨rfl,I.turned (t':=s.toks) (λb o j e=>U b o j e) D r B N F⟩
 self:=λ_ _ _ _ _ f h=>wpAny_pyIter_listiter f h
theorem qw{P:PR}{w:PX}{K:Mu}{tg:PK}(a it:PL):qu P w K tg (JP K a) [it] it (λi h=>h.IsTupleIter it a i) where
 mem:=by simp
 obj:=λi h f b j=>by
  let e:b=it:=by simpa using j
  subst e;obtain⟨o,e,c,d⟩:=f;show⟨o,e,λv z=>by rw[d] at z;cases z⟩
 keep:=λi h q f k=>f.at λo e=>k it (by simp) o e
 item:=by
  intro X M L O Q i g s Y H E I n f B;subst M L O;obtain⟨V,x,r,A⟩:=B;obtain⟨l,y,p,R⟩:=I.tuple r;obtain⟨u,S,ru⟩:=y.get A;obtain⟨D,t,f2,C,N,F⟩:=n it (by simp);show wpAny_pyNext_tuple_item f (show s.heap.IsTuple a l.toArray from p) (x:=u) (by simpa using S) λq m T=>?_;let W:Inv X g Y H { s with heap:=q }:=I.turned (t':=s.toks) (λb o j e=>(T.2 b j).trans e) D t C N F;obtain⟨o,e,c,d⟩:=id m;show⟨u,rfl,wD (s:={ s with heap:=q }) e c d (by decide) ⟨x,H,W,ru,⟨rfl,λys Z=>by rw[I.tuple_inj Z r];show A⟩,m,λb j=>(n b j).1⟩⟩
 done:=by
  intro X M L O Q i g s Y H E I n f B;subst M L O;obtain⟨V,r,A⟩:=B;obtain⟨l,y,p,R⟩:=I.tuple r;obtain⟨D,t,f2,C,N,F⟩:=n it (by simp);let hl:=y.length;show wpAny_pyNext_tuple_end (I.ok.hd Q) f (show s.heap.IsTuple a l.toArray from p) (by simp;lia) λq U=>⟨rfl,I.turned (t':=s.toks) (λb o j e=>U b o j e) D t C N F⟩
 self:=λ_ _ _ _ _ f h=>wpAny_pyIter_tupleiter f h
theorem qx{P:PR}{w:PX}{K:Mu}{tg:PK}(it:PL)(lo:Int)(n:Nat):qu P w K tg (Gz lo n) [it] it (λi h=>IsRangeIter h it (lo+(i:Nat)*1) ((n:Int)-(i:Nat)) 1) where
 mem:=by simp
 obj:=λi h a b d=>by
  let e:b=it:=by simpa using d
  subst e
  show⟨_,a,λv z=>by
   let D:Data.fields _=Data.cell v:=z;cases D⟩
 keep:=λi h j a k=>k it (by simp) _ a
 item:=by
  intro X x u A B i c s Y H E I g a m;subst x u A;obtain⟨q,l,f2,p,y,r⟩:=g it (by simp);let W:=Walks.range (prog:=X.prog) (w:=X.w) (I.ok.hd B) it lo 1 n;show W.item i s _ _ m a λv j C L f F=>?_;obtain⟨t,rfl⟩:=L;let N:Inv X c Y H { s with heap:=j,toks:=C }:=I.turned (λb o d e=>F b o (by simpa using d) e) q l p y r;show⟨_,rfl,wD (s:={ s with heap:=j,toks:=C }) (n:="range_iterator") f rfl rfl (by decide) ⟨.int (lo+i),H,N,⟨t,?_⟩,⟨rfl,rfl⟩,f,λb d=>(g b d).1⟩⟩;rw[Int.mul_one]
 done:=by
  intro X x u A B i c s Y H E I g a m;subst x u A;obtain⟨q,l,f2,p,y,r⟩:=g it (by simp);show wpAny_pyNext_range_end (I.ok.hd B) a (by have:n<=i:=m;lia) λj M=>⟨rfl,I.turned (t':=s.toks) (λb o d e=>M b o d e) q l p y r⟩
 self:=λ_ _ _ _ _ a h=>wpAny_pyIter_rangeiter a h
section
variable {X:Cx} {tg:PK}
def GA(K:Mu)(tl:TE):TI:=λY H R=>tl Y H λx H1=>∃a,x=.ref a/\(∃xs,SqL K H1 a xs)/\R (FV K a) H1
def JQ(K:Mu)(tl:TE):TI:=λY H R=>tl Y H λx H1=>∃a,x=.ref a/\(∃xs,SqT K H1 a xs)/\R (JP K a) H1
theorem zS{l:PK}{tl:TE}(k:PE X l tl):PI X tg l (GA X.K tl):=by
 intro c s Y H R I h;show aY (k c s Y H _ I h) λv s1 ⟨x,n,d,f,j⟩=>?_;obtain⟨a,e,⟨t,m⟩,q⟩:=j;subst e;cases f;obtain⟨i,r,p,u⟩:=d.list m;show Qf p.isList ?_;show⟨s1.heap.objs.size,[s1.heap.objs.size],_,_,n,rfl,d.kept (t':=s1.toks) λb o e=>Mx _ e,uZ a _,⟨_,ML _ rfl,rfl,rfl⟩,λb g=>?_,q⟩;let e:b=s1.heap.objs.size:=by simpa using g
 subst e;show d.fpOk (Mz _) (d.hok.fresh (Mz _))
theorem Do{l:PK}{tl:TE}(k:PE X l tl):PI X tg l (JQ X.K tl):=by
 intro c s Y H R I h;show aY (k c s Y H _ I h) λv s1 ⟨x,n,d,g,j⟩=>?_;obtain⟨a,e,⟨t,m⟩,q⟩:=j;subst e;cases g;obtain⟨f,r,p,u⟩:=d.tuple m;show wpAny_pyIter_tuple (show s1.heap.IsTuple a f.toArray from p) ?_;show⟨s1.heap.objs.size,[s1.heap.objs.size],_,_,n,rfl,d.kept (t':=s1.toks) λb o e=>Mx _ e,qw a _,⟨_,ML _ rfl,rfl,rfl⟩,λb i=>?_,q⟩;let e:b=s1.heap.objs.size:=by simpa using i
 subst e;show d.fpOk (Mz _) (d.hok.fresh (Mz _))
theorem oF{s:PM}{R:It->Hp->Prop}{lo hi:Int}{tk:Nat}(I:Inv X pins Y H s)(h1:-(2^62)<=lo)(h2:lo<2^62)(d:-(2^62)<=hi)(f:hi<2^62)(q:R (Gz lo (hi-lo).toNat) H):PP (PQ X.prog X.w) X.A (pyIter (.ref s.heap.objs.size)) (JO X pins Y tg R) E { s with heap:=s.heap.push { cls:=.type "range",data:=.fields #[.int lo t,.int hi u,.int 1 v] },toks:=tk }:=by
 show wpAny_pyIter_range (IsRange.new ..) (small_one h1 h2 d f) ?_;let a:Inv X pins Y H { s with heap:=s.heap.push { cls:=.type "range",data:=.fields #[.int lo t,.int hi u,.int 1 v] },toks:=tk }:=I.kept λb o e=>Mx _ e
 show⟨(s.heap.push { cls:=.type "range",data:=.fields #[.int lo t,.int hi u,.int 1 v] }).objs.size,[(s.heap.push { cls:=.type "range",data:=.fields #[.int lo t,.int hi u,.int 1 v] }).objs.size],_,_,H,rfl,
  a.kept (t':=tk) λb o e=>Mx _ e,qx _ lo (hi-lo).toNat,?_,λb c=>?_,q⟩
 ·let e1:lo+((0:Nat):Int)*1=lo:=by simp
  let e2:(((hi-lo).toNat:Nat):Int)-((0:Nat):Int)=Builtin.Range.rangeSize lo hi 1:=by rw[rangeSize_one];split<;>lia
  change IsRangeIter _ _ (lo+((0:Nat):Int)*1) ((((hi-lo).toNat:Nat):Int)-((0:Nat):Int)) 1;rw[e1,e2];show ML _ rfl
 ·let e:b=(s.heap.push { cls:=.type "range",data:=.fields #[.int lo t,.int hi u,.int 1 v] }).objs.size:=by simpa using c
  subst e;show a.fpOk (Mz _) (a.hok.fresh (Mz _))
def GB(ta:TA):TI:=λY H R=>ta Y H λvs H1=>∃j:Int,vs=[.int j]/\-(2^62)<=j/\j<2^62/\R (Gz 0 j.toNat) H1
def GC(ta:TA):TI:=λY H R=>ta Y H λvs H1=>∃i j:Int,vs=[.int i,.int j]/\(-(2^62)<=i/\i<2^62/\-(2^62)<=j/\j<2^62)/\R (Gz i (j-i).toNat) H1
theorem u0{a:PK}{ta:TA}{p pos:Pos}(f:Gl X "range")(l:X.mg "range" = PC)(n:PA X [a] ta)(g:PU [a] X.env=[(PF,eval a X.env)]:=by rfl):PI X tg (.Call (.Name "range" p) [a] [] pos) (GB ta):=by
 intro b s Y H R I h;show Call_ (dP I f l boot_range (PyProof.Rows.callWith_type1 (aY (n pos b s Y H _ I h) λu s1 ⟨o,v,k,d,c⟩=>?_) g rfl));obtain⟨j,e,c,m,q⟩:=c;subst e
 cases d with
 |cons r i=>
  cases i;obtain⟨t,rfl⟩:=r;show call_range_1 (oF k (by lia) (by lia) c m (by simpa using q))
theorem u3{a b:PK}{ta:TA}{p pos:Pos}(g:Gl X "range")(w:X.mg "range" = PC)(l:PA X [a,b] ta)(o:PU [a,b] X.env=[(PF,eval a X.env),(PF,eval b X.env)]:=by rfl)(hs2:PU [b] X.env=[(PF,eval b X.env)]:=by rfl) :
  PI X tg (.Call (.Name "range" p) [a,b] [] pos) (GC ta):=by
 intro c s Y H R I h;show Call_ (dP I g w boot_range (PyProof.Rows.callWith_type1 (aY (l pos c s Y H _ I h) λA s1 ⟨z,B,v,m,d⟩=>?_) (by rw[o,hs2]) (by rw[hs2];rfl)));obtain⟨i,j,e,⟨d,x,k,u⟩,q⟩:=d;subst e
 cases m with
 |cons r f=>
  cases f with
  |cons n f=>
   cases f;obtain⟨t,rfl⟩:=r;obtain⟨y,rfl⟩:=n;show call_range_2 (oF v d x k u q)
def JR(O:TI)(g:TG)(tb:TS):TS:=λD Y H=>O Y H λJ H1=>∃W:Nat->Nat->St->Hp->Prop,(∃m,W 0 m Y H1)/\∀i m Y H,W i m Y H->
 (J.stop i H/\D.nx Y H)\/(J.go i H/\∃N:St->Hp->Prop,(∀Y' H',N Y' H'->∃q,q<m/\W (i+1) q Y' H')/\∀x H',J.yld i H x H'->g x Y H' λB H2=>tb { D with nx:=N,ct:=N,bk:=D.nx } B H2)
noncomputable def mX(q:List PL)(h:PZ):List (PL×Obj):=q.filterMap λb=>(h.get? b).map λo=>(b,o)
theorem bj{a:List PL}{h:PZ}(c:b∈a)(e:h.get? b=PB o):(b,o)∈mX a h:=OF.mpr ⟨b,c,by rw[e];rfl⟩
theorem u4{a:List PL}{h:PZ}{p:PL×Obj}(d:p∈mX a h):p.1∈a/\h.get? p.1=PB p.2:=by
 obtain⟨b,c,e⟩:=OF.mp d
 cases q:h.get? b with
 |none=>rw[q] at e;cases e
 |some o=>
  rw[q] at e;let f:(b,o)=p:=Option.some.inj e;subst f;show⟨c,q⟩
theorem Inv.pinned{pins:List (PL×Obj)}{s:PM}{a:List PL}(I:Inv X pins Y H s)(i:∀b∈a,iM X pins H b)(k:∀b∈a,∃o,s.heap.get? b=PB o/\∀v,o.data≠.cell v):Inv X (pins++mX a s.heap) Y H s:=
 I.pins_of λp h=>(M5.mp h).elim (λz=>I.pin p (MJ _ z)) λz=>by
  obtain⟨c,e⟩:=u4 z;obtain⟨j,g,f2,_⟩:=i p.1 c;obtain⟨o,f,d⟩:=k p.1 c;rw[e] at f;cases f;show⟨e,j,g,f2,d⟩
theorem Inv.unpinned{pins pl:List (PL×Obj)}(I:Inv X (pins++pl) Y H s):Inv X pins Y H s:=I.pins_of λp a=>I.pin p (MJ _ (N7 _ a))
theorem Dp{iter:PK}{body:List PV}{wi:TI}{g:TG}{tb:TS}{pos:Pos}(E:PassesOwn (PQ X.prog X.w) X.A X.env X.xe)(hc:X.calm=PD)(hi:PI X tg iter wi)(hg:PG X tg g)(j:PSs X body tb)
  (hs:∀x,foldedSetIterable iter X.env x=pure x:=by intro _;rfl):PS X (.For tg iter body [] pos) (JR wi g tb):=by
 intro a s Y H D I h;show wpAny_For (aY (hi a s Y H _ I h) λv s1 h1=>aY h1 λha s2 h2=>?_) hs;obtain⟨it,K,tn,J,H2,e,I2,T,V,f2,W,⟨m0,w0⟩,B⟩:=h2;subst e
 -- what stays PD of the iterator's objects through the loop
 let p:∀{t:Hp},(∀b∈K,t b=PC)->∀b∈K,iM X a t b:=λhn b j=>⟨hn b j,(f2 b j).2⟩;show codeAny_forLoop_any (λn s'=>∃i O t,Inv X a O t s'/\tn i s'.heap/\(∀b∈K,t b=PC)/\W i n O t) ?_ m0 ⟨0,Y,H2,I2,V,λb j=>(f2 b j).1,w0⟩
 rintro n s3 ⟨i,M,R,I3,F,Q,w3⟩
 rcases B i n M R w3 with⟨P,qn⟩|⟨go,N,hN,C⟩
 ·show Qc E (aY (T.done X rfl rfl rfl hc i a s3 M R X.xe I3 (p Q) F P) λr s4 ⟨U,I4⟩=>?_);subst U;show wpAny_execs_nil ⟨M,R,I4,qn⟩
 ·show Qc E (aY (T.item X rfl rfl rfl hc i a s3 M R X.xe I3 (p Q) F go) λr s4 ⟨u,U,h4⟩=>?_);subst U;show Qc E (aY h4 λ_ s5 ⟨x,H5,I5,r5,y5,z,S⟩=>?_);let Z:=I5.pinned (p S) (T.obj _ _ z);show Qc E (aY (hg _ s5 M H5 x u _ Z r5 (C x H5 y5)) λ_ s6 ⟨Y6,H6,I6,q6⟩=>?_);show Qc E (aY (j _ s6 Y6 H6 _ I6 q6) λf s7 y=>?_)
  let c:∀{k:St} {q:Hp},Inv X (a++mX K s5.heap) k q s7->N k q->∃m,m<n/\∃i O t,Inv X a O t s7/\tn i s7.heap/\(∀b∈K,t b=PC)/\W i m O t:=λ{k q} l L=>by
   obtain⟨m',hm,w7⟩:=hN k q L;show⟨m',hm,i+1,k,q,l.unpinned,T.keep _ _ _ z λb j o e=>(l.pin (b,o) (MJ _ (MJ _ (bj j e)))).1,λb j=>?_,w7⟩;obtain⟨o,e,d⟩:=T.obj _ _ z b j;show(l.pin (b,o) (MJ _ (MJ _ (bj j e)))).2.1
  cases f with
  |next=>obtain⟨k,q,l,L⟩:=y;show c l L
  |cont=>obtain⟨k,q,l,L⟩:=y;show c l L
  |brk=>obtain⟨k,q,l,y⟩:=y;show⟨k,q,l.unpinned,y⟩
  |ret v=>obtain⟨x7,k,q,l,r7,y⟩:=y;show⟨x7,k,q,l.unpinned,r7,y⟩
end
abbrev R2:=V->V->Hp->VK->Prop
def gq(X:Cx)(f:PH->PH->Sem PH)(r:R2):Prop:=
 ∀(pins:List (PL×Obj)) (s:PM) (Y:St) (H:Hp) (x y:V) (v u:PH) (Q:VK),Inv X pins Y H s->RelV x v->RelV y u->r x y H Q->
  PP (PQ X.prog X.w) X.A (f v u) (EP X pins Y Q) X.xe s
def gT(X:Cx)(f:PH)(r:List V->Hp->VK->Prop):Prop:=
 ∀(pins:List (PL×Obj)) (s:PM) (Y:St) (H:Hp) (xs:List V) (us:List PH) (Q:VK),Inv X pins Y H s->Vals xs us->r xs H Q->
  PP (PQ X.prog X.w) X.A (call f us) (EP X pins Y Q) X.xe s
def JS(X:Cx)(r:V->Hp->(Bool->Hp->Prop)->Prop):Prop:=
 ∀(pins:List (PL×Obj)) (s:PM) (Y:St) (H:Hp) (x:V) (v:PH) (Q:Bool->Hp->Prop),Inv X pins Y H s->RelV x v->r x H Q->
  PP (PQ X.prog X.w) X.A (truthy v) (TP X pins Y Q) X.xe s
def Jj(r:R2)(ta tb:TE):TE:=λY H Q=>ta Y H λx H1=>tb Y H1 λy H2=>r x y H2 Q
def rI(C:Int->Int->Prop)(g:Int->Int->V):R2:=λx y H Q=>∃i j,x=.int i/\y=.int j/\C i j/\Q (g i j) H
def sB(g:Int->Int->V):R2:=λx y H Q=>∃i j,x=.int i/\y=.int j/\Q (g i j) H
section
variable {X:Cx} {a b c:PK} {ta tb tc:TE} {pos:Pos}
theorem Dq(p:PE X a ta)(e:PE X b tb){pins:List (PL×Obj)}{s:PM}{Y:St}{H:Hp}{R:V->V->Hp->Prop}(I:Inv X pins Y H s)
  (h:ta Y H λx d=>tb Y d λy c=>R x y c) {Q:PH->PM->Prop} {f:PH->PH->Sem PH}
  (hf:∀v u s2 x y c,Inv X pins Y c s2->RelV x v->RelV y u->R x y c->PP (PQ X.prog X.w) X.A (f v u) Q X.xe s2) :
  PP (PQ X.prog X.w) X.A (eval a X.env) (λv l=>PP (PQ X.prog X.w) X.A (eval b X.env) (λu j=>PP (PQ X.prog X.w) X.A (f v u) Q X.xe j) X.xe l) X.xe s:=by
 show aY (p pins s Y H _ I h) λv s1 ⟨x,d,n,g,k⟩=>?_;show aY (e pins s1 Y d _ n k) λu s2 ⟨y,c,o,i,m⟩=>?_;show hf v u s2 x y c o g i m
theorem B0(k:gq X (binaryOp op) r)(j:PE X a ta)(d:PE X b tb):PE X (.BinOp a op b pos) (Jj r ta tb):=by
 intro c s Y H Q I h;show wpAny_BinOp (Dq j d I h λv u s2 x y f i e g q=>k c s2 Y f x y v u Q i e g q)
theorem FW{f:PH->PH->Sem PH}{C:Int->Int->Prop}{g:Int->Int->Int}
  (rule:∀(i j:Int) (t u:Tok) (s:PM) (Q:PH->PM->Prop) (E:PH->PM->Prop),C i j->Q (.int (g i j) s.toks) { s with toks:=s.toks+1 }->PP (PQ X.prog X.w) X.A (f (.int i t) (.int j u)) Q E s) :
  gq X f (rI C λi j=>.int (g i j)):=by
 intro a s Y H x y v u Q I c e h;obtain⟨i,j,rfl,rfl,d,q⟩:=h;obtain⟨t,rfl⟩:=c;obtain⟨b,rfl⟩:=e;show rule i j t b s _ _ d ⟨.int (g i j),H,I.tok _,⟨_,rfl⟩,q⟩
theorem oG{f:PH->PH->Sem PH}{g:Int->Int->Int}
  (rule:∀(i j:Int) (t u:Tok) (s:PM) (Q:PH->PM->Prop) (E:PH->PM->Prop),Q (.int (g i j) s.toks) { s with toks:=s.toks+1 }->PP (PQ X.prog X.w) X.A (f (.int i t) (.int j u)) Q E s) :
  gq X f (sB λi j=>.int (g i j)):=by
 intro a s Y H x y v u Q I c d h;obtain⟨i,j,rfl,rfl,q⟩:=h;obtain⟨t,rfl⟩:=c;obtain⟨b,rfl⟩:=d;show rule i j t b s _ _ ⟨.int (g i j),H,I.tok _,⟨_,rfl⟩,q⟩
theorem zT{f:PH->PH->Sem PH}{g:Int->Int->Bool}
  (rule:∀(i j:Int) (t u:Tok) (s:PM) (Q:PH->PM->Prop) (E:PH->PM->Prop),Q (.bool (g i j)) s->PP (PQ X.prog X.w) X.A (f (.int i t) (.int j u)) Q E s) :
  gq X f (sB λi j=>.bl (g i j)):=by
 intro a s Y H x y v u Q I c d h;obtain⟨i,j,rfl,rfl,q⟩:=h;obtain⟨t,rfl⟩:=c;obtain⟨b,rfl⟩:=d;show rule i j t b s _ _ ⟨.bl (g i j),H,I,rfl,q⟩
def JT(i j:Int):Prop:=0<=j/\j<=1000000/\i.natAbs<2^64
theorem qy(k:Nat):(0:Int)<=2^k:=by
 rw[two_pow_cast];show Int.natCast_nonneg _
theorem Dr:gq X (binaryOp .Add) (sB λi j=>.int (i+j)):=oG λ_ _ _ _ _ _ _ q=>add_int q
theorem Ds:gq X (binaryOp .Sub) (sB λi j=>.int (i-j)):=oG λ_ _ _ _ _ _ _ q=>sub_int q
theorem Dt:gq X (binaryOp .Mod) (rI (λ_ j=>0<j) λi j=>.int (i%j)):=FW λi j _ _ _ _ _ a q=>by
 let b:(0:Int)<j:=a;show mod_int' (by lia) (by rw[Int.fmod_eq_emod_of_nonneg i (by lia)];show q)
theorem Du:gq X (binaryOp .Pow) (rI JT λi j=>.int (i^j.toNat)):=FW λ_ _ _ _ _ _ _ a q=>pow_int_small a.1 a.2.1 a.2.2 q
theorem Dv:gq X (binaryOp .RShift) (rI (λ_ j=>0<=j) λi j=>.int (i / 2^j.toNat)):=FW λi j _ _ _ _ _ a q=>
 rshift_int a (by rw[OK i (qy _)];show q)
theorem Dw:gq X (binaryOp .BitAnd) (sB λi j=>.int (Builtin.bitAnd i j)):=oG λ_ _ _ _ _ _ _ q=>and_int q
theorem GD:gq X (binaryOp .BitOr) (sB λi j=>.int (Builtin.bitOr i j)):=oG λ_ _ _ _ _ _ _ q=>or_int q
theorem Dx:gq X (binaryOp .BitXor) (sB λi j=>.int (Builtin.bitXor i j)):=oG λ_ _ _ _ _ _ _ q=>xor_int q
theorem zU:gq X (inplaceOp .Add) (sB λi j=>.int (i+j)):=oG λ_ _ _ _ _ _ _ q=>iadd_int q
theorem zV:gq X (inplaceOp .BitAnd) (sB λi j=>.int (Builtin.bitAnd i j)):=oG λ_ _ _ _ _ _ _ q=>iand_int q
theorem Dy:gq X (inplaceOp .BitOr) (sB λi j=>.int (Builtin.bitOr i j)):=oG λ_ _ _ _ _ _ _ q=>ior_int q
theorem GE:gq X (compareOp .Lt) (sB λi j=>.bl (decide (i<j))):=zT λ_ _ _ _ _ _ _ q=>lt_int q
theorem GF:gq X (compareOp .LtE) (sB λi j=>.bl (decide (i<=j))):=zT λ_ _ _ _ _ _ _ q=>le_int q
theorem GH:gq X (compareOp .Gt) (sB λi j=>.bl (decide (j<i))):=zT λ_ _ _ _ _ _ _ q=>gt_int q
theorem GI:gq X (compareOp .GtE) (sB λi j=>.bl (decide (j<=i))):=zT λ_ _ _ _ _ _ _ q=>ge_int q
theorem zW{op:Qd}{r:R2}(l:gq X (compareOp op) r)(k:PE X a ta)(d:PE X b tb)(f:Qa op b=PF):PE X (.Compare a [op] [b] pos) (Jj r ta tb):=by
 intro c s Y H Q I h;show wpAny_Compare1 (Dq k d I h λv u s2 x y g j e i q=>l c s2 Y g x y v u Q j e i q) f
def GJ(t:TE):TT:=λY H Q=>t Y H λx H'=>∃k,x=.bl k/\Q k H'
theorem zX{op:Qd}(D:gq X (compareOp op) r)(C:PE X a ta)(f:PE X b tb)(o:Qa op b=PF):PT X (.Compare a [op] [b] pos) (GJ (Jj r ta tb)):=by
 intro d s Y H Q I h
 show wpAny_isTrue_Compare1 (aY (C d s Y H _ I h) λv s1 ⟨x,B,n,g,l⟩=>aY (f d s1 Y B _ n l) λu s2 ⟨y,p,t,j,A⟩=>
  aY (D d s2 Y p x y v u _ t g j A) λc E ⟨z,i,q,w,k,e,m⟩=>?_) o
 subst e;cases w;show P9 ⟨i,q,m⟩
def wF(r r':R2)(ta tb tc:TE):TE:=λY H Q=>ta Y H λx H1=>tb Y H1 λy H2=>r x y H2 λz q=>∃k,z=.bl k/\
 (if k=PD then tc Y q λO B=>r' y O B Q else Q (.bl PF) q)
theorem wH(S:gq X (compareOp op) r)(g:gq X (compareOp op') r')(C:PE X a ta)(n:PE X b tb)(L:PE X c tc)(N:lastMarks [op,op'] [b,c]=PF:=by with_unfolding_all rfl):PE X (.Compare a [op,op'] [b,c] pos) (wF r r' ta tb tc):=by
 intro f s Y H Q I h
 show Compare_chain (aY (C f s Y H _ I h) λv s1 ⟨x,R,M,D,t⟩=>chain_link (aY (n f s1 Y R _ M t) λu s2 ⟨y,A,B,j,P⟩=>
  aY (S f s2 Y A x y v u _ B D j P) λd q ⟨z,i,m,O,k,e,l⟩=>?_)) N
 subst e;cases O;show P9 ?_
 cases k with
 |false=>show ite_ff ⟨.bl PF,i,m,rfl,l⟩
 |true=>show ite_tt (chain_last (aY (L f q Y i _ m l) λw s4 ⟨o,E,F,p,K⟩=>g f s4 Y E y o u w Q F j p K))
def zY(K:Mu)(x:V)(H:Hp)(k:Bool):Prop:=
 match x with
 |.non=>k=PF
 |.bl b=>k=b
 |.int i=>k=(i != 0)
 |.str y=>y.length<=sizeLine/\k=((y.length:Int) != 0)
 |.byt y=>y.size<=sizeLine/\k=((y.size:Int) != 0)
 |.ref p=>(∃xs,SqL K H p xs/\k=!xs.isEmpty)\/(∃xs,SqT K H p xs/\k=!xs.isEmpty)\/∃kvs,H p=PB (.dK kvs)/\k=!kvs.isEmpty
 |_=>False
theorem qz{κ:Type}{kvs:List (κ×V)}{vs:List (κ×PH)}(r:KV kvs vs):(!vs.isEmpty)=!kvs.isEmpty:=by
 cases r<;>rfl
theorem kh{xs:List V}{a:List PH}(r:Vals xs a):(!a.toArray.isEmpty)=!xs.isEmpty:=by
 cases r<;>simp
theorem iN:(sizeLine:Nat)<2^63:=by rw[sizeLine_eq];decide
theorem wJ:JS X (λx H Q=>∃k,zY X.K x H k/\Q k H):=by
 intro z s Y H x v Q I g h;obtain⟨k,e,q⟩:=h;let D:=iN;let C:sizeLine=16777216:=sizeLine_eq
 cases x with
 |non=>
  cases g;let a:k=PF:=e;subst a;show truthy_none ⟨H,I,q⟩
 |bl b=>
  cases g;let a:k=b:=e;subst a;show P9 ⟨H,I,q⟩
 |int i=>
  obtain⟨t,rfl⟩:=g;let a:k=(i != 0):=e;subst a;show PySem.P.truthy_int ⟨H,I,q⟩
 |str y=>
  obtain⟨t,rfl⟩:=g;obtain⟨B,a⟩:y.length<=sizeLine/\k=((y.length:Int) != 0):=e;subst a;show PySem.P.truthy_str (by lia) ⟨H,I.tok _,q⟩
 |byt y=>
  obtain⟨t,rfl⟩:=g;obtain⟨B,a⟩:y.size<=sizeLine/\k=((y.size:Int) != 0):=e;subst a;show PySem.W.truthy_bytes (by lia) ⟨H,I.tok _,q⟩
 |ref p=>
  cases g;let a:(∃f,SqL X.K H p f/\k=!f.isEmpty)\/(∃f,SqT X.K H p f/\k=!f.isEmpty)\/∃c,H p=PB (.dK c)/\k=!c.isEmpty:=e;rcases a with⟨f,j,a⟩|⟨f,j,a⟩|⟨c,j,a⟩
  ·subst a;obtain⟨o,r,n,u⟩:=I.list j;let d:=r.length;show wpAny_truthy_list n.isList (by simp only[MB];lia) ⟨H,I.tok _,by rw[kh r];show q⟩
  ·subst a;obtain⟨o,r,n,u⟩:=I.tuple j;let d:=r.length;show truthy_tuple n (by simp only[MB];lia) ⟨H,I.tok _,by rw[kh r];show q⟩
  ·subst a;obtain⟨u,A,l,r,m⟩:c.length<=sizeLine/\(p==sysModules)=PF/\∃l,KV c l/\s.heap.DictOf (aK X.prog X.w) p l:=I.hok p _ j;let d:c.length=l.length:=Paired.length r;show wpAny_truthy_dict A m (by lia) ⟨H,I.tok _,by rw[qz r];show q⟩
 |_=>show(show False from e).elim
theorem wK(l:PE X a ta)(f:∀b,isTrue a X.env b=(do let v <- b;standAt a.pos;holding [v] (truthy v))) :
  PT X a (λY H Q=>ta Y H λx d=>∃k,zY X.K x d k/\Q k d):=by
 intro c s Y H Q I h;show isTrue_plain (aY (l c s Y H _ I h) λv s1 ⟨x,j,i,e,g⟩=>wJ c s1 Y j x v Q i e g) (f _)
theorem ki{x:V}(r:Vals [x] us):∃u,us=[u]/\RelV x u:=by
 cases r with
 |cons a b=>cases b;show⟨_,rfl,a⟩
theorem GK(r:Vals [x,y] us):∃u a,us=[u,a]/\RelV x u/\RelV y a:=by
 cases r with
 |cons c d=>
  cases d with
  |cons b e=>cases e;show⟨_,_,rfl,c,b⟩
theorem wL:gT X (.builtin "abs") (λxs H Q=>∃i,xs=[.int i]/\Q (.int (if i<0 then -i else i)) H):=by
 intro a s Y H xs c Q I r h;obtain⟨i,rfl,q⟩:=h;obtain⟨u,rfl,t,rfl⟩:=ki r
 show call_abs_int λu b=>⟨.int (if i<0 then -i else i),H,I.tok _,⟨_,rfl⟩,q⟩
end
structure ObjM(h:Heap)(x dx C:Addr)(mA:Str->Option Value):Prop where
 obj:h.get? x=PB (ND C dx)
 ns:h.Ns1 dx mA
 ne:dx≠x
theorem u5{h:PZ}{mA:Str->Option PH}(n:h.Ns1 dx mA):∃c,h.get? dx=PB c/\∀name,OC name c=PB (mA name):=by
 obtain⟨o,d,l,k,j,hk,_,i⟩:=n;show⟨o,k,λname=>?_⟩;let e:=i name;unfold nsFind findBy at e;rw[<- Array.find?_toList] at e;unfold OC;rw[j];dsimp only;split
 ·ext y q;rw[q] at e;show congrArg PB e
 ·ext q;rw[q] at e
  let a:d.toList.any (·.refKey)=PF:=by
   rw[Pm];intro y g;obtain⟨z,t,b⟩:=hk y (Array.mem_toList_iff.mp g);simp[DictEntry.refKey,b]
  let f:¬d.toList.any (·.refKey)=PD:=by rw[a];show M4
  rw[if_neg f];show congrArg PB e
theorem ObjM.look{mA:Str->Option PH}(I:ObjM h x dx C mA):∃a,PySem.W.InstAt h x (ND C dx) C (PB a)/\∀name,OC name a=PB (mA name):=
 let ⟨a,ho,hl⟩:=u5 I.ns
 ⟨a,⟨I.obj,rfl,rfl,ho⟩,hl⟩
section
variable {prog:PR} {w:PX} {A:PY} {E:PH->PM->Prop} {s:PM} {K:Mu} {x dx C f:PL} {mA:Str->Option PH} {name:Str} {v:PH}
theorem zZ{Q:PH->PM->Prop}(X:K.In s.heap)(I:ObjM s.heap x dx C mA)(c:Op K C name=PD)(d:OM K C=PD)(f:Nq K (.ref C) name=PB PC)(b:mA name=PB v)(a:Pp v=PD)(h:Q v { s with toks:=s.toks+1 }) :
  PP (PQ prog w) A (getAttr (.ref x) name expr) Q E s:=by
 obtain⟨g,J,e⟩:=I.look;show PySem.W.get_value X J (OA c).1 (PySem.W.findObj_own d f rfl (by rw[e,b])) a h
theorem wM{Q:PH×List PH->PM->Prop}(X:K.In s.heap)(I:ObjM s.heap x dx C mA)(a:Op K C name=PD)(c:Nq K (.ref C) name=PB (PB (.ref f)))(g:Pd K (.ref f)=PD)(b:mA name=PC)(h:Q (.ref f,[.ref x]) s) :
  PP (PQ prog w) A (getMethod (.ref x) name pl) Q E s:=by
 obtain⟨e,J,d⟩:=I.look;show PySem.W.method_fn X J (OA a).1 (OA a).2 c (beq_iff_eq.mp g) (by change(OC name e).map (·.isSome)=PB PF;rw[d,b];rfl) h
theorem z3{ns:List Str}{Q:Unit->PM->Prop}(X:K.In s.heap)(I:ObjM s.heap x dx C mA)
  (hs:Nq K (.ref C) "__setattr__" = PB (PB (.builtin "object.__setattr__"))) (hp:Pn K C=PD) (ht:OW K C name=PB PC) (hh:OM K C=PD)
  (hw:PySem.Within mA ns) (hsz:ns.length<=sizeLine)
  (h:∀d,ObjM d x dx C (λy=>if y=name then PB v else mA y)->Heap.SameBut dx s.heap d->Q () { s with heap:=d,toks:=s.toks+2 }) :
  PP (PQ prog w) A (setAttr (.ref x) name v) Q E s:=by
 obtain⟨q,J,o⟩:=I.look;show PySem.W.set_plain X J hs (PySem.W.osa_open (s:={ s with toks:=s.toks+1 }) (r:=PC) X J hp ht λb=>?_);obtain⟨n,l,e⟩:=PySem.W.any_some hh;let j:s.heap.get? x=PB ⟨.ref C,PB dx,.plain,#[]⟩:=I.obj;show PJ (PN (PJ (PJ (wpAny_loadPart j (PJ (PySem.W.Looks.here (s:={ s with toks:=s.toks+1 }) (PySem.W.looks_clsIn X l) ?_))))));rw[e];show PN (a:=PB dx) (PJ (PN (PJ ?_)));show wpAny_nsSet1 (s:={ s with toks:=s.toks+1 }) I.ns λd c hs2=>?_;obtain⟨p,m,k,f,i,g⟩:=c.count (PySem.Within.cons name v hw);show PJ (wpAny_lookBehind f (by rw[i];show pastItsLine_dict (Nb g (by rw[Nh];lia))) ?_);show PN (h _ ⟨(hs2.2 _ (Ne.symm I.ne)).trans I.obj,c,I.ne⟩ hs2)
theorem wN(X:K.In s.heap)(c:Pw K C=PD)(hi:Nq K (.ref C) "__init__" = PB (PB (.ref f)))(b:PySem.W.typeIn K (.ref f)=PB (.type "function"))(h:codeAny (PQ prog w) (A.under (.builtin "type.__call__" ⟨.ref C::vs,kw⟩)) (.call (.ref f) ⟨.ref (s.heap.objs.size+1)::vs,kw⟩) (PySem.W.InitBack (s.heap.objs.size+1) R)
   { s with heap:=(s.heap.push Nt).push (ND C s.heap.objs.size) }) :
  codeAny (PQ prog w) A (.call (.ref C) ⟨vs,kw⟩) R s:=by
 obtain⟨e,g,d,t,i⟩:=s;show PySem.W.make_core (PySem.W.makes_of X c) (PySem.W.looks_findIn X hi) (λa=>PySem.W.bind_fn X a b) (.inl rfl) h
end
noncomputable def putF(f:Str)(v:V):List (Str×V)->List (Str×V)
 |[]=>[(f,v)]
 |(g,x)::r=>if g=f then(g,v)::r else(g,x)::putF f v r
theorem jy(f g:Str)(v:V):∀fs:List (Str×V),(putF f v fs).lookup g=if g=f then PB v else fs.lookup g
 |[]=>by
  change Nz g [(f,v)]=_;by_cases h:g=f
  ·let a:(g==f)=PD:=beq_iff_eq.mpr h;simp only[Nz,a,if_pos h]
  ·let a:(g==f)=PF:=beq_eq_false_iff_ne.mpr h;simp only[Nz,a,if_neg h]
 |(k,x)::r=>by
  let b:=jy f g v r
  rw[show putF f v ((k,x)::r)=(if k=f then(k,v)::r else(k,x)::putF f v r) from rfl]
  by_cases hk:k=f
  ·rw[if_pos hk];by_cases h:g=k
   ·let a:(g==k)=PD:=beq_iff_eq.mpr h;simp only[Nz,a,if_pos (h.trans hk)]
   ·let a:(g==k)=PF:=beq_eq_false_iff_ne.mpr h;simp only[Nz,a,if_neg (λe:g=f=>h (e.trans hk.symm))]
  ·rw[if_neg hk];by_cases h:g=k
   ·let a:(g==k)=PD:=beq_iff_eq.mpr h;simp only[Nz,a,if_neg (λe:g=f=>hk (h.symm.trans e))]
   ·let a:(g==k)=PF:=beq_eq_false_iff_ne.mpr h;simp only[Nz,a];show b
theorem iO(f:Str)(v:V):∀fs:List (Str×V),f∈(putF f v fs).map (·.1)/\∀g,g∈fs.map (·.1)->g∈(putF f v fs).map (·.1)
 |[]=>⟨by simp[putF],λg h=>by simp at h⟩
 |(k,x)::r=>by
  obtain⟨b,a⟩:=iO f v r
  rw[show putF f v ((k,x)::r)=(if k=f then(k,v)::r else(k,x)::putF f v r) from rfl]
  by_cases hk:k=f
  ·rw[if_pos hk];subst hk;show⟨by simp,λg h=>by simpa using h⟩
  ·rw[if_neg hk];show⟨?_,λg h=>?_⟩
   ·rw[MQ];show MK _ b
   ·rw[MQ] at h⊢;rcases MD.mp h with e|e
    ·show MD.mpr (.inl e)
    ·show MK _ (a g e)
theorem jz(f:Str)(v:V):∀fs:List (Str×V),(putF f v fs).length<=fs.length+1
 |[]=>by simp[putF]
 |(k,x)::r=>by
  let a:=jz f v r
  rw[show putF f v ((k,x)::r)=(if k=f then(k,v)::r else(k,x)::putF f v r) from rfl]
  by_cases hk:k=f
  ·rw[if_pos hk,Nh,Nh];lia
  ·rw[if_neg hk,Nh,Nh];lia
theorem RelO.some_of(r:RelO (PB v) o):∃u,o=PB u/\RelV v u:=by
 cases o with
 |none=>show(show False from r).elim
 |some u=>show⟨u,rfl,r⟩
theorem RelO.none_of(r:RelO PC o):o=PC:=by
 cases o with
 |none=>rfl
 |some u=>show(show False from r).elim
theorem u6(r:RelV v u):Pp u=PD:=by
 cases v with
 |non=>cases(show u=Value.none from r);rfl
 |bl b=>cases(show u=Value.bool b from r);rfl
 |int i=>obtain⟨t,e⟩:=(show ∃t,u=Value.int i t from r);cases e;rfl
 |str x=>obtain⟨t,e⟩:=(show ∃t,u=Value.str x t from r);cases e;rfl
 |byt b=>obtain⟨t,e⟩:=(show ∃t,u=Value.bytes b t from r);cases e;rfl
 |flt b=>obtain⟨t,e⟩:=(show ∃t,u=Value.float b t from r);cases e;rfl
 |ref a=>cases(show u=Value.ref a from r);rfl
 |ty n=>cases(show u=Value.type n from r);rfl
section
variable {P:PR} {w:PX} {H H':Hp} {h h':PZ} {a C dx:PL} {fs fs':List (Str×V)}
theorem mY(b:HOk P w H h)(e:H a=PB (.ins C dx fs)):∃mA,ObjM h a dx C mA/\(∀f,RelO (fs.lookup f) (mA f))/\PySem.Within mA (fs.map (·.1))/\fs.length<=1000/\H dx=PB (.own a):=by
 obtain⟨d,z,g,c,mA,n,r,q⟩:=(show ObjOk P w H h a (.ins C dx fs) from b a _ e);show⟨mA,⟨c,n,g⟩,r,q,z,d⟩
end
structure Cls(K:Mu)(C:Addr):Prop where
 pg:Op K C Str.empty=PD
 hd:OM K C=PD
 po:Pn K C=PD
 sa:Nq K (.ref C) "__setattr__" = PB (PB (.builtin "object.__setattr__"))
theorem Cls.get{K:Mu}{C:PL}(c:Cls K C)(f:Str):Op K C f=PD:=c.pg
def NoAttr(K:Mu)(C:PL)(f:Str):Prop:=Nq K (.ref C) f=PB PC
theorem NoAttr.taker{K:Mu}{C:PL}{f:Str}(n:NoAttr K C f):OW K C f=PB PC:=by
 unfold OW;rw[show Nq K (.ref C) f=PB PC from n];rfl
structure Ms(K:Mu)(C:Addr)(f:Str)(v:V)(u:Value):Prop where
 at_:Nq K (.ref C) f=PB (PB u)
 rel:RelV v u
 get:PySem.W.specialIn K u "__get__" = PB PC
 cp:PySem.W.copiedNames.contains f=PF
structure oH(K:Mu)(C:Addr)(m:Str)(f:Addr):Prop where
 at_:Nq K (.ref C) m=PB (PB (.ref f))
 fn:Pd K (.ref f)=PD
 kp:Nr K (.ref f)=PD
section
variable {X:Cx} {pins:List (PL×Obj)} {Y:St} {H:Hp} {s:PM} {a C dx:PL} {fs:List (Str×V)} {f:Str} {v:V} {A:PY} {E:PH->PM->Prop}
theorem qA{Q:PH->PM->Prop}(I:Inv X pins Y H s)(e:H a=PB (.ins C dx fs))(c:Cls X.K C)(n:NoAttr X.K C f)(l:fs.lookup f=PB v)(h:∀u s',Inv X pins Y H s'->RelV v u->Q u s'):PP (PQ X.prog X.w) A (getAttr (.ref a) f b) Q E s:=by
 obtain⟨g,O,r,_,_,_⟩:=mY I.hok e;obtain⟨u,i,d⟩:=RelO.some_of (v:=v) (o:=g f) (by rw[<- l];show r f);show zZ I.kIn O (c.get f) c.hd n i (u6 d) (h u _ (I.tok _) d)
theorem qB{Q:PH×List PH->PM->Prop}(I:Inv X pins Y H s)(e:H a=PB (.ins C dx fs))(c:Cls X.K C)(k:oH X.K C m g)(l:fs.lookup m=PC)(h:Q (.ref g,[.ref a]) s):PP (PQ X.prog X.w) A (getMethod (.ref a) m pl) Q E s:=by
 obtain⟨d,O,r,_,_,_⟩:=mY I.hok e;let b:d m=PC:=RelO.none_of (by rw[<- l];show r m);show wM I.kIn O (c.get m) k.at_ k.fn b h
theorem qC{Q:Unit->PM->Prop}(I:Inv X pins Y H s)(e:H a=PB (.ins C dx fs))(c:Cls X.K C)(n:NoAttr X.K C f)(F:fs.length<1000)(B:RelV y u)(h:∀s',Inv X pins Y (upd H a (.ins C dx (putF f y fs))) s'->Q () s'):PP (PQ X.prog X.w) A (setAttr (.ref a) f u) Q E s:=by
 obtain⟨i,O,r,j,_,k⟩:=mY I.hok e;let t:(fs.map (·.1)).length<=sizeLine:=by rw[My,sizeLine_eq];lia
 show z3 I.kIn O c.sa c.po n.taker c.hd j t λm d v=>h _ ?_;let D:∃o,m.get? dx=PB o:=let ⟨o,_,_,e',_⟩:=d.ns;⟨o,e'⟩;show I.write (x:=a) (e:=dx) (by rw[e];show True.intro) (.inr k) (λb q l z=>(v.2 b l).trans z) D ?_;show⟨by rw[ag O.ne];show k,?_,O.ne,d.obj,_,d.ns,λg=>?_,λg p=>?_⟩
 ·have:=jz f y fs;lia
 ·change RelO ((putF f y fs).lookup g) (if g=f then PB u else i g)
  rw[jy];by_cases q:g=f
  ·rw[if_pos q,if_pos q];show B
  ·rw[if_neg q,if_neg q];show r g
 ·by_cases q:g=f
  ·rw[q];show(iO f y fs).1
  ·show(iO f y fs).2 g (j g λz=>p ?_)
   change(if g=f then PB u else i g)=PC
   rw[if_neg q];show z
theorem Inv.made(I:Inv X pins Y H s):Inv X pins Y (upd (upd H s.heap.objs.size (.own (s.heap.objs.size+1))) (s.heap.objs.size+1) (.ins C s.heap.objs.size []))
  { s with heap:=(s.heap.push Nt).push (ND C s.heap.objs.size) }:=by
 let e1:(s.heap.push Nt).get? s.heap.objs.size=PB Nt:=ML s.heap rfl
 let e2:((s.heap.push Nt).push (ND C s.heap.objs.size)).get? (s.heap.objs.size+1)=PB (ND C s.heap.objs.size):=by
  have:=ML (s.heap.push Nt) (o:=ND C s.heap.objs.size) rfl;rwa [NW] at this
 let e3:(s.heap.push Nt).Ns s.heap.objs.size (λ_=>PC):=⟨Nt,#[],_,e1,rfl,(λe d=>absurd d (by simp)),λ_=>rfl⟩;let f:=I.laid (a:=s.heap.objs.size) (o:=.own (s.heap.objs.size+1)) (h':=s.heap.push Nt) (t':=s.toks) (λb u q=>Mx _ q) (Mz _) ⟨_,e1⟩;show f.laid (a:=s.heap.objs.size+1) (o:=.ins C s.heap.objs.size []) (t':=s.toks) (λb u q=>Mx _ q) (Nat.le_of_eq (NW _ _)) ?_;let c:s.heap.objs.size≠s.heap.objs.size+1:=MM (NH _);show⟨by rw[ag c,ak],M3 _,c,e2,λ_=>PC,(Heap.Ns1.of_empty e3).at λo q=>Mx _ q,λ_=>True.intro,λy g=>absurd rfl g⟩
theorem z4(a:attributeBase e f env (eval e env)=eval e env)(h:PP (PQ prog w) A (eval e env) (λo b=>PP (PQ prog w) A (getAttr o f PD) Q E b) E s):PP (PQ prog w) A (eval (.Attribute e f pos) env) Q E s:=
 Attribute_any_ h (by rw[arm_eval_Attribute,a])
end
def JU(K:Mu)(ta:TE)(f:Str):TE:=λY H Q=>ta Y H λx H1=>∃a C dx fs v,x=.ref a/\H1 a=PB (.ins C dx fs)/\Cls K C/\NoAttr K C f/\fs.lookup f=PB v/\Q v H1
def JV(K:Mu)(ta tv:TE)(f:Str):TS:=λD Y H=>tv Y H λy H1=>ta Y H1 λx H2=>∃a C dx fs,x=.ref a/\H2 a=PB (.ins C dx fs)/\Cls K C/\NoAttr K C f/\fs.length<1000/\
 D.nx Y (upd H2 a (.ins C dx (putF f y fs)))
section
variable {X:Cx} {o e value:PK} {f:Str} {pos pos' tpos:Pos} {ta tv:TE}
theorem wP(i:PE X e ta)(d:attributeBase e f X.env (eval e X.env)=eval e X.env):PE X (.Attribute e f pos) (JU X.K ta f):=by
 intro b s Y H Q I h;show z4 d (aY (i b s Y H _ I h) λu s1 ⟨x,r,k,j,a,C,y,w,v,g,p,c,n,l,q⟩=>?_);subst g;obtain rfl:u=Value.ref a:=j;show qA k p c n l λt s2 o m=>⟨v,r,o,m,q⟩
theorem Dz(z:PE X o ta)(j:PE X value tv)(e:swapsWith value (PB (.Attribute o f pos')) pos.line X.env=pure PF):PS X (.Assign [.Attribute o f pos'] value pos) (JV X.K ta tv f):=by
 intro b s Y H D I h;show plainObj_wpAny_Assign_Attribute (aY (j b s Y H _ I h) λu s1 ⟨y,w,k,m,q⟩=>aY (z b s1 Y w _ k q) λg s2 ⟨x,F,p,i,a,C,E,B,d,r,c,n,l,v⟩=>?_) e;subst d;obtain rfl:g=Value.ref a:=i;show qC p r c n l m λA t=>⟨Y,_,t,v⟩
end
section
variable {X:Cx} {pins:List (PL×Obj)} {Y:St} {H:Hp} {s:PM} {A:PY} {E:PH->PM->Prop} {Q:PH->PM->Prop} {c:PH} {b:Bool}
inductive qD (K:Mu) (H:Hp):V->Value->Prop where
 |bl (x:Bool):qD K H (.bl x) (.type "bool")
 |int (i:Int):qD K H (.int i) (.type "int")
 |lst {a:PL} {xs:List V} (e:H a=PB (.lst xs)):qD K H (.ref a) (.type "list")
 |tup {a:PL} {xs:List V} (e:H a=PB (.tup xs)):qD K H (.ref a) (.type "tuple")
theorem u7(I:Inv X pins Y H s)(d:RelV x u)(ty:qD X.K H x t)(e:NX X.K t c=PB b)(h:∀tk,Q (.bool b) { s with toks:=tk }) :
  PP (PQ X.prog X.w) A (call (.builtin "isinstance") [u,c]) Q E s:=by
 cases ty with
 |bl y=>cases(show u=Value.bool y from d);show Ox PySem.W.kitx_bool I.kIn True.intro e (λz=>nomatch z) h
 |int i=>obtain⟨t,q⟩:=(show ∃t,u=Value.int i t from d);cases q;show Ox PySem.W.kitx_int I.kIn True.intro e (λz=>nomatch z) h
 |@lst a f g=>
  cases(show u=Value.ref a from d);obtain⟨_,_,n,_,j⟩:=(show ObjOk X.prog X.w H s.heap a (.lst f) from I.hok a _ g)
  show Ox PySem.W.kitx_list I.kIn ⟨_,j,rfl⟩ e (λz=>nomatch z) h
 |@tup a f g=>
  cases(show u=Value.ref a from d);obtain⟨_,_,_,p⟩:=(show ObjOk X.prog X.w H s.heap a (.tup f) from I.hok a _ g);obtain⟨o,j,k,_⟩:=p
  show Ox PySem.W.kitx_tuple I.kIn ⟨o,j,k⟩ e (λz=>nomatch z) h
end
structure Room(k:Nat)(A:Around):Prop where
 hd:A.handled=PC
 dp:A.depth+3*k+5<recursionLimit
 un:A.units+16*k+200<cLine
 gd:A.guards=PB []
theorem Room.mono{j k:Nat}(r:Room k A)(h:j<=k):Room j A:=⟨r.hd,by have:=r.dp;lia,by have:=r.un;lia,r.gd⟩
theorem Room.deeper{k:Nat}{A:PY}(r:Room (k+1) A)(env:Env):Room k (A.deeper env):=
 ⟨r.hd,by have:=r.dp;change A.depth+1+3*k+5<_;lia,by have:=r.un;change A.units+3+16*k+200<_;lia,r.gd⟩
theorem qG{A:PY}:(A.under (.builtin "type.__call__" ⟨.ref C::us,kw⟩)).depth=A.depth+1:=by
 first|rfl|simp[Around.under,Code.weight,Code.isCreation,Code.isGuard,Code.isCaller,Code.frames,Code.isFrame,guardIds]
theorem qH{A:PY}:(A.under (.builtin "type.__call__" ⟨.ref C::us,kw⟩)).units=A.units+1:=by
 first|rfl|simp[Around.under,Code.cUnits,Code.frames,Code.isFrame]
theorem oI{A:PY}:(A.under (.builtin "type.__call__" ⟨.ref C::us,kw⟩)).guards=A.guards:=by
 first|rfl|simp[Around.under,Code.weight,Code.isCreation,Code.isGuard,Code.isCaller,Code.frames,Code.isFrame,guardIds]
theorem Room.make{k:Nat}{A:PY}(r:Room (k+1) A)(C:PL)(us:List PH)(a:List (Str×PH)):Room k (A.under (.builtin "type.__call__" ⟨.ref C::us,a⟩)):=
 ⟨r.hd,by have:=r.dp;rw[qG];lia,by have:=r.un;rw[qH];lia,by rw[oI];show r.gd⟩
theorem Room.depth{A:PY}(r:Room k A):A.depth<recursionLimit:=by have:=r.dp;lia
def JW:TA:=λ_ H Q=>Q [] H
def GL(ta:TE)(q:TA):TA:=λY H Q=>ta Y H λx H1=>q Y H1 λxs H2=>Q (x::xs) H2
section
variable {X:Cx} {e:PK} {es:List PK} {te:TE} {t:TA} {pos:Pos}
theorem dQ:PA X [] JW:=λ_ _ _ _ H Q I h=>Calls.spliced_nil ⟨[],H,I,.nil,h⟩
theorem bw(p:PE X e te)(g:PA X es t)(j:PU (e::es) X.env=(PF,eval e X.env)::PU es X.env:=by rfl):PA X (e::es) (GL te t):=by
 intro b a s Y H Q I h;rw[j];change PP _ _ (spliced ((PF,eval e X.env)::backTo b (PU es X.env))) _ _ s;show Calls.spliced_cons (aY (p a s Y H _ I h) λu s1 ⟨x,o,l,c,i⟩=>?_);show aY (g b a s1 Y o _ l i) λq s2 ⟨d,m,n,f,k⟩=>⟨x::d,m,n,.cons c f,k⟩
def JX(t:TA):TE:=λY H Q=>t Y H λxs H1=>xs.length<=sizeLine/\∀p,H1 p=PC->Q (.ref p) (upd H1 p (.tup xs))
def JY(t:TA):TE:=λY H Q=>t Y H λxs H1=>xs.length<=sizeLine/\∀p,H1 p=PC->Q (.ref p) (upd H1 p (.lst xs))
theorem mZ{i}(h:PA X es t):PE X (.Tuple es i pos) (JX t):=by
 intro a s Y H Q I k;show wpAny_Tuple_spliced (aY (h pos a s Y H _ I k) λg s1 ⟨f,d,c,r,z,q⟩=>⟨by rw[<- r.length];show z,?_⟩);let j:d s1.heap.objs.size=PC:=c.hok.fresh (Mz _);show⟨.ref s1.heap.objs.size,upd d s1.heap.objs.size (.tup f),c.laid (t':=s1.toks) (λb u e=>Mx _ e) (Mz _) ?_,rfl,q _ j⟩;show⟨z,g,r,⟨_,ML _ rfl,rfl,_,rfl⟩⟩
theorem DA(h:PA X es t):PE X (.List es pos) (JY t):=by
 intro a s Y H Q I j;show wpAny_List_spliced (aY (h pos a s Y H _ I j) λg s1 ⟨f,d,c,r,z,q⟩=>⟨by rw[<- r.length];show z,?_⟩);let i:d s1.heap.objs.size=PC:=c.hok.fresh (Mz _);show⟨.ref s1.heap.objs.size,upd d s1.heap.objs.size (.lst f),c.laid (t':=s1.toks) (λb u e=>Mx _ e) (Mz _) ?_,rfl,q _ i⟩;show⟨z,g,0,r,ML _ rfl⟩
end
abbrev Sp:=List V->Hp->VK->XK->Prop
abbrev u8:=List Env->Hp->PM->XK->PH->PM->Prop
structure Env0(P:Program)(w:World)(K:Mu)(mg:Str->Option Value)(base:Heap)(A:Around)(outer:List Env)(s:Shared)(H:Hp):Prop where
 frames:A.frames=PB outer
 mod:Mod K mg base
 bs:∀b o,base.get? b=PB o->s.heap.get? b=PB o/\H b=PC
 bsz:base.objs.size<=s.heap.objs.size
 funs:s.heap.FunFrames base outer
 frf:∀b∈we outer,H b=PC
 hok:HOk P w H s.heap
 bare:AllBare s.gens
def CE(q:List Env)(P:PR)(w:PX)(H:Hp)(s:PM)(Q:VK)(u:PH)(s':PM):Prop:=
 ∃v H',s'.os=s.os/\AllBare s'.gens/\Un (we q) [] H H' s.heap s'.heap/\HOk P w H' s'.heap/\RelV v u/\Q v H'
def CR(CX:u8)(q:List Env)(P:PR)(w:PX)(H:Hp)(s:PM)(Q:VK)(E:XK)(r:Result)(s':PM):Prop:=
 match r with
 |.ok (.ret u)=>CE q P w H s Q u s'
 |.ok _=>False
 |.error e=>CX q H s E e s'
structure FnOk(P:Program)(w:World)(K:Mu)(mg:Str->Option Value)(base:Heap)(CX:u8)(k:Nat)(f:Addr)(fd:FuncData)(ps:List Str)(sp:Sp):Prop where
 len:∀vs H Q E,sp vs H Q E->vs.length=ps.length
 run:∀(A:PY) (outer:List Env) (s:PM) (H:Hp) (args:Args) (us:List PH) (vs:List V) (Q:VK) (E:XK),Room k A->Env0 P w K mg base A outer s H->BindsTo s fd args (ps.zip us)->Vals vs us->sp vs H Q E->
  codeAny (PQ P w) A (.call (.ref f) args) (CR CX outer P w H s Q E) s
theorem FnOk.mono{P:PR}{w:PX}{K:Mu}{mg:Str->Option PH}{base:PZ}{CX:u8}{j k:Nat}{f:PL}{fd:P4}{ps:List Str}{sp:Sp}(F:FnOk P w K mg base CX j f fd ps sp)(h:j<=k) :
  FnOk P w K mg base CX k f fd ps sp:=⟨F.len,λA a s H b e d Q E c=>F.run A a s H b e d Q E (c.mono h)⟩
theorem FnOk.imp{P:PR}{w:PX}{K:Mu}{mg:Str->Option PH}{base:PZ}{CX:u8}{k:Nat}{f:PL}{fd:P4}{ps:List Str}{sp c:Sp}(F:FnOk P w K mg base CX k f fd ps sp)
  (h:∀b H Q E,c b H Q E->sp b H Q E):FnOk P w K mg base CX k f fd ps c:=
 ⟨λb H Q E q=>F.len b H Q E (h _ _ _ _ q),λA a s H d m b Q E i g e l j=>F.run A a s H d m b Q E i g e l (h _ _ _ _ j)⟩
theorem Env0.make{P:PR}{w:PX}{K:Mu}{mg:Str->Option PH}{base:PZ}{A:PY}{a:List Env}{s:PM}{H:Hp}(e:Env0 P w K mg base A a s H)(C:PL)(us:List PH)(b:List (Str×PH)) :
  Env0 P w K mg base (A.under (.builtin "type.__call__" ⟨.ref C::us,b⟩)) a s H:=⟨by first|show e.frames|(simpa[Around.under,Code.envs,Code.isFrame,pushEnvs] using e.frames),e.mod,e.bs,e.bsz,e.funs,e.frf,e.hok,e.bare⟩
section
variable {X:Cx} {pins:List (PL×Obj)} {Y:St} {H:Hp} {s s':PM}
theorem Inv.env0(I:Inv X pins Y H s):Env0 X.prog X.w X.K X.mg X.base X.A X.stack s H:=
 ⟨I.ok.frames,I.ok.mod,I.bs,Nb I.ok.bsz I.sz,I.stack,I.stkFree,I.hok,I.bare⟩
theorem Inv.after(I:Inv X pins Y H s)(h:CE X.stack X.prog X.w H s Q u s'):EP X pins Y Q u s':=by
 obtain⟨v,j,k,a,f,e,r,q⟩:=h;obtain⟨i,g,d,t,c⟩:=s';obtain rfl:c=s.os:=k;show⟨v,j,I.call (h':=i) (g':=g) (d':=d) (t':=t) (ch:=[]) f e a (λb z=>absurd z (by simp)),r,q⟩
end
def GM(sp:Sp)(dvs:List V)(E:XK)(t:TA):TE:=λY H Q=>t Y H λvs H1=>sp (vs++dvs) H1 Q E
def GN(C:PL)(m:Str)(sp:Sp)(dvs:List V)(E:XK)(ta:TE)(t:TA):TE:=λY H Q=>ta Y H λx H1=>∃a dx fs,x=.ref a/\H1 a=PB (.ins C dx fs)/\fs.lookup m=PC/\
 t Y H1 λvs H2=>sp (x::(vs++dvs)) H2 Q E
def GO(C:PL)(sp:Sp)(dvs:List V)(E:XK)(t:TA):TE:=λY H Q=>t Y H λvs H1=>∀x dx,H1 x=PC->H1 dx=PC->dx≠x->
 sp (.ref x::(vs++dvs)) (upd (upd H1 dx (.own x)) x (.ins C dx [])) (λv H2=>v=.non/\Q (.ref x) H2) E
def Binds(K:Mu)(fd:P4)(ps:List Str)(ds:List PH):Prop:=
 ∀(s:PM) (us:List PH),K.In s.heap->(us++ds).length=ps.length->BindsTo s fd ⟨us,[]⟩ (ps.zip (us++ds))
theorem Binds.all{K:Mu}{fd:P4}{ps:List Str}(h:∀us:List PH,us.length=ps.length->bindArgs fd ⟨us,[]⟩=pure (ps.zip us)):Binds K fd ps []:=λs us _ a=>by
 rw[Nj] at a⊢;show .of_eq (h us a)
def iP(CX:u8)(X:Cx)(E:XK):Prop:=∀(pins:List (PL×Obj)) (Y:St) (H:Hp) (s:PM) (e:PH) (s':PM),Inv X pins Y H s->CX X.stack H s E e s'->X.xe e s'
section
variable {X:Cx} {CX:u8} {k:Nat} {f C:PL} {fd:P4} {ps:List Str} {sp:Sp} {dvs:List V} {ds:List PH} {E:XK} {x m:Str} {p pos apos:Pos} {e o:PK} {es:List PK} {ta:TE} {t:TA}
theorem wQ{vs:List V}(F:FnOk X.prog X.w X.K X.mg X.base CX k f fd ps sp)(i:Room k X.A)(c:Binds X.K fd ps ds)(hd:Vals dvs ds)(d:iP CX X E)(I:Inv X pins Y H s)(r:Vals vs us)(h:sp (vs++dvs) H Q E):PP (PQ X.prog X.w) X.A (call (.ref f) us) (EP X pins Y Q) X.xe s:=by
 let b:Vals (vs++dvs) (us++ds):=r.append hd;let g:(us++ds).length=ps.length:=by rw[<- b.length];show F.len _ _ _ _ h
 show wpAny_call (codeAny_mono (F.run X.A X.stack s H ⟨us,[]⟩ (us++ds) (vs++dvs) Q E i I.env0 (c s us I.kIn g) b h) λr l a=>?_)
 cases r with
 |error e=>show d pins Y H s e l I a
 |ok j=>
  cases j with
  |ret u=>show I.after a
  |next=>show False.elim a
  |brk=>show False.elim a
  |cont=>show False.elim a
theorem sC(F:FnOk X.prog X.w X.K X.mg X.base CX k f fd ps sp)(i:Room k X.A)(g:Gl X x)(j:X.mg x=PB (.ref f))(hk:Nr X.K (.ref f)=PD)(c:Binds X.K fd ps ds)(hd:Vals dvs ds)(d:iP CX X E)
  (ha:PA X (e::es) t) (hdb:(x==("__debug__":Str))=PF:=by decide) (he:PU (e::es) X.env=(PF,eval e X.env)::PU es X.env:=by rfl) (hpl:(backTo pos (PU es X.env)).any (·.1)=PF:=by rfl) :
  PE X (.Call (.Name x p) (e::es) [] pos) (GM sp dvs E t):=by
 intro a s Y H Q I h;show wpAny_Call_Name_kw (mW I g j ?_ hdb);show OG (h₀:=X.base) I.ok.mod.kin hk (aY (ha pos a s Y H _ I h) λm s1 ⟨l,n,b,r,q⟩=>⟨b.kIn,?_⟩) he hpl;show wQ F i c hd d b r q
theorem sD(M:PE X o ta)(c:Cls X.K C)(n:oH X.K C m f)(F:FnOk X.prog X.w X.K X.mg X.base CX k f fd ps sp)(z:Room k X.A)(p:Binds X.K fd ps ds)(hd:Vals dvs ds)(y:iP CX X E)(L:PA X (e::es) t)(g:PU (e::es) X.env=(PF,eval e X.env)::PU es X.env:=by rfl)(d:(backTo pos (PU es X.env)).any (·.1)=PF:=by rfl)(N:eval (.Call (.Attribute o m apos) (e::es) [] pos) X.env=(do
   let ov <- eval o X.env
   standAt apos.atName
   let (f,first) <- holding [ov] (getMethod ov m pl)
   callWith pos f first (backTo pos (PU (e::es) X.env)) (backToKw pos (keywordEach [] X.env))):=by rfl) :
  PE X (.Call (.Attribute o m apos) (e::es) [] pos) (GN C m sp dvs E ta t):=by
 intro b s Y H Q I h;show PySem.W.methodCall_KW (pl:=pl) (aY (M b s Y H _ I h) λu s1 ⟨x,P,j,B,a,T,S,v,D,l,q⟩=>?_) N;subst v;obtain rfl:u=Value.ref a:=B;show qB j D c n l ?_
 show OG (first:=[.ref a]) (h₀:=X.base) I.ok.mod.kin n.kp (aY (L pos b s1 Y P _ j q) λus s2 ⟨vs,R,i,r,O⟩=>⟨i.kIn,?_⟩) g d
 show wQ (us:=.ref a::us) (vs:=.ref a::vs) F z p hd y i (.cons rfl r) O
structure Mk(K:Mu)(C f:Addr):Prop where
 makes:Pw K C=PD
 init:Nq K (.ref C) "__init__" = PB (PB (.ref f))
 fn:Pd K (.ref f)=PD
 kp:Nr K (.ref C)=PD
theorem wR{H:Hp}{Q:VK}{vs:List V}(M:Mk X.K C f)(F:FnOk X.prog X.w X.K X.mg X.base CX k f fd ps sp)(m:Room (k+1) X.A)(g:Binds X.K fd ps ds)(hd:Vals dvs ds)(j:iP CX X E)(I:Inv X pins Y H s)(r:Vals vs us)(h:∀x dx,H x=PC->H dx=PC->dx≠x->sp (.ref x::(vs++dvs)) (upd (upd H dx (.own x)) x (.ins C dx [])) (λv H2=>v=.non/\Q (.ref x) H2) E) :
  PP (PQ X.prog X.w) X.A (call (.ref C) us) (EP X pins Y Q) X.xe s:=by
 let d:=h (s.heap.objs.size+1) s.heap.objs.size (I.hok.fresh (NK _)) (I.hok.fresh (Mz _)) (MM (NH _));let b:=Inv.made (C:=C) I;let c:Vals (V.ref (s.heap.objs.size+1)::(vs++dvs)) (Value.ref (s.heap.objs.size+1)::(us++ds)):=.cons rfl (r.append hd)
 let p:(Value.ref (s.heap.objs.size+1)::us++ds).length=ps.length:=by
  let e:=c.length;rw[F.len _ _ _ _ d] at e;show e.symm
 show wpAny_call (wN (f:=f) I.kIn M.makes M.init (beq_iff_eq.mp M.fn) (codeAny_mono (F.run _ X.stack _ _ ⟨Value.ref (s.heap.objs.size+1)::us,[]⟩ (Value.ref (s.heap.objs.size+1)::(us++ds)) _ _ E (m.make C us [])
  (b.env0.make C us []) (g _ (Value.ref (s.heap.objs.size+1)::us) b.kIn p) c d) λr n a=>?_))
 cases r with
 |error e=>show j pins Y _ _ e n b a
 |ok y=>
  cases y with
  |ret u=>
   obtain⟨v,l,q,i,t,o⟩:=b.after a;subst t;show⟨i,⟨V.ref (s.heap.objs.size+1),l,q,rfl,o⟩⟩
  |next=>show False.elim a
  |brk=>show False.elim a
  |cont=>show False.elim a
theorem z5(M:Mk X.K C f)(F:FnOk X.prog X.w X.K X.mg X.base CX k f fd ps sp)(i:Room (k+1) X.A)(g:Gl X x)(j:X.mg x=PB (.ref C))(c:Binds X.K fd ps ds)(hd:Vals dvs ds)(d:iP CX X E)
  (ha:PA X (e::es) t) (hdb:(x==("__debug__":Str))=PF:=by decide) (he:PU (e::es) X.env=(PF,eval e X.env)::PU es X.env:=by rfl) (hpl:(backTo pos (PU es X.env)).any (·.1)=PF:=by rfl) :
  PE X (.Call (.Name x p) (e::es) [] pos) (GO C sp dvs E t):=by
 intro a s Y H Q I h;show wpAny_Call_Name_kw (mW I g j ?_ hdb);show OG (h₀:=X.base) I.ok.mod.kin M.kp (aY (ha pos a s Y H _ I h) λm s1 ⟨l,n,b,r,q⟩=>⟨b.kIn,?_⟩) he hpl;show wR M F i c hd d b r q
end
section
variable {X:Cx} {CX:u8} {k:Nat} {f C:PL} {fd:P4} {ps ks:List Str} {sp:Sp} {E:XK} {x m:Str} {p pos apos kpos:Pos} {e o:PK} {es:List PK} {kws:List Keyword} {te ta:TE} {t tk:TA} {nm:Option Str}
structure JZ(K:Mu)(fd:FuncData)(ps ks:List Str)(g:List Value->List Value->List Value)(gV:List V->List V->List V):Prop where
 to:∀(s:PM) (us ws:List PH),K.In s.heap->(g us ws).length=ps.length->BindsTo s fd ⟨us,ks.zip ws⟩ (ps.zip (g us ws))
 rel:∀{vs:List V} {us:List PH} {zs:List V} {ws:List PH},Vals vs us->Vals zs ws->Vals (gV vs zs) (g us ws)
variable {g:List PH->List PH->List PH} {gV:List V->List V->List V}
end
structure a6(N P:List Str)(sc:Scope):Prop where
 kind:sc.kind=.function
 co:sc.isCoroutine=PF
 gen:sc.isGenerator=PF
 nd:N.Nodup
 pre:N.take P.length=P
 par:∀x∈P,sc.names.lookup x=PB .local\/sc.names.lookup x=PB .cell
 nofree:∀y∈sc.names,y.2≠.free
theorem lW{b:Str->Option P7}{x:Str}:∀{a:List (Str×PH)} {m:Str->Option PH},(∀v,(x,v)∉a)->bindL b a m x=m x
 |[],_,_=>rfl
 |(n,v)::r,m,h=>by
  unfold bindL;rw[lW λw c=>h w (MK _ c)];split
  ·have:x≠n:=by rintro rfl;show h v MX
   simp[this]
  ·rfl
theorem lX{b:Str->Option P7}{x:Str}:∀{a:List (Str×PH)} {m:Str->Option PH},(∀v,(x,v)∉a)->bindC b a m x=m x
 |[],_,_=>rfl
 |(n,v)::r,m,h=>by
  unfold bindC;rw[lX λw c=>h w (MK _ c)];split
  ·rfl
  ·have:x≠n:=by rintro rfl;show h v MX
   simp[this]
theorem lY{a:Str->Option P7}{x:Str}{v:PH}:∀{P:List Str} {vs:List PH} {i:Nat} {m:Str->Option PH},P.Nodup->P[i]?=PB x->vs[i]?=PB v->a x=PB .local->
  bindL a (P.zip vs) m x=PB v
 |[],_,_,_,_,h,_,_=>by simp at h
 |_::_,[],_,_,_,_,h,_=>by simp at h
 |p::P,w::vs,0,m,nd,h1,h2,hk=>by
  simp at h1 h2;subst h1;subst h2;change bindL a ((p,w)::P.zip vs) m p=_;unfold bindL;rw[lW λv b=>(MW.mp nd).1 (OX b).1,if_pos hk];simp
 |p::P,w::vs,i+1,m,nd,h1,h2,hk=>by
  change bindL a ((p,w)::P.zip vs) m x=_;unfold bindL;show lY (i:=i) (MW.mp nd).2 (by simpa using h1) (by simpa using h2) hk
theorem lZ{a:Str->Option P7}{x:Str}{v:PH}:∀{P:List Str} {vs:List PH} {i:Nat} {m:Str->Option PH},P.Nodup->P[i]?=PB x->vs[i]?=PB v->a x≠PB .local->
  bindC a (P.zip vs) m x=PB v
 |[],_,_,_,_,h,_,_=>by simp at h
 |_::_,[],_,_,_,_,h,_=>by simp at h
 |p::P,w::vs,0,m,nd,h1,h2,hk=>by
  simp at h1 h2;subst h1;subst h2;change bindC a ((p,w)::P.zip vs) m p=_;unfold bindC;rw[lX λv b=>(MW.mp nd).1 (OX b).1,if_neg hk];simp
 |p::P,w::vs,i+1,m,nd,h1,h2,hk=>by
  change bindC a ((p,w)::P.zip vs) m x=_;unfold bindC;show lZ (i:=i) (MW.mp nd).2 (by simpa using h1) (by simpa using h2) hk
noncomputable def bP(N:List Str)(vs:List V):St:=vs.map PB++Nc (N.length-vs.length) PC
noncomputable def lG(CX:u8)(P:PR)(w:PX)(K:Mu)(mg:Str->Option PH)(base:PZ)(N:List Str)(qual:Str)(scope:P1)(f:PL)(B:PH)(A:PY)(outer:List Env)(s:PM)(H:Hp)(E:XK):Cx where
 prog:=P
 w:=w
 K:=K
 mg:=mg
 base:=base
 A:=A.deeper (envOfC qual scope s.heap.objs.size f B)
 N:=N
 s₀:=s
 H₀:=H
 env:=envOfC qual scope s.heap.objs.size f B
 outer:=outer
 stack:=envOfC qual scope s.heap.objs.size f B::outer
 ex:=[]
 calm:=PD
 fn:=λ_=>PD
 pn:=[]
 xe:=λe s'=>PP (PQ P w) (A.deeper (envOfC qual scope s.heap.objs.size f B)) (leaving (envOfC qual scope s.heap.objs.size f B) e) (λ_ q=>CX outer H s E e q) (λO q=>CX outer H s E O q) s'
theorem oJ{a:P1}{x:Str}(h:a.names.lookup x=PB .cell):∃c,(P3 n a.names []).lookup x=PB c:=by
 let q:=O1 a.names n [] (.inl h);show Option.isSome_iff_exists.mp q
theorem u9{CX:u8}{P:PR}{w:PX}{K:Mu}{mg:Str->Option PH}{base:PZ}{N ps:List Str}{qual:Str}{scope:P1}{f:PL}{B:PH}{A:PY}{d:List Env}{s s1:PM}{H:Hp}{E:XK}{us:List PH}{vs:List V}
  (S:a6 N ps scope) (hd:A.handled=PC) (e0:Env0 P w K mg base A d s H) (hl:vs.length=ps.length) (r:Vals vs us)
  (x:InCallC s s.heap.objs.size (bindL (envOfC qual scope s.heap.objs.size f B).kindOf (ps.zip us) λ_=>PC) (P3 (s.heap.objs.size+1) scope.names []) (bindC (envOfC qual scope s.heap.objs.size f B).kindOf (ps.zip us) λ_=>PC) s1) :
  Inv (lG CX P w K mg base N qual scope f B A d s H E) [] (bP N vs) H s1:=by
 let L:ps.length<=N.length:=by have:=congrArg NU S.pre;rw[M8] at this;lia
 obtain⟨C,O,rfl,hk⟩:=x.done;let j:∀b:PL,b∉(lG CX P w K mg base N qual scope f B A d s H E).ex:=λb z=>absurd (show b∈([]:List PL) from z) (by simp)
 show⟨⟨e0.mod,S.kind,rfl,rfl,Mz _,λy z c C g=>?_,λy l=>?_,λy c _ h=>?_,λ_=>hd,Around.frames_deeper e0.frames,.inr ⟨rfl,rfl⟩,λb z=>absurd z (j b),e0.bs,e0.bsz,λb _ _=>j b,λb z=>absurd z (j b),e0.funs,e0.frf⟩,
  rfl,e0.bare,Un.kept hk,⟨_,x.toInCall.ns,λi y v C g M=>?_⟩,λy c h=>⟨_,x.cell y c h⟩,e0.hok.fresh (Mz _),λy c h=>?_,λp o=>absurd (show p∈([]:List (PL×Obj)) from o) (by simp),e0.hok.kept hk,?_⟩
 ·show name_of_addr x.apart (PySem.mem_of_lookup C) (PySem.mem_of_lookup g)
 ·let l:scope.names.lookup y=PB .cell\/scope.names.lookup y=PB .free:=l;rcases l with l|l
  ·show oJ l
  ·show absurd rfl (S.nofree _ (PySem.mem_of_lookup l))
 ·show Of (x.above y c (PySem.mem_of_lookup h))
 ·let t:i<vs.length:=by
   unfold bP at g;by_cases t:i<vs.length
   ·show t
   ·rw[MZ (by simpa using t)] at g;rw[OU] at g
    split at g<;>cases g
  let I:vs[i]?=PB v:=by
   unfold bP at g;rw[MP (by simpa using t),MA] at g
   cases e:vs[i]? with
   |none=>rw[e] at g;cases g
   |some a=>rw[e] at g;cases g;rfl
  obtain⟨u,D,F⟩:=r.get I
  let o:ps[i]?=PB y:=by
   rw[<- S.pre,List.getElem?_take_of_lt (by lia)];show C
  let m:ps.Nodup:=by rw[<- S.pre];show S.nd.sublist (List.take_sublist _ _)
  show⟨u,F,?_⟩;rcases S.par y (MH o) with k|k
  ·show .inl ⟨k,lY m o D k⟩
  ·obtain⟨c,e⟩:=oJ (n:=s.heap.objs.size+1) k;show .inr ⟨.inl k,c,e,?_⟩;let q:=x.cell y c e;rw[lZ m o D (by change scope.names.lookup y≠_;rw[k];decide)] at q;show q
 ·show e0.hok.fresh (Of (x.above y c (PySem.mem_of_lookup h)))
 ·unfold bP;change _=N.length;rw[MN,My,O3]
  lia
theorem GP{CX:u8}{P:PR}{w:PX}{K:Mu}{mg:Str->Option PH}{base:PZ}{k:Nat}{f:PL}{name qual:Str}{d:Arguments}{body:List PV}{scope:P1}{L kV p O c M oc:PH}{an Y:Option PL}
  {osl:Array (Option PH)} {N ps:List Str} {sp:Sp} (lk:K.lookup f=PB ⟨oc,Y,.func (Nu name qual d body scope L kV p O an c M),osl⟩) (hcd:Oh K c qual=PD) (S:a6 N ps scope)
  (len:∀g H Q E,sp g H Q E->g.length=ps.length)
  (hbody:∀(A:PY) (a:List Env) (s:PM) (H:Hp) (g:List V) (Q:VK) (E:XK),Room k (A.deeper (envOfC qual scope s.heap.objs.size f c))->sp g H Q E->
   ∃t,PSs (lG CX P w K mg base N qual scope f c A a s H E) body t/\t { nx:=λ_ h=>Q .non h,rt:=Q } (bP N g) H) :
  FnOk P w K mg base CX (k+1) f (Nu name qual d body scope L kV p O an c M) ps sp:=by
 show⟨len,λA a s H T us g Q E D l U r z=>?_⟩;let X:=len _ _ _ _ z;let R:K.In s.heap:=l.mod.kin.keeps λb o e=>(l.bs b o e).1;let lim:s.heap.NoLimit:=l.mod.nolimit.keeps λb o e=>(l.bs b o e).1
 let i:∀y∈ps.zip us,scope.names.lookup y.1=PB .local\/(scope.names.lookup y.1=PB .cell/\((P3 (s.heap.objs.size+1) scope.names []).lookup y.1).isSome=PD):=λ⟨n,v⟩ hy=>by
  rcases S.par n (OX hy).1 with q|q
  ·show .inl q
  ·show .inr ⟨q,O1 _ _ _ (.inl q)⟩
 show codeAny_call_function D.depth (R _ _ lk) rfl S.co S.gen rfl (PySem.W.codeRec_of R hcd) (U _ _ _ _ ?_);show wpAny_newFunctionEnv_cells S.kind i λZ he s1 x=>?_;subst he;show⟨lim.keeps x.toInCall.keep,codeAny_func ?_⟩;obtain⟨t,ht,hq⟩:=hbody A a s H g Q E (D.deeper _) z;let I:Inv (lG CX P w K mg base N qual scope f c A a s H E) [] (bP N g) H s1:=u9 S D.hd l X r x;show wpAny_mono (ht [] s1 (bP N g) H _ I hq) (λfl F j=>?_) λe F j=>j
 let m:∀{B:St} {h:Hp} {v:V} {u:PH},Inv (lG CX P w K mg base N qual scope f c A a s H E) [] B h F->RelV v u->Q v h->CE a P w H s Q u F:=
  λ{B h v u} J C q=>⟨v,h,J.os,J.bare,J.base,J.hok,C,q⟩
 cases fl with
 |ret u=>
  obtain⟨v,B,h,J,C,q⟩:=j;show m J C q
 |next=>
  obtain⟨B,h,J,q⟩:=j;show m (v:=V.non) (u:=Value.none) J rfl q
 |brk=>
  obtain⟨_,_,_,q⟩:=j;show False.elim q
 |cont=>
  obtain⟨_,_,_,q⟩:=j;show False.elim q
section
variable {X:Cx} {x:Str} {p pos:Pos} {e:PK} {es:List PK} {t:TA} {id T:String} {r:List V->Hp->VK->Prop}
def LI(r:List V->Hp->VK->Prop)(t:TA):TE:=λY H Q=>t Y H λvs H1=>r vs H1 Q
theorem gU(j:gT X (.builtin id) r)(d:Gl X x)(n:X.mg x=PC)(k:bootBuiltins x=PB (.builtin id))(q:PA X (e::es) t)(i:x≠"__name__":=by decide)(b:(x==("__debug__":Str))=PF:=by decide)
  (he:PU (e::es) X.env=(PF,eval e X.env)::PU es X.env:=by rfl) (hpl:(backTo pos (PU es X.env)).any (·.1)=PF:=by rfl):PE X (.Call (.Name x p) (e::es) [] pos) (LI r t):=by
 intro a s Y H Q I h;show wpAny_Call_Name_kw (dP I d n k ?_ i b);show PyProof.Rows.callWith_builtin1 (aY (q pos a s Y H _ I h) λl s1 ⟨g,o,m,c,f⟩=>j a s1 Y o g l Q m c f) he hpl
theorem dY(j:gT X (.type T) r)(d:Gl X x)(n:X.mg x=PC)(k:bootBuiltins x=PB (.type T))(q:PA X (e::es) t)(i:x≠"__name__":=by decide)(b:(x==("__debug__":Str))=PF:=by decide)
  (he:PU (e::es) X.env=(PF,eval e X.env)::PU es X.env:=by rfl) (hpl:(backTo pos (PU es X.env)).any (·.1)=PF:=by rfl):PE X (.Call (.Name x p) (e::es) [] pos) (LI r t):=by
 intro a s Y H Q I h;show wpAny_Call_Name_kw (dP I d n k ?_ i b);show PyProof.Rows.callWith_type1 (aY (q pos a s Y H _ I h) λl s1 ⟨g,o,m,c,f⟩=>j a s1 Y o g l Q m c f) he hpl
end
end L2
namespace HT
open PyProof.Rows
section
variable {prog:PR} {w:PX} {A:PY} {E:PH->PM->Prop} {s:PM}
theorem z6{vs a:List PH}{Q:PH->PM->Prop}(x:IsTup s.heap t vs.toArray)(v:IsTup s.heap b a.toArray)(m:vs≠[])(h1:a=[]->Q (.ref t) s)(h2:a≠[]->Q (.ref s.heap.objs.size) { s with heap:=s.heap.push { cls:=.type "tuple",data:=.seq (vs++a).toArray } })(hsz:vs.length+a.length<=sizeLine):PP (PQ prog w) A (binaryOp .Add (.ref t) (.ref b)) Q E s:=by
 obtain⟨⟨cls,p,data,r⟩,j,l,n,q⟩:=id x;obtain⟨⟨o,d,k,f⟩,c,h,u,g⟩:=id v;simp only at l q h g;subst l q h g;let e:vs.toArray++a.toArray=(vs++a).toArray:=by simp
 by_cases i:a=[]
 ·show concat_meets ⟨_,j,rfl⟩ ⟨_,c,rfl⟩ noFill_tuple_add seq_tuple_add PySem.F.slot_tuple_add PySem.F.entry_tuple_add (PySem.F.args_tuple_add_2 _ _)
   (tuple_addW1 t b vs.toArray a.toArray n u p d r f (by simpa using m) (by simp[i])) ⟨j,c,h1 i⟩
 ·show concat_meets ⟨_,j,rfl⟩ ⟨_,c,rfl⟩ noFill_tuple_add seq_tuple_add PySem.F.slot_tuple_add PySem.F.entry_tuple_add (PySem.F.args_tuple_add_2 _ _)
   (tuple_addW2 t b vs.toArray a.toArray n u p d r f (by simpa using m) (by simpa using i) (by rw[MB,MB];show hsz)) ⟨j,c,?_⟩
  rw[e];show h2 i
noncomputable def ca(n d:Nat):Option Int->Nat
 |none=>d
 |some v=>if v<0 then(v+(n:Int)).toNat else min v.toNat n
theorem kj(n d:Nat):ca n d PC=d:=rfl
theorem m3(n d k:Nat):ca n d (PB (k:Int))=min k n:=by
 change(if(k:Int)<0 then((k:Int)+(n:Int)).toNat else min (k:Int).toNat n)=min k n
 rw[if_neg (by lia),NA]
theorem DB(n d:Nat)(hd:d<=n)(o:Option Int):ca n d o<=n:=by
 cases o with
 |none=>show hd
 |some v=>
  change(if v<0 then(v+(n:Int)).toNat else min v.toNat n)<=n
  by_cases a:v<0
  ·rw[if_pos a];lia
  ·rw[if_neg a];show Nat.min_le_right _ _
theorem sG(v:Int)(n d:Nat):(if v<0 then max (v+(n:Int)) 0 else min v (n:Int))=((ca n d (PB v):Nat):Int):=by
 change(if v<0 then max (v+(n:Int)) 0 else min v (n:Int))=(((if v<0 then(v+(n:Int)).toNat else min v.toNat n):Nat):Int)
 by_cases a:v<0
 ·simp only[if_pos a];lia
 ·simp only[if_neg a];lia
theorem qI(lo hi:Option Int)(n:Nat):Builtin.Slice.sliceAdjust lo hi 1 (n:Int)=(((ca n 0 lo:Nat):Int),((ca n n hi:Nat):Int)):=by
 let a:¬((1:Int)<0):=by lia
 unfold Builtin.Slice.sliceAdjust;simp only[a,if_false];show Prod.ext ?_ ?_
 ·cases lo with
  |none=>rfl
  |some v=>show sG v n 0
 ·cases hi with
  |none=>rfl
  |some v=>show sG v n n
theorem qJ(i j:Nat):Builtin.Slice.slicePlaces (i:Int) (j:Int) 1=j-i:=by
 unfold Builtin.Slice.slicePlaces;let a:(1:Int) > 0:=by lia
 simp only[a,if_true,Int.ediv_one]
 split<;>lia
theorem kl{Q:Option Int->PM->Prop}(p:IsPart v o)(h:Q o s):PP (PQ prog w) A (Builtin.Slice.slicePartIndex v) Q E s:=by
 cases p with
 |none=>show slicePart_none h
 |int i t=>show slicePart_int h
theorem dZ{lo hi:Option Int}{Q:Int×Int×Nat->PM->Prop}(e:s.heap.IsSliceOf sl vl vu .none)(pl:IsPart vl lo)(d:IsPart vu hi)(h:Q (((ca n 0 lo:Nat):Int),1,ca n n hi-ca n 0 lo) s):PP (PQ prog w) A (Builtin.Slice.sliceApplied (.ref sl) (pure (n:Int))) Q E s:=by
 obtain⟨f,b,c,a⟩:=id e;unfold Builtin.Slice.sliceApplied Builtin.Slice.sliceFields;show PJ (PJ (wpAny_field b a (x:=vl) rfl (PJ (wpAny_field b a (x:=vu) rfl (PJ (wpAny_field b a (x:=.none) rfl (PN ?_)))))));show PJ (slicePart_none ?_)
 change PP _ _ (if((1:Int)==0)=PD then _ else _) _ _ s
 rw[if_neg (by decide)];show PJ (kl pl (PJ (kl d (PJ (PN ?_)))))
 change PP _ _ (match Builtin.Slice.sliceAdjust lo hi 1 (n:Int) with|(lo,hi)=>pure (lo,(1:Int),Builtin.Slice.slicePlaces lo hi 1)) _ _ s
 rw[qI lo hi n];change PP _ _ (pure (((ca n 0 lo:Nat):Int),(1:Int),Builtin.Slice.slicePlaces ((ca n 0 lo:Nat):Int) ((ca n n hi:Nat):Int) 1)) _ _ s;rw[qJ];show PN h
theorem wS(xs:Array PH)(i k:Nat):((Na k).filterMap λ(m:Nat)=>xs[((i:Int)+(m:Int)*1).toNat]?).toArray=((xs.toList.drop i).take k).toArray:=by
 let e:(λ(m:Nat)=>xs[((i:Int)+(m:Int)*1).toNat]?)=λm=>xs[i+m]?:=by
  funext m;have:((i:Int)+(m:Int)*1).toNat=i+m:=by lia
  rw[this]
 rw[e];have:=pick_run xs i k;rw[List.filterMap_map] at this;let e2:((λx=>xs[x]?)∘λx=>i+x)=λm=>xs[i+m]?:=rfl;rw[e2] at this;rw[this]
theorem gW{a:Array PH}{lo hi:Option Int}{Q:PH->PM->Prop}(c:IsTup s.heap t a)(i:s.heap.IsSliceOf sl vl vu .none)(pl:IsPart vl lo)(l:IsPart vu hi)(k:¬(ca a.size 0 lo=0/\ca a.size a.size hi=a.size))(h:Q (.ref s.heap.objs.size) { s with heap:=s.heap.push { cls:=.type "tuple",data:=.seq ((a.toList.drop (ca a.size 0 lo)).take (ca a.size a.size hi-ca a.size 0 lo)).toArray } })(hsz:a.size<=sizeLine):PP (PQ prog w) A (getItem (.ref t) (.ref sl)) Q E s:=by
 let b:sizeOk (.seq ((a.toList.drop (ca a.size 0 lo)).take (ca a.size a.size hi-ca a.size 0 lo)).toArray):=by
  change((a.toList.drop (ca a.size 0 lo)).take (ca a.size a.size hi-ca a.size 0 lo)).toArray.size<=sizeLine;rw[MB,M8,N8,Oc]
  lia
 let p:ca a.size a.size hi<=a.size:=DB _ _ (Mz _) hi;obtain⟨n,e,g,j⟩:=id i;let d:s.TypeIs (.ref sl) "slice":=⟨n,e,g⟩;unfold getItem
 try with_reducible show P8 ?_
 first|show PJ (PN ?_)|skip
 show PJ (wpAny_sequenceKey c.typeIs (by decide) ?_)
 show PJ (wpAny_callSpecial?_slot (name:=Str.ofString "__getitem__") c.typeIs PyProof.Rows.slot_tuple_getitem
  (Qb PyProof.Rows.slot_tuple_getitem c.typeIs entry_tuple_getitem ?_ (args_tuple_getitem _ _)))
 change PP _ _ (Builtin.Tuple.tupleItemsOf (.ref t) >>= _) _ _ s;show PJ (tupleItemsOf_ c ?_);show PJ (wpAny_typeOf d ?_);rw[if_pos (by decide)];show PJ (dZ i pl l ?_)
 let f:¬((((ca a.size 0 lo:Nat):Int)==0&&(1:Int)==1&&(ca a.size a.size hi-ca a.size 0 lo)==a.size)=PD):=by
  intro q;rw[Mw,Mw] at q;let o:((ca a.size 0 lo:Nat):Int)=0:=eq_of_beq q.1.1;let r:ca a.size a.size hi-ca a.size 0 lo=a.size:=eq_of_beq q.2;show k ⟨by lia,by lia⟩
 change PP _ _ (if(((ca a.size 0 lo:Nat):Int)==0&&(1:Int)==1&&(ca a.size a.size hi-ca a.size 0 lo)==a.size)=PD then _ else _) _ _ s
 rw[if_neg f,wS]
 first
  |show PJ (m:=Builtin.Tuple.tupleExact _) (P6 (PN ⟨_,rfl,PN h⟩) b)
  |show PJ (m:=Builtin.Tuple.tupleExact _) (P6 (PJ (PN (PN ⟨_,rfl,PN h⟩))) b)
  |show PJ (PJ (m:=Builtin.Tuple.tupleExact _) (P6 (PN (PN ⟨_,rfl,PN h⟩)) b))
  |show PJ (PJ (m:=Builtin.Tuple.tupleExact _) (P6 (PN ⟨_,rfl,PN h⟩) b))
end
end HT
namespace L2
open PyProof.Rows
abbrev TO:=St->Hp->(Option Int->Hp->Prop)->Prop
def PO(X:Cx)(e:Option PK)(t:TO):Prop:=
 ∀(pins:List (PL×Obj)) (s:PM) (Y:St) (H:Hp) (Q:Option Int->Hp->Prop),Inv X pins Y H s->t Y H Q->
  PP (PQ X.prog X.w) X.A (evalPart e X.env) (λu s'=>∃o H',Inv X pins Y H' s'/\IsPart u o/\Q o H') X.xe s
def z7:TO:=λ_ H Q=>Q PC H
def GQ(t:TE):TO:=λY H Q=>t Y H λx H1=>∃i,x=.int i/\Q (PB i) H1
section
variable {X:Cx} {e:PK} {te:TE} {lo hi:Option PK} {tl th:TO} {pos p2:Pos}
theorem z8:PO X PC z7:=by
 intro a s Y H Q I h;rw[evalPart_none];show PN ⟨PC,H,I,.none,h⟩
theorem z9(h:PE X e te):PO X (PB e) (GQ te):=by
 intro a s Y H Q I b;rw[evalPart_some];show aY (h a s Y H _ I b) λu s1 ⟨x,g,f,c,d⟩=>?_;obtain⟨i,rfl,q⟩:=d;obtain⟨t,rfl⟩:=c;show⟨PB i,g,f,.int i t,q⟩
def SlR(X:Cx)(r:V->Option Int->Option Int->Hp->VK->Prop):Prop:=
 ∀(pins:List (PL×Obj)) (s:PM) (Y:St) (H:Hp) (x:V) (v q O:PH) (lo hi:Option Int) (B:PL) (Q:VK),Inv X pins Y H s->RelV x v->s.heap.IsSliceOf B q O .none->IsPart q lo->IsPart O hi->r x lo hi H Q->
  ∃T id,typeLookup (.type T) "__getitem__" = pure (PB (.builtin id))/\s.TypeIs v T/\PP (PQ X.prog X.w) X.A (getItem v (.ref B)) (EP X pins Y Q) X.xe s
theorem SlR.or{r r':V->Option Int->Option Int->Hp->VK->Prop}(h:SlR X r)(h':SlR X r'):SlR X (λx lo hi H Q=>r x lo hi H Q\/r' x lo hi H Q):=by
 intro a s Y H x v i e lo hi g Q I f d c b q;rcases q with q|q
 ·show h a s Y H x v i e lo hi g Q I f d c b q
 ·show h' a s Y H x v i e lo hi g Q I f d c b q
def Mc(r:V->Option Int->Option Int->Hp->VK->Prop)(te:TE)(tl th:TO):TE:=λY H Q=>te Y H λx H1=>tl Y H1 λl H2=>th Y H2 λu q=>r x l u q Q
theorem km(j:SlR X r)(C:PE X e te)(n:PO X lo tl)(p:PO X hi th):PE X (.Subscript e (.Slice lo hi PC p2) pos) (Mc r te tl th):=by
 intro a s Y H Q I h;show Subscript_ (aY (C a s Y H _ I h) λv s1 ⟨x,N,K,B,k⟩=>?_);show wpAny_Slice (aY (n a s1 Y N _ K k) λf s2 ⟨l,y,z,F,M⟩=>aY (p a s2 Y y _ z M) λd c ⟨u,g,t,E,m⟩=>?_);rw[evalPart_none];show PN ?_;let D:Inv X a Y g { c with heap:=c.heap.push { cls:=.type "slice",data:=.fields #[f,d,.none] } }:=t.kept (t':=c.toks) λb O q=>Mx _ q;obtain⟨T,P,o,L,i⟩:=j a { c with heap:=c.heap.push { cls:=.type "slice",data:=.fields #[f,d,.none] } } Y g x v f d l u c.heap.objs.size Q D B (Heap.IsSliceOf.new ..) F E m;change PP (PQ X.prog X.w) X.A (subscriptTail e (.Slice lo hi PC p2) v (.ref c.heap.objs.size)) (EP X a Y Q) X.xe { c with heap:=c.heap.push { cls:=.type "slice",data:=.fields #[f,d,.none] } };show tail_any (ops:=[.ref c.heap.objs.size,v]) L o i (by with_unfolding_all rfl)
def oK(xs:List V)(lo hi:Option Int):List V:=(xs.drop (HT.ca xs.length 0 lo)).take (HT.ca xs.length xs.length hi-HT.ca xs.length 0 lo)
theorem jA(xs:List V)(lo hi:Option Int):(oK xs lo hi).length<=xs.length:=by
 unfold oK;rw[M8,N8]
 lia
def J1(K:Mu):V->Option Int->Option Int->Hp->VK->Prop:=λx lo hi H Q=>∃a xs,x=.ref a/\SqT K H a xs/\
 ¬(HT.ca xs.length 0 lo=0/\HT.ca xs.length xs.length hi=xs.length)/\∀p,H p=PC->Q (.ref p) (upd H p (.tup (oK xs lo hi)))
theorem sl_tup:SlR X (J1 X.K):=by
 intro i s Y H x v y w lo e z Q I t p n m h;obtain⟨a,d,rfl,l,k,q⟩:=h;cases t;obtain⟨f,r,j,g⟩:=I.tuple l;let c:f.toArray.size=d.length:=by rw[MB];show r.length.symm
 show⟨"tuple",_,PyProof.Rows.slot_tuple_getitem.lookup,j.typeIs,?_⟩;show HT.gW j p n m (by rw[c];show k) ?_ (by rw[c];show g);rw[c];show⟨.ref s.heap.objs.size,_,I.laid (t':=s.toks) (o:=.tup (oK d lo e)) (λb u q=>Mx _ q) (Mz _) ?_,rfl,q _ (I.hok.fresh (Mz _))⟩;show⟨Nb (jA d lo e) g,_,(r.drop (HT.ca d.length 0 lo)).take (HT.ca d.length d.length e-HT.ca d.length 0 lo),IsTup.new _ _⟩
def GR(K:Mu):R2:=λx y H Q=>∃a b xs ys,x=.ref a/\y=.ref b/\SqT K H a xs/\SqT K H b ys/\xs≠[]/\xs.length+ys.length<=sizeLine/\
 (ys=[]->Q (.ref a) H)/\(ys≠[]->∀p,H p=PC->Q (.ref p) (upd H p (.tup (xs++ys))))
theorem Vals.nil_iff(r:Vals xs us):us=[]↔xs=[]:=by
 cases r with
 |nil=>simp
 |cons _ _=>simp
theorem Aa:gq X (binaryOp .Add) (GR X.K):=by
 intro f s Y H x y v u Q I r A h;obtain⟨a,b,m,t,rfl,rfl,C,i,l,e,n,B⟩:=h;cases r;cases A;obtain⟨p,d,j,_⟩:=I.tuple C;obtain⟨g,c,k,_⟩:=I.tuple i;show HT.z6 j k (λz=>l (d.nil_iff.mp z)) (λz=>⟨.ref a,H,I,rfl,n (c.nil_iff.mp z)⟩) (λz=>?_) (by rw[<- d.length,<- c.length];show e);show⟨.ref s.heap.objs.size,_,I.laid (t':=s.toks) (o:=.tup (m++t)) (λb D q=>Mx _ q) (Mz _) ?_,rfl,B (λw=>z (c.nil_iff.mpr w)) _ (I.hok.fresh (Mz _))⟩;show⟨by rw[MN];show e,_,d.append c,IsTup.new _ _⟩
end
noncomputable def jL(n:Nat)(i:Int):Option Nat:=if 0<=i then(if i<n then PB i.toNat else PC) else if -(n:Int)<=i then PB (i+n).toNat else PC
def qk{α:Type}(xs:List α)(i:Int):Option α:=(jL xs.length i).bind λj=>xs[j]?
theorem m4{n:Nat}{i:Int}{j:Nat}(h:jL n i=PB j):seqIndex? i n=PB j/\j<n/\-(n:Int)<=i/\i<n:=by
 unfold jL at h;by_cases b:0<=i
 ·rw[if_pos b] at h;by_cases a:i<n
  ·rw[if_pos a] at h;let e:i.toNat=j:=Option.some.inj h;show⟨by rw[seqIndex_of b a,e],by lia,by lia,a⟩
  ·rw[if_neg a] at h;cases h
 ·rw[if_neg b] at h;by_cases a:-(n:Int)<=i
  ·rw[if_pos a] at h;let e:(i+n).toNat=j:=Option.some.inj h;show⟨by rw[seqIndex_neg (by lia) a,e],by lia,a,by lia⟩
  ·rw[if_neg a] at h;cases h
theorem m5{α:Type}{xs:List α}{i:Int}{v:α}(h:qk xs i=PB v):∃j,seqIndex? i xs.length=PB j/\xs[j]?=PB v/\j<xs.length/\-(xs.length:Int)<=i/\i<xs.length:=by
 unfold qk at h
 cases e:jL xs.length i with
 |none=>rw[e] at h;cases h
 |some j=>
  rw[e] at h;obtain⟨c,d,a,b⟩:=m4 e;show⟨j,c,h,d,a,b⟩
def sH(b:PK):Prop:=∀o i,subscripted b PF o i=operate [o,i] (getItem o i)
def IxR(X:Cx)(r:R2):Prop:=
 ∀(value q:PK) (pins:List (PL×Obj)) (s:PM) (Y:St) (H:Hp) (x y:V) (v u:PH) (Q:VK),Inv X pins Y H s->RelV x v->RelV y u->r x y H Q->
  subscripted q PF v u=operate [v,u] (getItem v u)->PP (PQ X.prog X.w) X.A (subscriptTail value q v u) (EP X pins Y Q) X.xe s
def FX(X:Cx)(id:String)(r:V->List V->Hp->VK->Prop):Prop:=
 ∀(pins:List (PL×Obj)) (s:PM) (Y:St) (H:Hp) (x:V) (xs:List V) (v:PH) (us:List PH) (Q:VK),Inv X pins Y H s->RelV x v->Vals xs us->r x xs H Q->
  PP (PQ X.prog X.w) X.A (call (.builtin id) (v::us)) (EP X pins Y Q) X.xe s
section
variable {X:Cx} {a b:PK} {ta tb:TE} {pos:Pos}
theorem IxR.or{r r':R2}(h:IxR X r)(h':IxR X r'):IxR X (λx y H Q=>r x y H Q\/r' x y H Q):=by
 intro a b c s Y H x y v u Q I e f q d;rcases q with q|q
 ·show h a b c s Y H x y v u Q I e f q d
 ·show h' a b c s Y H x y v u Q I e f q d
theorem sI(e:IxR X r)(l:PE X a ta)(d:PE X b tb)(f:sH b):PE X (.Subscript a b pos) (Jj r ta tb):=by
 intro c s Y H Q I h;show Subscript_ (Dq l d I h λv u s2 x y i k g j q=>e a b c s2 Y i x y v u Q k g j q (f _ _))
def GS(K:Mu):R2:=λx y H Q=>∃p xs i v,x=.ref p/\y=.int i/\SqL K H p xs/\qk xs i=PB v/\Q v H
def GU(K:Mu):R2:=λx y H Q=>∃p xs i v,x=.ref p/\y=.int i/\SqT K H p xs/\qk xs i=PB v/\Q v H
def GV:R2:=λx y H Q=>∃z i c,x=.str z/\y=.int i/\z.length<=sizeLine/\qk z.cps.toList i=PB c/\Q (.str ⟨#[c]⟩) H
theorem ix_list:IxR X (GS X.K):=by
 intro d f a s Y H x y v u Q I C E h n;obtain⟨p,S,i,z,rfl,rfl,N,F,q⟩:=h;cases C;obtain⟨t,rfl⟩:=E;obtain⟨e,r,k,P⟩:=I.list N;obtain⟨j,c,L,O,A,M⟩:=m5 F;obtain⟨w,o,l⟩:=r.get L;let D:=r.length;let R:=iN;let b:EP X a Y Q w s:=⟨z,H,I,l,q⟩;by_cases m:0<=i
 ·let g:i.toNat=j:=by
   rw[seqIndex_of m M] at c;show Option.some.inj c
  show item_listR k.isList m (by lia) (by rw[g];simpa using o) b n
 ·let g:(i+(e.toArray.size:Int)).toNat=j:=by
   rw[seqIndex_neg (by lia) A] at c;rw[MB,<- D];show Option.some.inj c
  show subscriptTail_builtinR (x:=w) k.isList.typeIs slot_list_getitem.lookup
   (wpAny_getItem_list_neg (Q:=λr B=>r=w/\EP X a Y Q r B) k.isList (by lia) (by rw[MB]<;>lia) (by lia) (by rw[g];simpa using o) ⟨rfl,b⟩) n
theorem ix_tup:IxR X (GU X.K):=by
 intro b d a s Y H x y v u Q I l n h B;obtain⟨p,O,i,z,rfl,rfl,D,o,q⟩:=h;cases l;obtain⟨t,rfl⟩:=n;obtain⟨g,r,f,M⟩:=I.tuple D;obtain⟨j,E,A,F,L,P⟩:=m5 o;obtain⟨w,C,e⟩:=r.get A;let m:=r.length;let N:=iN;let c:EP X a Y Q w s:=⟨z,H,I,e,q⟩;show subscriptTail_builtinR (x:=w) f.typeIs slot_tuple_getitem.lookup
  (getItem_tuple (j:=j) (Q:=λr k=>r=w/\EP X a Y Q r k) f (by lia) (by lia) (by rw[MB,<- m];show E) (by simpa using C) ⟨rfl,c⟩) B
theorem DC:IxR X GV:=by
 intro a b d s Y H x y v u Q I m p h l;obtain⟨z,i,c,rfl,rfl,A,g,q⟩:=h;obtain⟨t,rfl⟩:=m;obtain⟨r,rfl⟩:=p;obtain⟨j,e,k,w,f,n⟩:=m5 g;let o:z.cps.toList.length=z.length:=by simp[Str.length]
 rw[o] at e f n;let B:=iN
 show tail_any (typeIs_str s z t) slot_str_getitem.lookup (getItem_str (c:=c) (by
  let e1:decide (i < -(2^63:Int))=PF:=decide_eq_false (by lia);let e2:decide (i ≥ 2^63)=PF:=decide_eq_false (by lia);rw[e1,e2,Bool.or_false]) (by rw[e];simpa using k) ⟨.str ⟨#[c]⟩,H,I.tok _,⟨_,rfl⟩,q⟩) l
def LJ(K:Mu):R2:=λx y H Q=>GS K x y H Q\/GU K x y H Q\/GV x y H Q
theorem m6:IxR X (LJ X.K):=ix_list.or (ix_tup.or DC)
theorem qK(a:List PH)(n j:Nat)(u:PH):Obj.mapSeq (·.setIfInBounds j u) { cls:=.type "list",data:=.seq a.toArray n }={ cls:=.type "list",data:=.seq (a.set j u).toArray n }:=by
 simp[Obj.mapSeq]
theorem Inv.lst{pins:List (PL×Obj)}{Y:St}{H:Hp}{s:PM}{p:PL}{xs:List V}(I:Inv X pins Y H s)(h:H p=PB (.lst xs)) :
  ∃(a:List PH) (n:Nat),Vals xs a/\s.heap.get? p=PB { cls:=.type "list",data:=.seq a.toArray n }/\xs.length<=sizeLine:=by
 obtain⟨z,a,n,r,e⟩:=I.hok p _ h;show⟨a,n,r,e,z⟩
theorem Inv.lstUpd{H:Hp}{s:PM}{xs ys:List V}{a its':List PH}(I:Inv X pins Y H s)(h:H p=PB (.lst xs))(i:s.heap.get? p=PB { cls:=.type "list",data:=.seq a.toArray n })(c:f { cls:=.type "list",data:=.seq a.toArray n }={ cls:=.type "list",data:=.seq its'.toArray n' })(r:Vals ys its')(g:ys.length<=sizeLine)(t:Nat) :
  Inv X pins Y (upd H p (.lst ys)) { s with heap:=s.heap.update p f,toks:=t }:=by
 let e:(s.heap.update p f).get? p=PB { cls:=.type "list",data:=.seq its'.toArray n' }:=by
  rw[Os f i (by rw[c]<;>rfl),c]
 show I.write (x:=p) (e:=p) (by rw[h];trivial) (.inl rfl) (λb u d q=>(N1 _ _ (Ne.symm d)).trans q) ⟨_,e⟩ ?_;show⟨g,its',n',r,e⟩
def GW:V->V->V->Hp->(Hp->Prop)->Prop:=λo i v H Q=>∃p xs k j,o=.ref p/\i=.int k/\H p=PB (.lst xs)/\jL xs.length k=PB j/\Q (upd H p (.lst (xs.set j v)))
theorem wU:Gx X GW:=by
 intro b s Y H o i v F E u Q I y z x h;obtain⟨p,A,k,j,rfl,rfl,l,C,q⟩:=h;cases y;obtain⟨t,rfl⟩:=z;obtain⟨a,n,r,d,B⟩:=I.lst l;obtain⟨c,K,f,m⟩:=m4 C;let e:=r.length;let D:=iN
 let g:Inv X b Y (upd H p (.lst (A.set j v))) { s with heap:=s.heap.update p (Obj.mapSeq (·.setIfInBounds j u)) }:=
  I.lstUpd l d (qK a n j u) (r.set x j) (by rw[Oe];show B) s.toks
 by_cases w:0<=k
 ·let hk:k.toNat=j:=by
   rw[seqIndex_of w m] at c;show Option.some.inj c
  show PySem.W.ki_setAt d w (by lia) (by rw[MB,<- e];show m) (by rw[hk];show⟨_,g,q⟩)
 ·let hk:(k+(a.toArray.size:Int)).toNat=j:=by
   rw[seqIndex_neg (by lia) f] at c;rw[MB,<- e];show Option.some.inj c
  show PySem.W.ki_setBack d (by lia) (by rw[MB,<- e];show f) (by lia) (by rw[hk];show⟨_,g,q⟩)
theorem m7(lo hi:Option Int)(n:Nat):(sliceBounds lo hi PC n).1=((HT.ca n 0 lo:Nat):Int)/\(sliceBounds lo hi PC n).2.1=((HT.ca n n hi:Nat):Int)/\(sliceBounds lo hi PC n).2.2=1:=by
 show⟨?_,?_,rfl⟩
 ·cases lo with
  |none=>simp[sliceBounds,HT.ca]
  |some i=>
   simp only[sliceBounds,HT.ca,OP,show(1:Int) > 0 by decide,if_true];by_cases h:i<0
   ·simp only[h,if_true]<;>lia
   ·simp only[h,if_false]<;>lia
 ·cases hi with
  |none=>simp[sliceBounds,HT.ca]
  |some i=>
   simp only[sliceBounds,HT.ca,OP,show(1:Int) > 0 by decide,if_true];by_cases h:i<0
   ·simp only[h,if_true]<;>lia
   ·simp only[h,if_false]<;>lia
theorem lH(a:List PH)(lo hi:Option Int):slicePick a.toArray lo hi PC=((a.drop (HT.ca a.length 0 lo)).take (HT.ca a.length a.length hi-HT.ca a.length 0 lo)).toArray:=by
 obtain⟨c,d,b⟩:=m7 lo hi a.toArray.size;unfold slicePick;rw[c,d,b]
 simp only[sliceRange_one,pick_run,MB]<;>rfl
def J2(K:Mu):V->Option Int->Option Int->Hp->VK->Prop:=λx lo hi H Q=>∃a xs,x=.ref a/\SqL K H a xs/\∀p,H p=PC->Q (.ref p) (upd H p (.lst (oK xs lo hi)))
theorem sJ:SlR X (J2 X.K):=by
 intro f s Y H x v w u lo e y Q I p n k j h;obtain⟨a,c,rfl,i,q⟩:=h;cases p;obtain⟨m,r,g,l⟩:=I.list i;let d:=r.length;show⟨"list",_,slot_list_getitem.lookup,g.isList.typeIs,?_⟩
 show wpAny_getItem_list_slice g.isList n k j .none (by simp) ?_ (by rw[MB]<;>lia)
 rw[lH,<- d];show⟨.ref s.heap.objs.size,_,I.laid (t':=s.toks) (o:=.lst (oK c lo e)) (λb t q=>Mx _ q) (Mz _) ?_,rfl,q _ (I.hok.fresh (Mz _))⟩;show⟨Nb (jA c lo e) l,_,0,(r.drop (HT.ca c.length 0 lo)).take (HT.ca c.length c.length e-HT.ca c.length 0 lo),ML _ rfl⟩
theorem m8:gT X (.builtin "len") (λxs H Q=>∃p ys,xs=[.ref p]/\(SqL X.K H p ys\/SqT X.K H p ys)/\Q (.int ys.length) H):=by
 intro f s Y H xs k Q I r h;obtain⟨p,ys,rfl,b,q⟩:=h;obtain⟨u,rfl,i⟩:=ki r;cases i;let j:=iN;rcases b with b|b
 ·obtain⟨d,e,c,g⟩:=I.list b;let a:=e.length
  show Calls.call_len_list c.isList (by simp only[MB]<;>lia) ⟨.int ys.length,H,I.tok _,⟨s.toks+1,by rw[MB,a]⟩,q⟩
 ·obtain⟨d,e,c,g⟩:=I.tuple b;let a:=e.length
  show len_tuple c (by simp only[MB]<;>lia) ⟨.int ys.length,H,I.tok _,⟨s.toks+1,by rw[MB,a]⟩,q⟩
theorem eE:gT X (.type "list") (λxs H Q=>∃p ys,xs=[.ref p]/\(SqL X.K H p ys\/SqT X.K H p ys)/\∀l,H l=PC->Q (.ref l) (upd H l (.lst ys))):=by
 intro k s Y H xs C Q I r h;obtain⟨p,ys,rfl,t,q⟩:=h;obtain⟨u,rfl,B⟩:=ki r;cases B
 let j:∀(a:List PH),Vals ys a->ys.length<=sizeLine->∀(c:PZ) (d:Nat),(∀b A,s.heap.get? b=PB A->c.get? b=PB A)->
   c.get? s.heap.objs.size=PB { cls:=.type "list",dict:=PC,data:=.seq a.toArray d,slots:=#[] }->EP X k Y Q (.ref s.heap.objs.size) { s with heap:=c }:=λa f g c d i e=>
  ⟨.ref s.heap.objs.size,_,I.laid (t':=s.toks) i (Mz _) (show ObjOk X.prog X.w _ c _ (.lst ys) from⟨g,a,d,f,e⟩),rfl,q _ (I.hok.fresh (Mz _))⟩
 rcases t with t|t
 ·obtain⟨a,f,v,g⟩:=I.list t;let m:=f.length;obtain⟨o,z,x,n,y⟩:=v.isList
  show call_list_seq p (.inl rfl) z x y (λc d i e=>j a f g c d i e) (by simp only[MB]<;>lia)
 ·obtain⟨a,f,v,g⟩:=I.tuple t;let m:=f.length;obtain⟨o,z,x,n,y⟩:=v
  show call_list_seq p (.inr rfl) z x y (λc d i e=>j a f g c d i e) (by simp only[MB]<;>lia)
theorem lI:gT X (.type "tuple") (λxs H Q=>∃p ys,xs=[.ref p]/\((SqL X.K H p ys/\∀l,H l=PC->Q (.ref l) (upd H l (.tup ys)))\/(SqT X.K H p ys/\Q (.ref p) H))):=by
 intro a s Y H xs x Q I r h;obtain⟨p,ys,rfl,h⟩:=h;obtain⟨u,rfl,n⟩:=ki r;cases n;rcases h with⟨g,q⟩|⟨g,q⟩
 ·obtain⟨c,i,f,j⟩:=I.list g;let k:=i.length
  show call_tuple_list f.isList (λd t=>?_) (by simp only[MB]<;>lia)
  let m:Inv X a Y H { s with heap:=d }:=I.kept (t':=s.toks) t
  let v:Inv X a Y (upd H d.objs.size (.tup ys)) { s with heap:=d.push { cls:=.type "tuple",data:=.seq c.toArray } }:=
   m.laid (t':=s.toks) (λb o e=>Mx _ e) (Mz _) (show ObjOk X.prog X.w _ _ _ (.tup ys) from⟨j,c,i,IsTup.new _ _⟩)
  show⟨.ref d.objs.size,_,v,rfl,q _ (m.hok.fresh (Mz _))⟩
 ·obtain⟨c,i,f,j⟩:=I.tuple g;show call_tuple_same f ⟨.ref p,H,I,rfl,q⟩
def Jk(K:Mu)(T:String)(x:V)(H:Hp):Prop:=match x with
 |.ref p=>(T="list"/\∃xs,SqL K H p xs)\/(T="dict"/\∃kvs,H p=PB (.dK kvs))
 |_=>False
theorem wV{s:PM}{T:String}(I:Inv X pins Y H s)(r:RelV x v)(ty:Jk X.K T x H) :
  s.TypeIs v T/\∀a,v=.ref a->∃d,s.heap.get? a=PB d/\d.dict=PC:=by
 cases x with
 |ref p=>
  cases r;rcases ty with⟨rfl,k,i⟩|⟨rfl,h,hk⟩
  ·obtain⟨g,_,f,_⟩:=I.list i;show⟨f.isList.typeIs,λa e=>?_⟩;cases e;obtain⟨o,n,e,c,j,_⟩:=f;show⟨o,e,j⟩
  ·obtain⟨_,_,_,_,o,_,_,e,b,_⟩:=I.hok p _ hk;show⟨⟨o,e,b.1⟩,λa e2=>?_⟩;cases e2;show⟨o,e,b.2.1⟩
 |_=>show False.elim ty
def GX(K:Mu)(T:String)(r:V->List V->Hp->VK->Prop)(to:TE):TE:=λY H Q=>to Y H λx H1=>Jk K T x H1/\r x [] H1 Q
def Md(K:Mu)(T:String)(r:V->List V->Hp->VK->Prop)(to:TE)(t:TA):TE:=λY H Q=>to Y H λx H1=>Jk K T x H1/\t Y H1 λxs H2=>r x xs H2 Q
variable {o e:PK} {es:List PK} {to:TE} {t:TA} {name:Str} {apos cpos:Pos} {T id:String} {r:V->List V->Hp->VK->Prop}
theorem qL(k:PlainAttrs T)(b:Slot T name id)(c:typeOf (.builtin id)=pure (.type "method_descriptor"))(j:FX X id r)(n:PE X o to)
  (hbase:attributeBase o name X.env (eval o X.env)=eval o X.env:=by rfl) (hline:(apos.endLine==cpos.line)=PD:=by rfl):PE X (.Call (.Attribute o name apos) [] [] cpos) (GX X.K T r to):=by
 intro a s Y H Q I h;show wpAny_Call_method0_late hbase hline (aY (n a s Y H _ I h) λv s1 ⟨x,m,e,d,i,f⟩=>?_);obtain⟨l,g⟩:=wV e d i;show⟨T,id,k,b,c,l,g,Calls.callWith_builtin rfl (PySem.evalArgs_none (j a s1 Y m x [] v [] Q e d .nil f))⟩
theorem B1(u:PlainAttrs T)(b:Slot T name id)(c:typeOf (.builtin id)=pure (.type "method_descriptor"))(p:FX X id r)(C:PE X o to)(B:PA X (e::es) t)
  (hbase:attributeBase o name X.env (eval o X.env)=eval o X.env:=by rfl)
  (hfew:((backTo cpos (PU (e::es) X.env)).all (λx=>!x.1)&&(backToKw cpos (keywordEach [] X.env)).all (λx=>x.1.isSome)
   && decide ((e::es).length+([]:List Keyword).length+(if([]:List Keyword).isEmpty then 0 else 1)<30))=PD:=by rfl)
  (hline:(apos.endLine==cpos.line)=PD:=by rfl) (hs:PU (e::es) X.env=(PF,eval e X.env)::PU es X.env:=by rfl) (hplain:(backTo cpos (PU es X.env)).any (·.1)=PF:=by rfl) :
  PE X (.Call (.Attribute o name apos) (e::es) [] cpos) (Md X.K T r to t):=by
 intro a s Y H Q I h;show wpAny_Call_method_late hbase hfew hline rfl (aY (C a s Y H _ I h) λv s1 ⟨x,A,g,d,m,j⟩=>?_);obtain⟨y,l⟩:=wV g d m;show⟨T,id,u,b,c,y,l,?_⟩;let f:=B cpos a s1 Y A _ g j;rw[hs] at f⊢
 show Calls.callWith_builtin (by change(PF||(backTo cpos (PU es X.env)).any (·.1))=PF;rw[hplain]<;>rfl) (Calls.evalArgs_plain ?_)
 show aY f λn s2 ⟨k,q,w,i,z⟩=>p a s2 Y q x k v n Q w d i z
/- xs.append(e),list.index on a module's tuple .. are FX facts of 06m -/
end
def Jl(X:Cx)(id:String)(r:V->List V->Hp->VK->Prop):Prop:=
 ∀(pins:List (PL×Obj)) (s:PM) (Y:St) (H:Hp) (x:V) (xs:List V) (v:PH) (us:List PH) (Q:VK),Inv X pins Y H s->RelV x v->Vals xs us->r x xs H Q->
  PP (PQ X.prog X.w) X.A (call (.builtin id) (v::us)) (EP X pins Y Q) X.xe s
theorem Vals.one{x:V}(h:Vals [x] us):∃u,us=[u]/\RelV x u:=by
 cases h with
 |cons r t=>cases t;show⟨_,rfl,r⟩
theorem Vals.zero:∀{us:List PH},Vals [] us->us=[]
 |_,.nil=>rfl
theorem Vals.dropLast{xs:List V}{us:List PH}(h:Vals xs us):Vals xs.dropLast us.dropLast:=by
 induction h with
 |nil=>show .nil
 |cons r t a=>
  cases t with
  |nil=>show .nil
  |cons q b=>show .cons r a
theorem Vals.eraseIdx:∀{xs:List V} {us:List PH} (i:Nat),Vals xs us->Vals (xs.eraseIdx i) (us.eraseIdx i)
 |_,_,_,.nil=>.nil
 |_,_,0,.cons _ t=>t
 |_,_,i+1,.cons r t=>.cons r (Vals.eraseIdx i t)
theorem Vals.rep(h:Vals xs us):∀k:Nat,Vals (Nc k xs).flatten (Nc k us).flatten
 |0=>.nil
 |k+1=>by
  rw[NB,NB,N2,N2];show Vals.append h (Vals.rep h k)
theorem qM{α:Type}(l:List α):l.eraseIdx (l.length-1)=l.dropLast:=by
 induction l with
 |nil=>rfl
 |cons a r c=>
  cases r with
  |nil=>rfl
  |cons b r=>
   let e:(a::b::r).length-1=((b::r).length-1)+1:=by
    let d:(a::b::r).length=r.length+2:=rfl;let f:(b::r).length=r.length+1:=rfl
    lia
   rw[e,List.eraseIdx_cons_succ,c]
   all_goals rfl
theorem l6{α:Type}:∀(l:List α) (i:Nat),(l.eraseIdx i).length<=l.length
 |[],_=>Mz _
 |_::_,0=>NK _
 |_::r,i+1=>Nat.succ_le_succ (l6 r i)
theorem l7(a:List PH):∀(k:Nat) (b:List PH),
  Pa (λd c=>d++c) b.toArray (Nc k a.toArray)=(b++(Nc k a).flatten).toArray
 |0,b=>by simp
 |k+1,b=>by
  let e:b.toArray++a.toArray=(b++a).toArray:=by simp
  let e2:(b++a)++(Nc k a).flatten=b++(Nc (k+1) a).flatten:=by
   rw[NB,N2,M7]
  rw[<- e2,<- l7 a k (b++a),<- e,NB,List.foldl_cons]
section
variable {X:Cx} {pins:List (PL×Obj)} {Y:St} {H:Hp} {s:PM} {l b:PL} {xs ys zs:List V}
theorem Inv.lset{a its':List PH}{f:Array PH->Array PH}{t':Nat}(I:Inv X pins Y H s)(i:H l=PB (.lst xs))(e:s.heap.get? l=PB { cls:=.type "list",data:=.seq a.toArray n })(d:f a.toArray=its'.toArray)(c:Vals ys its')(h:ys.length<=sizeLine) :
  Inv X pins Y (upd H l (.lst ys)) { s with heap:=s.heap.update l (Obj.mapSeq f),toks:=t' }:=by
 let q:=PySem.IsL.update e f;rw[d] at q;show I.write (x:=l) (e:=l) (by rw[i];show trivial) (.inl rfl) (λj u b g=>(N1 s.heap (Obj.mapSeq f) (Ne.symm b)).trans g) ⟨_,q⟩ ?_;show⟨h,its',_,c,q⟩
theorem Inv.lnew{a:List PH}{t':Nat}(I:Inv X pins Y H s)(c:Vals ys a)(b:ys.length<=sizeLine) :
  Inv X pins Y (upd H s.heap.objs.size (.lst ys)) { s with heap:=s.heap.push { cls:=.type "list",data:=.seq a.toArray },toks:=t' }:=
 I.laid (λ_ _ q=>Mx _ q) (Mz _) ⟨b,a,0,c,ML _ rfl⟩
theorem Inv.fresh(I:Inv X pins Y H s):H s.heap.objs.size=PC:=I.hok.fresh (Mz _)
theorem Inv.lstM(I:Inv X pins Y H s)(b:H l=PB (.lst xs)):xs.length<=sizeLine/\∃(a:List PH) (n:Nat),Vals xs a/\xs.length=a.length/\s.heap.get? l=PB { cls:=.type "list",data:=.seq a.toArray n }:=by
 obtain⟨z,a,n,r,e⟩:=I.hok l _ b;show⟨z,a,n,r,r.length,e⟩
theorem oM{n:Nat}(h:n<=sizeLine):Builtin.List.listTooLong n=PF:=by
 unfold Builtin.List.listTooLong;show decide_eq_false (by lia)
end
section
variable {X:Cx}
def sK:V->List V->Hp->VK->Prop:=λx vs H Q=>∃l xs y,x=.ref l/\vs=[y]/\H l=PB (.lst xs)/\xs.length<sizeLine/\Q .non (upd H l (.lst (xs++[y])))
theorem l8:Jl X "list.append" sK:=by
 intro c s Y H x k v m Q I f d h;obtain⟨l,i,y,rfl,rfl,b,j,q⟩:=h;cases f;obtain⟨u,rfl,g⟩:=d.one;obtain⟨z,a,n,r,o,e⟩:=I.lstM b;show call_meets F.slot_list_append ⟨_,e,rfl⟩ F.entry_list_append (F.args_list_append_2 _ _) (PySem.list_append l a.toArray n u (by rw[MB];lia)) ⟨e,?_⟩;show⟨.non,_,I.lset (its':=a++[u]) b e (by simp) (r.append (.cons g .nil)) ?_,rfl,q⟩;rw[MN,Ot]
 lia
def sL:V->List V->Hp->VK->Prop:=λx vs H Q=>∃l b xs zs,x=.ref l/\vs=[.ref b]/\H l=PB (.lst xs)/\H b=PB (.lst zs)/\xs.length+zs.length<=sizeLine/\Q .non (upd H l (.lst (xs++zs)))
theorem va:Jl X "list.extend" sL:=by
 intro j s Y H x D v B Q I p k h;obtain⟨l,b,A,y,rfl,rfl,i,g,C,q⟩:=h;cases p;obtain⟨u,rfl,w⟩:=k.one;cases w;obtain⟨z,c,n,r,K,e⟩:=I.lstM i;obtain⟨E,a,t,m,o,e2⟩:=I.lstM g;let f:c.toArray.size+a.toArray.size<=sizeLine:=by rw[MB,MB];lia
 let d:¬(!c.toArray.isEmpty&&Builtin.List.listTooLong (c.toArray.size+a.toArray.size))=PD:=by
  rw[oM f,O4];show M4
 show call_meets F.slot_list_extend ⟨_,e,rfl⟩ F.entry_list_extend (F.args_list_extend_2 _ _)
  (AutoSeq1.list_extend_list_list_0 l c.toArray n b a.toArray t d (by rw[MB];lia) (by lia)) ⟨e,e2,?_⟩
 show⟨.non,_,I.lset (its':=c++a) i e (by simp) (r.append m) ?_,rfl,q⟩;rw[MN]
 lia
def GY:V->List V->Hp->VK->Prop:=λx vs H Q=>∃l xs y,x=.ref l/\vs=[]/\H l=PB (.lst xs)/\xs[xs.length-1]?=PB y/\Q y (upd H l (.lst xs.dropLast))
theorem DD:Jl X "list.pop" GY:=by
 intro f s Y H x t v w Q I i g h;obtain⟨l,p,y,rfl,rfl,d,k,q⟩:=h;cases i;let b:=g.zero;subst b;obtain⟨z,a,n,r,j,e⟩:=I.lstM d;obtain⟨u,o,m⟩:=r.get k
 let c:a.toArray[a.toArray.size-1]?=PB u:=by
  change a.toArray[a.length-1]?=PB u;rw[<- NM,<- j];show o
 show call_meets F.slot_list_pop ⟨_,e,rfl⟩ F.entry_list_pop (F.args_list_pop_1 _) (MeetsSeq.list_pop_last l a.toArray n u c (by rw[MB];lia)) ⟨e,?_⟩;show⟨y,_,I.lset (its':=a.dropLast) d e ?_ r.dropLast ?_,m,q⟩
 ·change a.toArray.eraseIdxIfInBounds (a.toArray.size-1)=a.dropLast.toArray;rw[MB,Ov,qM]
 ·rw[List.length_dropLast]
  lia
def wX:V->List V->Hp->VK->Prop:=λx vs H Q=>∃l xs i k y,x=.ref l/\vs=[.int i]/\H l=PB (.lst xs)/\-(2^63)<=i/\i<2^63/\seqIndex? i xs.length=PB k/\xs[k]?=PB y/\Q y (upd H l (.lst (xs.eraseIdx k)))
theorem wY:Jl X "list.pop" wX:=by
 intro d s Y H x D v E Q I o g h;obtain⟨l,j,i,k,y,rfl,rfl,c,C,m,hk,A,q⟩:=h;cases o;obtain⟨u,rfl,B⟩:=g.one;obtain⟨t,rfl⟩:=B;obtain⟨z,a,n,r,p,e⟩:=I.lstM c;obtain⟨w,f,b⟩:=r.get A;show call_meets F.slot_list_pop ⟨_,e,rfl⟩ F.entry_list_pop (F.args_list_pop_2 _ _)
  (MeetsSeq.list_pop_at l a.toArray n i t k w (fitsIndex_both C m) (by rw[MB,<- p];show hk) (by rw[<- NM];show f) (by rw[MB];lia)) ⟨e,?_⟩
 show⟨y,_,I.lset (its':=a.eraseIdx k) c e ?_ (r.eraseIdx k) ?_,b,q⟩
 ·change a.toArray.eraseIdxIfInBounds k=(a.eraseIdx k).toArray;rw[Ov]
 ·have:=l6 j k
  lia
def J3:R2:=λx y H Q=>∃l b xs zs,x=.ref l/\y=.ref b/\H l=PB (.lst xs)/\H b=PB (.lst zs)/\xs.length+zs.length<=sizeLine/\∀p,H p=PC->Q (.ref p) (upd H p (.lst (xs++zs)))
theorem DE:gq X (binaryOp .Add) J3:=by
 intro f s Y H x y v u Q I k m h;obtain⟨l,b,p,A,rfl,rfl,j,d,t,q⟩:=h;cases k;cases m;obtain⟨z,c,n,r,B,e⟩:=I.lstM j;obtain⟨w,a,C,i,g,e2⟩:=I.lstM d;show PySem.P.add_list e e2 ?_ (by rw[MB,MB];lia);let o:c.toArray++a.toArray=(c++a).toArray:=by simp
 rw[o];show⟨.ref _,_,I.lnew (t':=s.toks) (r.append i) (by rw[MN];lia),rfl,q _ I.fresh⟩
def J4:R2:=λx y H Q=>∃l k xs,x=.ref l/\y=.int k/\H l=PB (.lst xs)/\-(2^63)<=k/\k<2^63/\xs.length*k.toNat<=sizeLine/\
 ∀p,H p=PC->Q (.ref p) (upd H p (.lst (Nc k.toNat xs).flatten))
theorem Ab{α:Type}(xs:List α)(k:Nat):(Nc k xs).flatten.length=k*xs.length:=by
 induction k with
 |zero=>simp
 |succ k a=>rw[NB,N2,MN,a,Nat.succ_mul,Nat.add_comm]
theorem DF:gq X (binaryOp .Mult) J4:=by
 intro w s Y H x y v u Q I D K h;obtain⟨l,k,N,rfl,rfl,B,C,M,p,q⟩:=h;cases D;obtain⟨t,rfl⟩:=K;obtain⟨z,b,n,r,E,e⟩:=I.lstM B;let i:b.toArray.size*k.toNat<=sizeLine:=by rw[MB,<- E];show p
 let f:¬b.toArray.size*k.toNat > (2^63-1) / 8:=by
  have:(sizeLine:Nat)<=(2^63-1) / 8:=by decide
  lia
 let g:¬(!Builtin.List.listFitsIndex k)=PD:=by
  rw[fitsIndex_both C M];show M4
 let c:¬Builtin.List.listTooLong (b.toArray.size*k.toNat)=PD:=by
  rw[oM i];show M4
 let d:Pa (λo j=>o++j) #[] (Nc (if b.toArray.isEmpty=PD then 0 else k.toNat) b.toArray)=(Nc k.toNat b).flatten.toArray:=by
  let L:∀m:Nat,Pa (λo j=>o++j) #[] (Nc m b.toArray)=(Nc m b).flatten.toArray:=λm=>by
   have:=l7 b m [];rw[NN] at this;show this
  rw[L]
  cases b with
  |nil=>simp
  |cons a O=>rw[if_neg (by simp)]
 show wpAny_binaryOp_repeat_ref (by decide) ⟨_,e,rfl⟩ (λA=>typeIs_int A k t) noFill_list_mul F.fills_int_mul F.slot_int_rmul repeat_list F.slot_int_index.lookup
  (call_meets F.slot_int_rmul (typeIs_int s k t) F.entry_int_rmul (F.args_int_rmul_2 _ _) (int___rmul___int_list k t l b.toArray n)
   ⟨e,rfl,⟨_,e,rfl⟩,call_meets F.slot_list_mul ⟨_,e,rfl⟩ F.entry_list_mul (F.args_list_mul_2 _ _) (AutoListH.list___mul___list_int_3 l b.toArray n k t g f c) ⟨e,?_⟩⟩)
 rw[d];show⟨.ref _,_,I.lnew (t':=s.toks) (r.rep k.toNat) (by rw[Ab,Nat.mul_comm];show p),rfl,q _ I.fresh⟩
end
end L2
namespace Att
open PySem PySem.W PySem.Calls PyProof.Rows
theorem jM:∀(ns:List Int) (vs:List PH),WellAll P h vs (ns.map WData.int)->IntsAre vs ns:=by
 intro ns
 induction ns with
 |nil=>
  intro vs w;rw[OQ] at w;cases w;show .nil
 |cons n ns c=>
  intro vs w;rw[MQ] at w
  cases w with
  |cons a b=>
   cases a;show .cons _ _ (c _ b)
theorem vb{l:OpenLaw}(s:l.most=PB n){h:PZ}(b:l.row.toRowW.claim.pre args=PD)(i:WellAll P h vals args) :
  ∃a k ns,vals=[Value.ref a]/\args=[WData.list (ns.map WData.int)]/\h.get? a=PB { cls:=.type "list",data:=.seq k.toArray }/\IntsAre k ns/\ns.length<=n:=by
 let j:WShape.hasAll [] args [.list .int]=PD:=(pre_splitW b).1;let m:l.pre.holds [] { args:=args }=PD:=(pre_splitW b).2;obtain⟨d,r,rfl,v,t⟩:=hasAllW_cons j;obtain rfl:=hasAllW_nil t;obtain⟨x,rfl,o⟩:=hasW_list v;obtain⟨ns,rfl⟩:=items_int o
 let e:ns.length<=n:=by
  unfold OpenLaw.pre at m
  let f:(WTm.not (.lt (.lit (.int (n:Int))) (.len (.arg 0)))).holds [] { args:=[.list (ns.map .int)] }=PD:=by
   let f:=(holds_andW m).1;rw[s] at f;show f
  let g:=condW_of f (w_not (w_lt w_lit (w_len_list (w_arg rfl))));rw[My] at g;show Nat.le_of_not_lt λq=>?_;let p:(n:Int)<((ns.length:Nat):Int):=by lia
  first
   |(rw[decide_eq_true p] at g;show absurd g (by decide))
   |(simp at g;lia)
 cases i with
 |cons u w2=>
  cases w2
  cases u with
  |list w c=>show⟨_,_,ns,rfl,rfl,w,jM ns _ c,e⟩
theorem vc(l:OpenLaw)(args:List WData):l.row.toRowW.claim.post args (.bool PD) args=PD:=
 postW_of (r:=l.row.toRowW) (X:=(PD==PD))
  (show WShape.has [] (.bool PD) .bool=PD by first|rfl|decide|simp[WShape.has,WShape.arms,WShape.armsAll])
  (show(WTm.eq .res (.lit (.bool PD))).value [] { args:=args,res:=PB (.bool PD),after:=args }=PB (.bool (PD==PD)) from w_eq_bool (w_res rfl) w_lit) rfl
theorem oN{l:OpenLaw}{n:Nat}{YP:PX->PZ->Prop}{d:DefRec}(H:l.most=PB n)(x:d.params.defaults=[])(h:∀(w:PX) (v b:PM) (mg y:Str->Option PH) (i:PL) (o:Obj) (u m e:PH) (a:PL) (vs:List PH) (ns:List Int),
   Ground q loose [] XP w v mg y b.heap->YP w b.heap->
   b.heap.get? i=PB o->o.data=.func (docDef d.name d.params d.body d.scope u m e)->b.heap.CodeRec m d.name->mg d.name=PB (.ref i)->
   b.heap.get? a=PB { cls:=.type "list",data:=.seq vs.toArray }->IntsAre vs ns->ns.length<=n->b.gens=#[]->
   codeAny (PQ l.prog w) callerA (.call (.ref i) ⟨[.ref a],[]⟩) (λr s'=>r=.ok (.ret (.bool PD))/\OldK b.heap s'.heap/\s'.os=b.os/\AllBare s'.gens) b) :
  WalkO q loose XP YP l.row.toRowW d [] (λf vs=>PySem.call f vs):=by
 intro w v b mg y G D i o u m e K kV N Q s hD p F B z R k A M t I;obtain rfl:K=.none:=Dflts.none hD x;obtain rfl:kV=.none:=Dflts.noKw hD;obtain⟨a,vs,ns,rfl,rfl,g,c,j⟩:=vb H k t;show enter_call (codeAny_mono (h w v b mg y i o u m e a vs ns G D N (fd_plain Q) s p g c j F) λr s' P=>?_);obtain⟨rfl,L,C,E⟩:=P
 show⟨.inl ⟨.bool PD,.bool PD,[],rfl,λ_=>rfl,.bool PD,vc l _,λ_=>⟨List.Pairwise.nil,λ_ O=>(nomatch O)⟩⟩,L,C,E⟩
end Att
namespace L2
open PyProof.Rows
theorem l9:∀{vs:List PH} {ns:List Int},IntsAre vs ns->Vals (ns.map V.int) vs
 |_,_,.nil=>.nil
 |_,_,.cons n t h=>.cons ⟨t,rfl⟩ (l9 h)
def DG(H:Hp):Prop:=∀b,H b=PC\/∃o xs,H b=PB (.frz o (.lst xs))
theorem wZ{K:Mu}{mg R:Str->Option PH}{x:Str}{c:PM}{vs:List PH}{ns:List Int}(Y:K.In c.heap)(hns:c.heap.Ns P0 mg)(g:c.heap.Ns builtinsNs R)(Q:∀x:Str,x≠"__name__"->R x=bootBuiltins x)(l:c.heap.NoLimit)(hg:c.gens=#[])(I:c.heap.get? a=PB { cls:=.type "list",data:=.seq vs.toArray })(hi:IntsAre vs ns)(U:ns.length<=sizeLine)(hr:Room k callerA)(F:∀base:PZ,K.In base->base.Ns P0 mg->FnOk P w K mg base CX k fa fd [x] sp)(j:∀(s:PM) (u:PH),BindsTo s fd ⟨[u],[]⟩ [(x,u)])(N:∀H:Hp,DG H->SqL K H a (ns.map V.int)->sp [.ref a] H (λv _=>v=.bl PD) λ_ _ _=>False)(M:∀H e s',CX [] H c (λ_ _ _=>False) e s'->False) :
  codeAny (PQ P w) callerA (.call (.ref fa) ⟨[.ref a],[]⟩) (λr s'=>r=.ok (.ret (.bool PD))/\OldK c.heap s'.heap/\s'.os=c.os/\AllBare s'.gens) c:=by
 let S:=l9 hi;let p:=hi.length
 -- from an abstract heap in which nothing but the script may be tracked
 let i:∀H:Hp,DG H->SqL K H a (ns.map V.int)->HOk P w H c.heap->(∀b,H b≠PC->b=a)->(H a≠PC->K.lookup a=PC)->
   codeAny (PQ P w) callerA (.call (.ref fa) ⟨[.ref a],[]⟩) (λr s'=>r=.ok (.ret (.bool PD))/\OldK c.heap s'.heap/\s'.os=c.os/\AllBare s'.gens) c:=by
  intro H W hS y X hK;let f:∀{b:PL} {o:Obj},c.heap.get? b=PB o->H b=PC->(mV c.heap H).get? b=PB o:=λe n=>wq e n
  let L:∀{b:PL} {o:Obj} {t:Array DictEntry} {C:Nat},c.heap.get? b=PB o->o.data=.dict t C->H b=PC:=λ{b o t C} e d=>by
   cases q:H b with
   |none=>rfl
   |some u=>
    let O:b=a:=X b (by rw[q];simp);subst O;rw[I] at e;cases e;let d':Data.seq vs.toArray _=Data.dict t C:=d;cases d'
  let wf:∀{b:PL} {m:Str->Option PH},c.heap.Ns b m->(mV c.heap H).Ns b m:=λ{b m} ⟨o,t,C,e,d,r⟩=>⟨o,t,C,f e (L e d),d,r⟩
  let D:K.In (mV c.heap H):=λb o e=>f (Y b o e) (by
   cases q:H b with
   |none=>rfl
   |some u=>
    let O:b=a:=X b (by rw[q];simp);subst O;rw[hK (by rw[q];simp)] at e;cases e)
  let hM:Mod K mg (mV c.heap H):=⟨D,wf hns,⟨R,wf g,Q⟩,let ⟨mc,h1,h2⟩:=l;⟨mc,wf h1,h2⟩⟩;let Z:Env0 P w K mg (mV c.heap H) callerA [] c H:=⟨rfl,hM,λb o e=>zI e,Nat.le_of_eq (uY _ _),trivial,λb g=>absurd (show b∈([]:List PL) from g) (by simp),y,.of_eq hg⟩;show codeAny_mono ((F _ D (wf hns)).run callerA [] c H ⟨[.ref a],[]⟩ [.ref a] [.ref a] _ _ hr Z (j c (.ref a)) (.cons rfl .nil) (N H W hS)) λr s' h=>?_
  cases r with
  |error e=>show(M H e s' h).elim
  |ok fl=>
   cases fl with
   |next=>show False.elim h
   |brk=>show False.elim h
   |cont=>show False.elim h
   |ret u=>
    obtain⟨v,H',os,E,T,A,r',q⟩:=h;let q':v=.bl PD:=q;subst q';obtain rfl:u=Value.bool PD:=r';show⟨rfl,OldK.of_keep λb o e=>?_,os,E⟩
    cases q:H b with
    |none=>show T.keep b o e q (by intro z;show absurd (show b∈([]:List PL) from z) (by simp)) (by simp)
    |some u=>
     rcases W b with z|⟨ob,xs,z⟩
     ·rw[q] at z;cases z
     ·let z2:=T.frzs b ob _ z;obtain⟨e1,_⟩:=y b _ z;obtain⟨e2,_⟩:=A b _ z2;rw[e] at e1;cases e1;show e2
 cases hk:K.lookup a with
 |some o=>
  -- the script is one of the module's own objects
  let e:=Y a o hk;rw[I] at e;cases e;show i (λ_=>PC) (λ_=>.inl rfl) (.inr ⟨_,vs.toArray,_,hk,rfl,rfl,rfl,by rw[MB,p];show U,by simpa using S⟩) (λb u z=>by let B:(PC:Option HO)=PB u:=z;cases B) (λb z=>absurd rfl z) λz=>absurd rfl z
 |none=>
  show i (λb=>if b=a then PB (.frz { cls:=.type "list",data:=.seq vs.toArray } (.lst (ns.map V.int))) else PC) (λb=>?_) (.inl (.inr ⟨{ cls:=.type "list",data:=.seq vs.toArray },if_pos rfl⟩)) (λb u z=>?_) (λb z=>?_) λ_=>hk
  ·by_cases g:b=a
   ·show .inr ⟨_,_,if_pos g⟩
   ·show .inl (if_neg g)
  ·by_cases g:b=a
   ·let B:=(if_pos g).symm.trans z;cases B;subst g;show⟨I,by rw[My];show U,vs,_,S,I⟩
   ·let B:=(if_neg g).symm.trans z;cases B
  ·by_cases g:b=a
   ·show g
   ·show absurd (if_neg g) z
theorem Ac{l:PySem.W.OpenLaw}{n k:Nat}{YP:PX->PZ->Prop}{d:DefRec}{K:Params->Mu}{CX:PX->u8}{sp:PX->Sp}{x:Str}(O:l.most=PB n)(y:n<=sizeLine)(A:d.params.defaults=[])(N:Room k callerA)(t:∀(w:PX) (h:PZ),YP w h->(K w.params).In h)(F:∀(w:PX) (mg:Str->Option PH) (m:PL) (h:PZ),(K w.params).In h->h.Ns P0 mg->mg d.name=PB (.ref m)->
   ∃fd:P4,(∀(s:PM) (u:PH),BindsTo s fd ⟨[u],[]⟩ [(x,u)])/\
    ∀base:PZ,(K w.params).In base->base.Ns P0 mg->FnOk l.prog w (K w.params) mg base (CX w) k m fd [x] (sp w))(z:∀(w:PX) (H:Hp) (a:PL) (ns:List Int),ns.length<=n->DG H->SqL (K w.params) H a (ns.map V.int)->sp w [.ref a] H (λv _=>v=.bl PD) λ_ _ _=>False)(r:∀(w:PX) (H:Hp) (s:PM) (e:PH) (s':PM),CX w [] H s (λ_ _ _=>False) e s'->False) :
  PySem.W.WalkO q loose XP YP l.row.toRowW d [] (λf B=>PySem.call f B):=by
 show Att.oN O A λw Z P mg mb m o Y U R a B ns G E ho X I p j i c M=>?_;let C:=t w _ E;obtain⟨fd,D,L⟩:=F w mg m _ C G.T.g p;show wZ C G.T.g G.T.b G.T.builtins G.T.nolimit M j i (Nb c y) N L D (λH S Q=>z w H a ns c S Q) λH e s'=>r w H P e s'
noncomputable def cg(s:PV):Arguments:=match s with
 |.FunctionDef _ a _ _ _ _ _ _ _ _=>a
 |_=>{ posonlyargs:=[],args:=[],vararg:=PC,kwonlyargs:=[],kw_defaults:=[],kwarg:=PC,defaults:=[] }
noncomputable def aF(s:PV):List PV:=match s with
 |.FunctionDef _ _ b _ _ _ _ _ _ _=>b
 |_=>[]
noncomputable def ab(s:PV):P1:=match s with
 |.FunctionDef _ _ _ _ _ _ sc _ _ _=>sc
 |_=>{ kind:=.function,names:=[],isGenerator:=PF,isCoroutine:=PF }
abbrev iQ:u8:=λ_ _ _ _ _ _=>False
abbrev E0:XK:=λ_ _ _=>False
theorem oO:iP iQ X E0:=λ_ _ _ _ _ _ _ h=>h.elim
structure Fun(K:Mu)(x qual:Str)(st:Stmt)(f:Addr)(fd:FuncData):Prop where
 ex:∃(oc:PH) (od:Option PL) (kV doc pm:PH) (an:Option PL) (cdv ct:PH) (osl:Array (Option PH)),
  fd=Nu x qual (cg st) (aF st) (ab st) .none kV doc pm an cdv ct/\K.lookup f=PB ⟨oc,od,.func fd,osl⟩/\Oh K cdv qual=PD
 kp:Nr K (.ref f)=PD
section
variable {P:PR} {w:PX} {K:Mu} {mg:Str->Option PH} {base:PZ}
theorem Fun.ok{x qual:Str}{st:PV}{f:PL}{fd:P4}{N ps:List Str}{k:Nat}{sp:Sp}(F:Fun K x qual st f fd)(S:a6 N ps (ab st))(e:∀vs H Q E,sp vs H Q E->vs.length=ps.length)
  (hbody:∀(b:PH) (A:PY) (a:List Env) (s:PM) (H:Hp) (vs:List V) (Q:VK) (E:XK),Room k (A.deeper (envOfC qual (ab st) s.heap.objs.size f b))->sp vs H Q E->
   ∃t,PSs (lG iQ P w K mg base N qual (ab st) f b A a s H E).nox (aF st) t/\t { nx:=λ_ j=>Q .non j,rt:=Q } (bP N vs) H):FnOk P w K mg base iQ (k+1) f fd ps sp:=by
 obtain⟨r,n,kV,i,p,an,b,o,l,rfl,m,c⟩:=F.ex;show GP m c S e λA a s H vs Q E g d=>?_;obtain⟨t,h,q⟩:=hbody b A a s H vs Q E g d;show⟨t,h.nox,q⟩
theorem Fun.binds{x qual:Str}{st:PV}{f:PL}{fd:P4}{ps:List Str}(F:Fun K x qual st f fd)
  (h:∀(kV a d:PH) (an:Option PL) (b c:PH) (e:List PH),e.length=ps.length->bindArgs (Nu x qual (cg st) (aF st) (ab st) .none kV a d an b c) ⟨e,[]⟩=pure (ps.zip e)):Binds K fd ps []:=by
 obtain⟨l,k,kV,a,d,an,b,c,i,rfl,j,g⟩:=F.ex;show .all (h kV a d an b c)
theorem kn{x qual:Str}{st:PV}{f:PL}{i:PH}{h an:Option PL}{d:Array (Option PH)}{kV b g a e:PH}(l:K.lookup f=PB ⟨i,h,.func (Nu x qual (cg st) (aF st) (ab st) .none kV b g an a e),d⟩)
  (c:Oh K a qual=PD) (k:Nr K (.ref f)=PD):Fun K x qual st f (Nu x qual (cg st) (aF st) (ab st) .none kV b g an a e):=⟨⟨i,h,kV,b,g,an,a,e,d,rfl,l,c⟩,k⟩
end
theorem vd{A a:Prop}(h:a):if PF=PD then A else a:=by
 rw[if_neg M4];show h
theorem ve{A a:Prop}(h:A):if PD=PD then A else a:=by
 rw[if_pos rfl];show h
def Same(H H':Hp):Prop:=∀b o,H b=PB o->H' b=PB o
theorem Same.refl(H:Hp):Same H H:=λ_ _ h=>h
theorem Same.trans(a:Same H H1)(b:Same H1 H2):Same H H2:=λc o h=>b c o (a c o h)
theorem Same.free{H H':Hp}(e:Same H H')(h:H' l=Option.none):H l=Option.none:=by
 cases q:H l with
 |none=>rfl
 |some o=>
  rw[e l o q] at h;cases h
end L2
namespace HT
open PyProof.Rows
section
variable {prog:PR} {w:PX} {A:PY} {E:PH->PM->Prop} {s:PM}
theorem gX{t d:PL}{a:Array PH}{f i:PH}{lo hi:Option Int}{Q:PH->PM->Prop}(b:IsTup s.heap t a)(g:s.heap.IsSliceOf d f i .none)(pl:IsPart f lo)(j:IsPart i hi)
  (h0:ca a.size 0 lo=0) (h1:ca a.size a.size hi=a.size) (h:Q (.ref t) s):PP (PQ prog w) A (getItem (.ref t) (.ref d)) Q E s:=by
 obtain⟨k,e,c,l⟩:=id g;let n:s.TypeIs (.ref d) "slice":=⟨k,e,c⟩;unfold getItem
 try with_reducible show P8 ?_
 first|show PJ (PN ?_)|skip
 show PJ (wpAny_sequenceKey b.typeIs (by decide) ?_);show PJ (wpAny_callSpecial?_slot (name:=Str.ofString "__getitem__") b.typeIs PyProof.Rows.slot_tuple_getitem (Qb PyProof.Rows.slot_tuple_getitem b.typeIs entry_tuple_getitem ?_ (args_tuple_getitem _ _)));change PP _ _ (Builtin.Tuple.tupleItemsOf (.ref t) >>= _) _ _ s;show PJ (tupleItemsOf_ b ?_);show PJ (wpAny_typeOf n ?_);rw[if_pos (by decide)];show PJ (dZ g pl j ?_);rw[h0,h1]
 change PP _ _ (if((((0:Nat):Int))==0&&(1:Int)==1&&(a.size-0)==a.size)=PD then _ else _) _ _ s
 rw[if_pos (by simp)];show PJ (m:=Builtin.Tuple.tupleIsExact _) ?_;unfold Builtin.Tuple.tupleIsExact;show PJ (wpAny_typeOf b.typeIs (PN ?_));rw[if_pos (by decide)]
 first
  |show PJ (wpAny_rule (PN ⟨_,rfl,PN h⟩))
  |show PN ⟨_,rfl,PN h⟩
  |show PJ (PN (PN ⟨_,rfl,PN h⟩))
end
end HT
namespace L2
open PyProof.Rows
section
variable {X:Cx}
theorem Ad:SlR X (λx lo hi H Q=>∃a xs,x=.ref a/\SqT X.K H a xs/\HT.ca xs.length 0 lo=0/\HT.ca xs.length xs.length hi=xs.length/\Q (.ref a) H):=by
 intro d s Y H x v p o lo hi t Q I k j i g h;obtain⟨a,xs,rfl,f,l,m,q⟩:=h;cases k;obtain⟨b,r,e,n⟩:=I.tuple f;let c:b.toArray.size=xs.length:=by rw[MB];show r.length.symm
 show⟨"tuple",_,PyProof.Rows.slot_tuple_getitem.lookup,e.typeIs,HT.gX e j i g (by rw[c];show l) (by rw[c];show m) ⟨.ref a,H,I,rfl,q⟩⟩
end
section
variable {κ:Type} [DecidableEq κ]
noncomputable def gY(kvs:List (κ×V))(k:κ):Option V:=(kvs.find? λkv=>decide (kv.1=k)).map (·.2)
noncomputable def cC(kvs:List (κ×V))(k:κ)(v:V):List (κ×V):=
 if(kvs.any λkv=>decide (kv.1=k))=PD then kvs.map (λkv=>if kv.1=k then(kv.1,v) else kv) else kvs++[(k,v)]
theorem ko{p:κ×V}(e:p.1=k):gY (p::r) k=PB p.2:=by simp[gY,NO,e]
theorem kq{p:κ×V}(e:¬p.1=k):gY (p::r) k=gY r k:=by simp[gY,NO,e]
theorem oP(k:κ):∀kvs:List (κ×V),(kvs.any λkv=>decide (kv.1=k))=(gY kvs k).isSome
 |[]=>rfl
 |p::r=>by
  rw[OL];by_cases e:p.1=k
  ·simp only[ko e,decide_eq_true e,Bool.true_or,Pe]
  ·rw[kq e,decide_eq_false e,Bool.false_or];show oP k r
theorem dE(kvs:List (κ×V))(k:κ)(v:V):(cC kvs k v).length<=kvs.length+1:=by
 unfold cC;split
 ·rw[My];lia
 ·rw[MN,Nh,Px];lia
theorem RelO.isSome_eq{o:Option V}{u:Option PH}(r:RelO o u):o.isSome=u.isSome:=by
 cases o with
 |none=>cases u with
  |none=>rfl
  |some _=>show(show False from r).elim
 |some _=>cases u with
  |none=>show(show False from r).elim
  |some _=>rfl
theorem KV.val(r:KV kvs vs)(k:κ):RelO (gY kvs k) (valueAt vs k):=by
 unfold KV at r
 induction r with
 |nil=>show True.intro
 |@cons p q i a h t f=>
  obtain⟨d,g⟩:=h;by_cases e:p.1=k
  ·let c:q.1=k:=d.symm.trans e;let b:valueAt (q::a) k=PB q.2:=by simp[valueAt,NO,c]
   rw[ko e,b];show g
  ·let c:¬q.1=k:=λz=>e (d.trans z);let b:valueAt (q::a) k=valueAt a k:=by simp[valueAt,NO,c]
   rw[kq e,b];show f
theorem KV.any{kvs:List (κ×V)}{vs:List (κ×PH)}(r:KV kvs vs)(k:κ):(kvs.any λkv=>decide (kv.1=k))=vs.any λkv=>decide (kv.1=k):=by
 unfold KV at r
 induction r with
 |nil=>rfl
 |cons h t a=>rw[OL,OL,a,h.1]
theorem KV.repl{kvs:List (κ×V)}{vs:List (κ×PH)}(r:KV kvs vs)(k:κ)(f:RelV y u) :
  KV (kvs.map λa=>if a.1=k then(a.1,y) else a) (vs.map λa=>if a.1=k then(a.1,u) else a):=by
 unfold KV at r⊢
 induction r with
 |nil=>show .nil
 |@cons p q i g h t c=>
  rw[MQ,MQ];show .cons ?_ c;obtain⟨b,d⟩:=h;by_cases e:p.1=k
  ·rw[if_pos e,if_pos (b.symm.trans e)];show⟨b,f⟩
  ·rw[if_neg e,if_neg (λz=>e (b.trans z))];show⟨b,d⟩
theorem KV.put(r:KV kvs vs)(k:κ)(a:RelV y u):KV (cC kvs k y) (stored vs k u):=by
 unfold cC stored;rw[r.any k];by_cases e:(vs.any λb=>decide (b.1=k))=PD
 ·rw[if_pos e,if_pos e];show r.repl k a
 ·rw[if_neg e,if_neg e];show Paired.snoc r ⟨rfl,a⟩
theorem KV.length{kvs:List (κ×V)}{vs:List (κ×PH)}(r:KV kvs vs):kvs.length=vs.length:=Paired.length r
end
theorem kr(r:RelV (kV k) u):(aK P w).is k u=PD:=by
 cases k with
 |inl i=>obtain⟨t,e⟩:=(show ∃t,u=Value.int i t from r);subst e;show oz P w i t
 |inr x=>obtain⟨t,e⟩:=(show ∃t,u=Value.str x t from r);subst e;show oA P w x t
theorem ma:∀{ks:List aN} {us:List PH},Vals (ks.map kV) us->ItemsAre (aK P w) ks us
 |[],_,r=>by rw[OQ] at r;cases r;show .nil
 |k::ks,_,r=>by
  rw[MQ] at r
  cases r with
  |cons h t=>show .cons (kr h) (ma t)
abbrev KT(m:Nat)(H:Hp):List (List (aN ⊕ List aN)×V)->List (List (aN ⊕ List aN)×PL×PH)->Prop:=Paired λp q=>p.1=q.1/\TkAt H m p.1 q.2.1/\RelV p.2 q.2.2
theorem KT.val(r:KT m H kvs xs)(k:List (aN ⊕ List aN)):RelO (gY kvs k) ((atKey xs k).map (·.2)):=by
 induction r with
 |nil=>show True.intro
 |@cons p q i a h t f=>
  obtain⟨d,_,g⟩:=h;by_cases e:p.1=k
  ·let c:q.1=k:=d.symm.trans e;let b:atKey (q::a) k=PB q.2:=by simp[atKey,NO,c]
   rw[ko e,b];show g
  ·let c:¬q.1=k:=λz=>e (d.trans z);let b:atKey (q::a) k=atKey a k:=by simp[atKey,NO,c]
   rw[kq e,b];show f
theorem KT.repl{kvs:List (List (aN ⊕ List aN)×V)}{xs:List (List (aN ⊕ List aN)×PL×PH)}(r:KT m H kvs xs)(k:List (aN ⊕ List aN))(g:RelV y u) :
  KT m H (kvs.map λb=>if b.1=k then(b.1,y) else b) (xs.map (putAt k u)):=by
 induction r with
 |nil=>show .nil
 |@cons p q j i h t f=>
  rw[MQ,MQ];show .cons ?_ f;obtain⟨a,c,d⟩:=h;unfold putAt;by_cases e:p.1=k
  ·rw[if_pos e,if_pos (a.symm.trans e)];show⟨a,c,g⟩
  ·rw[if_neg e,if_neg (λz=>e (a.trans z))];show⟨a,c,d⟩
theorem KT.put{m:Nat}{H:Hp}{kvs:List (List (aN ⊕ List aN)×V)}{xs:List (List (aN ⊕ List aN)×PL×PH)}(r:KT m H kvs xs)(k:List (aN ⊕ List aN)){b:PL}{y:V}{u:PH}(c:TkAt H m k b)(a:RelV y u) :
  KT m H (cC kvs k y) (storedH xs k b u):=by
 let e:(kvs.any λd=>decide (d.1=k))=(atKey xs k).isSome:=by
  rw[oP,(r.val k).isSome_eq,Oi]
 unfold cC storedH;rw[e];by_cases q:(atKey xs k).isSome=PD
 ·rw[if_pos q,if_pos q];show r.repl k a
 ·rw[if_neg q,if_neg q];show Paired.snoc r ⟨rfl,c,a⟩
theorem KT.keeps{H H':Hp}(r:KT m H kvs xs)(a:∀b ys,H b=PB (.tup ys)->H' b=PB (.tup ys)):KT m H' kvs xs:=
 Paired.mapP r λ_ _ z=>⟨z.1,z.2.1.keep a,z.2.2⟩
section
variable {P:PR} {w:PX} {H:Hp} {h:PZ} {a:PL}
theorem B2(b:HOk P w H h)(e:Rd H a u):ObjOk P w H h a u:=e.ok b
theorem oQ{kvs:List (aN×V)}(b:HOk P w H h)(e:Rd H a (.dK kvs)):kvs.length<=sizeLine/\(a==sysModules)=PF/\∃vs,KV kvs vs/\h.DictOf (aK P w) a vs:=
 show ObjOk P w H h a (.dK kvs) from B2 b e
theorem me{kvs:List (aN×V)}(b:HOk P w H h)(e:H a=PB (.dK kvs)):kvs.length<=sizeLine/\(a==sysModules)=PF/\∃vs,KV kvs vs/\h.DictOf (aK P w) a vs:=oQ b (.inl e)
theorem DH{ks:List aN}(g:HOk P w H h)(e:H a=PB (.tup (ks.map kV))):(tupleKind (aK P w)).is h ks a:=by
 obtain⟨_,b,r,o,d,f,n,c⟩:=(show ObjOk P w H h a (.tup (ks.map kV)) from g a _ e);show⟨o,b.toArray,n,d,f,c,by simpa using ma r⟩
theorem fN{A:PY}(a:A.units+9<cLine):(bH m (aK P w)).room A.in1:=by
 change A.units+1+8<cLine
 lia
theorem kt:∀{m:Nat} {ks:List (aN ⊕ List aN)} {vs:List V} {us:List PH},HOk P w H h->TkIts H m ks vs->Vals vs us->Its2 (aK P w) h m ks us
 |_,[],_,_,ok,r,v=>by cases(show _=[] from r);cases v;show .nil
 |m,.inl k::xs,_,_,ok,r,v=>by
  obtain⟨d,rfl,z,t⟩:=r
  cases v with
  |cons c a=>show .key z (kr c) (kt ok t a)
 |m,.inr ks::xs,_,_,ok,r,v=>by
  obtain⟨b,d,rfl,z,g,t⟩:=r
  cases v with
  |@cons _ u _ _ c a=>
   cases(show u=Value.ref b from c);show .tup z (DH ok g) (kt ok t a)
theorem eG(c:HOk P w H h)(e:TkAt H m ks a):(bH m (aK P w)).is h ks a:=by
 obtain⟨j,g,r⟩:=e;obtain⟨_,b,q,o,i,f,n,d⟩:=(show ObjOk P w H h a (.tup j) from c a _ g);show⟨o,b.toArray,n,i,f,d,by simpa using kt c r q⟩
theorem oR{kvs:List (List (aN ⊕ List aN)×V)}(g:HOk P w H h)(e:Rd H a (.dT m ep kvs)):kvs.length<=sizeLine/\(a==sysModules)=PF/\
  ∃c,KT m H kvs c/\h.DictOfH (bH m (aK P w)) a c:=by
 obtain⟨z,y,c,r,o,v,A,s,i,j,u⟩:=(show ObjOk P w H h a (.dT m ep kvs) from B2 g e);show⟨z,y,c,r,o,v,ep,A,s,i,j,λx b=>?_,u⟩
 let d:∀{l:List (List (aN ⊕ List aN)×V)} {n:List (List (aN ⊕ List aN)×PL×PH)},KT m H l n->∀x∈n,(bH m (aK P w)).is h x.1 x.2.1:=by
  intro l n q
  induction q with
  |nil=>intro x b;show nomatch b
  |@cons p q C B f t k=>
   intro x b;rcases MD.mp b with e|b
   ·subst e;show eG g (by rw[<- f.1];show f.2.1)
   ·show k x b
 show d r x b
theorem w4(b:HOk P w H h)(e:H a=PB (.dT m ep kvs)):(a==sysModules)=PF/\∃xs o es,KT m H kvs xs/\h.get? a=PB o/\o.ExactDict/\o.data=.dict es ep/\es.toList=xs.map (entryOfKey (bH m (aK P w))):=
 let ⟨_,y,xs,r,o,es,h1,h2,h3,h4,_⟩:=(show ObjOk P w H h a (.dT m ep kvs) from b a _ e)
 ⟨y,xs,o,es,r,h1,h2,h3,h4⟩
theorem w5{kvs:List (List (aN ⊕ List aN)×V)}(c:HOk P w H h)(e:H a=PB (.dT m ep kvs)):kvs.length<=sizeLine/\(a==sysModules)=PF/\
  ∃b,KT m H kvs b/\h.DictOfH (bH m (aK P w)) a b:=oR c (.inl e)
end
def DGet(H:Hp)(a:PL)(y:V)(r:Option V):Prop:=
 (∃kvs k,Rd H a (.dK kvs)/\y=kV k/\r=gY kvs k)\/∃m ep kvs k b,Rd H a (.dT m ep kvs)/\y=.ref b/\TkAt H m k b/\r=gY kvs k
def DPut(H:Hp)(a:PL)(y v:V)(F:Nat->Hp):Prop:=
 (∃kvs k,H a=PB (.dK kvs)/\y=kV k/\kvs.length<sizeLine/\F=λ_=>upd H a (.dK (cC kvs k v)))\/
 ∃m ep kvs k b,H a=PB (.dT m ep kvs)/\y=.ref b/\TkAt H m k b/\kvs.length<sizeLine/\F=λe=>upd H a (.dT m e (cC kvs k v))
theorem DGet.k{H:Hp}{a:PL}{kvs:List (aN×V)}{k:aN}(e:H a=PB (.dK kvs)):DGet H a (kV k) (gY kvs k):=.inl ⟨kvs,k,.inl e,rfl,rfl⟩
theorem DGet.t{H:Hp}{a b:PL}{m ep:Nat}{kvs:List (List (aN ⊕ List aN)×V)}{k:List (aN ⊕ List aN)}(e:H a=PB (.dT m ep kvs))(c:TkAt H m k b):DGet H a (.ref b) (gY kvs k):=.inr ⟨m,ep,kvs,k,b,.inl e,rfl,c,rfl⟩
theorem DPut.k{H:Hp}{a:PL}{kvs:List (aN×V)}{k:aN}{v:V}(e:H a=PB (.dK kvs))(b:kvs.length<sizeLine):DPut H a (kV k) v λ_=>upd H a (.dK (cC kvs k v)):=.inl ⟨kvs,k,e,rfl,b,rfl⟩
theorem DPut.t{H:Hp}{a b:PL}{m ep:Nat}{kvs:List (List (aN ⊕ List aN)×V)}{k:List (aN ⊕ List aN)}{v:V}(e:H a=PB (.dT m ep kvs))(c:TkAt H m k b)(d:kvs.length<sizeLine) :
  DPut H a (.ref b) v λe=>upd H a (.dT m e (cC kvs k v)):=.inr ⟨m,ep,kvs,k,b,e,rfl,c,d,rfl⟩
section
variable {X:Cx} {pins:List (PL×Obj)} {Y:St} {H:Hp} {s:PM} {a:PL} {y v:V} {u r:PH} {o:Option V} {A:PY} {E:PH->PM->Prop}
theorem Inv.big(I:Inv X pins Y H s):sysModules<s.heap.objs.size:=by
 let h:P0<s.heap.objs.size:=(I.mod.glob.keeps I.bk).lt;show Og (by decide) h
theorem vf{Q:PH->PM->Prop}(F:A.units+9<cLine)(I:Inv X pins Y H s)(g:DGet H a y (PB v))(t:RelV y u)(h:∀f s',Inv X pins Y H s'->RelV v f->Q f s') :
  PP (PQ X.prog X.w) A (getItem (.ref a) u) Q E s:=by
 rcases g with⟨n,k,e,q,l⟩|⟨m,L,n,k,b,e,q,x,l⟩
 ·subst q;obtain⟨z,K,C,d,r⟩:=oQ I.hok e;obtain⟨f,i,c⟩:=RelO.some_of (v:=v) (o:=valueAt C k) (by rw[l];show d.val k);show wpAny_getItem_of (kr t) r.mapOf i (h f _ (I.tok _) c)
 ·subst q;cases(show u=Value.ref b from t);obtain⟨z,K,B,d,r⟩:=oR I.hok e;obtain⟨f,i,c⟩:=RelO.some_of (v:=v) (o:=(atKey B k).map (·.2)) (by rw[l];show d.val k);obtain⟨p,D,j⟩:=O2.mp i;show wpAny_getItem_heap (fN F) (eG I.hok x) r D ?_;rw[j];show h f _ (I.tok _) c
theorem J5{Q:PH->PM->Prop}(r:A.units+9<cLine)(I:Inv X pins Y H s)(g:DGet H a y o)(n:RelV y u)(h:∀s',Inv X pins Y H s'->Q (.bool o.isSome) s') :
  PP (PQ X.prog X.w) A (compareOp .In u (.ref a)) Q E s:=by
 rcases g with⟨d,k,e,f,l⟩|⟨m,v,d,k,b,e,f,p,l⟩
 ·subst f;obtain⟨z,j,x,c,i⟩:=oQ I.hok e;show wpAny_in_of (kr n) j i.mapOf ?_;rw[<- (c.val k).isSome_eq,<- l];show h _ (I.tok _)
 ·subst f;cases(show u=Value.ref b from n);obtain⟨z,j,t,c,i⟩:=oR I.hok e;show wpAny_in_heap (fN r) (eG I.hok p) j i ?_;let q:=(c.val k).isSome_eq;rw[Oi] at q;rw[<- q,<- l];show h _ (I.tok _)
theorem Ae{Q:PH->PM->Prop}(r:A.units+9<cLine)(I:Inv X pins Y H s)(g:DGet H a y o)(n:RelV y u)(h:∀s',Inv X pins Y H s'->Q (.bool (!o.isSome)) s') :
  PP (PQ X.prog X.w) A (compareOp .NotIn u (.ref a)) Q E s:=by
 rcases g with⟨d,k,e,f,l⟩|⟨m,v,d,k,b,e,f,p,l⟩
 ·subst f;obtain⟨z,j,x,c,i⟩:=oQ I.hok e;show wpAny_notIn_of (kr n) j i.mapOf ?_;rw[<- (c.val k).isSome_eq,<- l];show h _ (I.tok _)
 ·subst f;cases(show u=Value.ref b from n);obtain⟨z,j,t,c,i⟩:=oR I.hok e;show wpAny_notIn_heap (fN r) (eG I.hok p) j i ?_;let q:=(c.val k).isSome_eq;rw[Oi] at q;rw[<- q,<- l];show h _ (I.tok _)
theorem jS{h':PZ}{t':Nat}(I:Inv X pins Y H s)(f:Gr (H a))(h:Heap.SameBut a s.heap h')(g:∃q,h'.get? a=PB q)(c:ObjOk X.prog X.w (upd H a ob) h' a ob) :
  Inv X pins Y (upd H a ob) { s with heap:=h',toks:=t' }:=
 I.write (x:=a) (e:=a) f (.inl rfl) (λb q d z=>(h.2 b d).trans z) g c
theorem w6{h':PZ}{kvs:List (aN×V)}(z:kvs.length<=sizeLine)(hd:(a==sysModules)=PF)(b:KV kvs vs)(c:h'.DictOf (aK P w) a vs) :
  ObjOk P w H' h' a (.dK kvs):=⟨z,hd,vs,b,c⟩
theorem vg{F:Nat->Hp}{Q:Unit->PM->Prop}(T:A.units+9<cLine)(I:Inv X pins Y H s)(g:DPut H a y v F)(L:RelV y u)(D:RelV v r)(h:∀e s',Inv X pins Y (F e) s'->Q () s') :
  PP (PQ X.prog X.w) A (setItem (.ref a) u r) Q E s:=by
 rcases g with⟨d,k,e,p,l,B⟩|⟨m,O,d,k,b,e,p,M,l,B⟩
 ·subst p B;obtain⟨z,C,S,f,t⟩:=me I.hok e;let n:S.length<=sizeLine:=by rw[<- f.length];show z
  let o:(cC d k v).length<=sizeLine:=by have:=dE d k v;lia
  show wpAny_setItem_pairs (hsz:=n) (kr L) t λN i x=>h 0 _ ?_;let V:∃q,N.get? a=PB q:=let ⟨q,_,_,j,_⟩:=i;⟨q,j⟩;show jS I (by rw[e];show True.intro) x V (w6 o C (f.put k D) i)
 ·subst p B;cases(show u=Value.ref b from L);obtain⟨z,C,W,f,t⟩:=w5 I.hok e;let n:W.length<=sizeLine:=by rw[<- Paired.length f];show z
  let o:(cC d k v).length<=sizeLine:=by have:=dE d k v;lia
  show wpAny_setItem_heap (hsz:=n) (fN T) (eG I.hok M) t λN i x=>?_;obtain⟨q,U,O,j,Z,P,R,_,h5⟩:=i;show h O _ ?_;show jS I (by rw[e];show True.intro) x ⟨q,j⟩ ⟨o,C,_,(f.put k M D).keeps λc ys K=>?_,q,U,j,Z,P,R,h5⟩
  rw[ag (BV K e (λz=>nomatch z))]
  show K
end
def GZ(i:PK):Prop:=∀B q,subscripted i PF B q=operate [B,q] (getItem B q)
theorem Af{T id:String}(g:typeLookup (.type T) "__getitem__" = pure (PB (.builtin id)))(l:GZ slice)(h:PP (PQ prog w) A (eval value env) (λo e=>PP (PQ prog w) A (eval slice env) (λi b=>b.TypeIs o T/\PP (PQ prog w) A (getItem o i) Q E b) E e) E s) :
  PP (PQ prog w) A (eval (.Subscript value slice pos) env) Q E s:=by
 show Subscript_ (wpAny_mono h (λo e k=>wpAny_mono k (λi b c=>?_) λ_ _ x=>x) λ_ _ x=>x);obtain⟨f,c⟩:=c;unfold subscriptTail;show PJ ?_;rw[getitemInPython_of_ne f.not_modules];show PJ (wpAny_specialOf f g ?_)
 let a:PP (PQ prog w) A (subscripted slice PF o i) (λr d=>PP (PQ prog w) A (letTemporaryGo value o r >>= λ_=>pure r) Q E d) E b:=by
  rw[l o i];show wpAny_operating (wpAny_mono c (λr d j=>PJ (wpAny_letTemporaryGo (PN j))) λ_ _ x=>x)
 first
  |show PN (PJ a)
  |show PJ (PN (PJ a))
  |show PJ a
theorem oT{s:PM}(I:Inv X pins Y H s)(g:DGet H a y o):s.TypeIs (.ref a) "dict":=by
 rcases g with⟨d,k,e,_,_⟩|⟨m,h,d,k,b,e,_,_,_⟩
 ·obtain⟨_,_,i,_,c⟩:=oQ I.hok e;show c.typeIs
 ·obtain⟨_,_,f,_,c⟩:=oR I.hok e;show c.typeIs
def G0(td ty:TE):TE:=λY H Q=>td Y H λx H1=>ty Y H1 λy H2=>∃a v,x=.ref a/\DGet H2 a y (PB v)/\Q v H2
def G3(td ty tv:TE):TS:=λD Y H=>tv Y H λv H1=>td Y H1 λx H2=>ty Y H2 λy q=>∃a F,x=.ref a/\DPut q a y v F/\∀e,D.nx Y (F e)
section
variable {X:Cx} {o i e value:PK} {pos pos' tpos:Pos} {td ty tv:TE}
theorem m9(m:X.A.units+9<cLine)(w:PE X o td)(hi:PE X i ty)(j:GZ i):PE X (.Subscript o i pos) (G0 td ty):=by
 intro b s Y H Q I h;show Af PySem.F.slot_dict_getitem.lookup j (aY (w b s Y H _ I h) λu s1 ⟨x,t,l,k,f⟩=>aY (hi b s1 Y t _ l f) λC s2 ⟨y,n,d,q,a,v,e,g,r⟩=>?_);subst e;obtain rfl:u=Value.ref a:=k;show⟨oT d g,vf m d g q λB z p c=>⟨v,n,p,c,r⟩⟩
theorem Ag(m:X.A.units+9<cLine)(K:PE X o td)(hi:PE X i ty)(l:PE X value tv)(z:swapsWith value (PB (.Subscript o i pos')) pos.line X.env=pure PF) :
  PS X (.Assign [.Subscript o i pos'] value pos) (G3 td ty tv):=by
 intro b s Y H D I h;show wpAny_Assign_Subscript (aY (l b s Y H _ I h) λr s1 ⟨v,E,B,d,f⟩=>aY (K b s1 Y E _ B f) λu s2 ⟨x,p,t,k,C⟩=>aY (hi b s2 Y p _ t C) λN M ⟨y,L,n,q,a,F,c,g,j⟩=>?_) z;subst c;obtain rfl:u=Value.ref a:=k;show vg m n g q d λe s4 w=>⟨Y,F e,w,j e⟩
end
theorem w8(h:PZ)(a:sysModules<h.objs.size):ObjOk P w H (h.push { cls:=.type "dict",data:=.dict #[] }) h.objs.size (.dK []):=
 ⟨M3 _,beq_eq_false_iff_ne.mpr (Ne.symm (MM a)),[],.nil,Heap.DictOf.new h⟩
theorem w9(h:PZ)(a:sysModules<h.objs.size):ObjOk P w H (h.push { cls:=.type "dict",data:=.dict #[] }) h.objs.size (.dT m 0 []):=
 ⟨M3 _,beq_eq_false_iff_ne.mpr (Ne.symm (MM a)),[],.nil,_,#[],ML _ rfl,⟨rfl,rfl,rfl⟩,rfl,rfl,OD⟩
def DI:TE:=λ_ H Q=>∀p,H p=PC->Q (.ref p) (upd H p (.dK []))
def DJ(m:Nat):TE:=λ_ H Q=>∀p,H p=PC->Q (.ref p) (upd H p (.dT m 0 []))
section
variable {X:Cx} {pos:Pos}
theorem xa:PE X (.Dict [] [] pos) DI:=λb s Y H Q I h=>
 wpAny_Dict_empty ⟨.ref s.heap.objs.size,_,I.laid (a:=s.heap.objs.size) (o:=.dK []) (t':=s.toks) (λ_ _ q=>Mx _ q) (Mz _) (w8 s.heap I.big),rfl,h _ (I.hok.fresh (Mz _))⟩
theorem xc:PE X (.Dict [] [] pos) (DJ m):=λb s Y H Q I h=>
 wpAny_Dict_empty ⟨.ref s.heap.objs.size,_,I.laid (a:=s.heap.objs.size) (o:=.dT m 0 []) (t':=s.toks) (λ_ _ q=>Mx _ q) (Mz _) (w9 s.heap I.big),rfl,h _ (I.hok.fresh (Mz _))⟩
end
structure M1(X:Cx)(o:Expr)(m:Str)(apos:Pos)(e:Expr)(cpos:Pos):Prop where
 base:attributeBase o m X.env (eval o X.env)=eval o X.env
 few:((backTo cpos (PU [e] X.env)).all (λx=>!x.1)&&(backToKw cpos (keywordEach [] X.env)).all (λx=>x.1.isSome)
  && decide (([e]:List PK).length+([]:List Keyword).length+(if([]:List Keyword).isEmpty then 0 else 1)<30))=PD
 line:(apos.endLine==cpos.line)=PD
 trees:backTo cpos (PU [e] X.env)=[(PF,eval e X.env)]
structure M2(X:Cx)(o:Expr)(m:Str)(apos:Pos)(e f:Expr)(cpos:Pos):Prop where
 base:attributeBase o m X.env (eval o X.env)=eval o X.env
 few:((backTo cpos (PU [e,f] X.env)).all (λx=>!x.1)&&(backToKw cpos (keywordEach [] X.env)).all (λx=>x.1.isSome)
  && decide (([e,f]:List PK).length+([]:List Keyword).length+(if([]:List Keyword).isEmpty then 0 else 1)<30))=PD
 line:(apos.endLine==cpos.line)=PD
 trees:backTo cpos (PU [e,f] X.env)=[(PF,eval e X.env),(PF,eval f X.env)]
section
variable {prog:PR} {w:PX} {A:PY} {E:PH->PM->Prop} {s:PM} {d it:PL} {o:Obj} {es:Array DictEntry} {ep i:Nat}
theorem G4{Q:PH->PM->Prop}(hd:(d==sysModules)=PF)(c:s.heap.get? d=PB o)(e:o.cls=.type "dict")(a:o.data=.dict es ep)
  (hQ:Q (.ref s.heap.objs.size) { s with heap:=s.heap.push { cls:=.type "dict_keyiterator",data:=.fields #[.ref d,.int 0 0,.int es.size 0,.int ep 0] } }):PP (PQ prog w) A (pyIter (.ref d)) Q E s:=by
 let b:s.TypeIs (.ref d) "dict":=⟨o,c,e⟩;show wpAny_pyIter_slot b PySem.F.slot_dict_iter (Qb PySem.F.slot_dict_iter b PySem.F.entry_dict_iter ?_ (PySem.F.args_dict_iter_1 _));unfold Builtin.«dict.__iter__» Builtin.Dict.dictSlotNone;show PJ (PJ (wpAny_notOrdered_dict b ?_));change PP _ _ (pure (Value.ref d)) _ _ s;show PN ?_;change PP _ _ (Builtin.Dict.showsAll d >>= _) _ _ s;unfold Builtin.Dict.showsAll;rw[if_neg (by rw[hd];show M4)];show PJ (PN (PJ (wpAny_dictEntries c a (PJ (wpAny_dictEpoch c a ?_)))));show PJ (P6 (PN ⟨_,rfl,"dict_keyiterator",_,⟨_,ML _ rfl,rfl⟩,PySem.F.slot_dict_keyiterator_next.lookup,by simpa[Qe] using hQ⟩))
theorem B3{Q:Option PH->PM->Prop}(v:A.handled=PC)(k:s.heap.IsKeyIter it d i es.size ep)(h:s.heap.get? d=PB o)(j:o.data=.dict es ep)
  (yes:∀e g,es[i]?=PB e->g.IsKeyIter it d (i+1) es.size ep->Heap.SameBut it s.heap g->Q (PB e.key) { s with heap:=g })
  (no:∀g,es[i]?=PC->Heap.ExtBut it s.heap g->Q PC { s with heap:=g }):PP (PQ prog w) A (pyNext (.ref it)) Q E s:=by
 let c:=k.typeIs;rcases k with⟨x,p,u,n⟩;let r:=PySem.F.slot_dict_keyiterator_next;let l:Builtin.Dict_items.ownsTuple "dict_keyiterator" = PF:=by decide
 unfold pyNext;show PJ (wpAny_attempt (wpAny_callSpecial?_slot (name:=Str.ofString "__next__") c r (Qb r c PySem.F.entry_dict_keyiterator_next ?_ (PySem.F.args_dict_keyiterator_next_1 _))));show PJ (PN (PJ (PJ ?_)))
 first|show PJ (wpAny_typeNameOfWhole_keyiter c (PN ?_))|show PJ (wpAny_typeNameOf_keyiter c (PN ?_))
 show PJ (wpAny_fieldsOf p n ?_);simp only[l,Nn,if_false]
 change PP _ _ (if(Value.ref d==Value.none)=PD then _ else _) _ _ s
 rw[if_neg (show ¬((Value.ref d==Value.none)=PD) from M4)];show PJ (PN (PJ (wpAny_dictEntries h j ?_)));rw[if_neg (by simp)];show PJ (PN (PJ (wpAny_dictEpoch h j ?_)));rw[if_neg (by simp)];show PN ?_;let t:¬((i:Int)<0):=by lia
 cases e:es[i]? with
 |some q=>
  simp only[t,if_false,NA,e];show PJ ?_
  first|show PJ (wpAny_typeNameOfWhole_keyiter c (PN ?_))|show PJ (wpAny_typeNameOf_keyiter c (PN ?_))
  show PJ (wpAny_isOneOf_keyiter c ?_);change PP _ _ (setField (.ref it) 1 (Qe ((i:Int)+1)) >>= _) _ _ s;show PJ (wpAny_setField p n (by simp) ?_)
  let f:(s.heap.update it (Obj.mapFields (·.setIfInBounds 1 (Qe ((i:Int)+1))))).IsKeyIter it d (i+1) es.size ep:=
   ⟨_,Os _ p (Obj.isFreed_of_fields (Obj.data_mapFields n _)),(Obj.cls_mapFields ..).trans u,by rw[Obj.data_mapFields n];simp[Qe]⟩
  show PJ (P8 (PJ (wpAny_isOneOf_keyiter (s:={ s with heap:=s.heap.update it (Obj.mapFields (·.setIfInBounds 1 (Qe ((i:Int)+1)))) }) f.typeIs ?_)));change PP _ _ (pure q.key) _ _ _;show PN (PN ⟨_,rfl,PN (yes q _ e f (Heap.SameBut.update ..))⟩)
 |none=>
  simp only[t,if_false,NA,e];show PJ ?_
  first|show PJ (wpAny_typeNameOfWhole_keyiter c (PN ?_))|show PJ (wpAny_typeNameOf_keyiter c (PN ?_))
  change PP _ _ (setField (.ref it) 0 .none >>= _) _ _ s;show PJ (wpAny_setField p n (by simp) (PJ (m:=newExc (.type "StopIteration") []) ?_));simp only[newExc,newTuple]
  show PJ (P6 (PJ (m:=firstArgMember _ _) (wpAny_of_eq (a:=Value.none) (by first|rfl|(simp only[firstArgMember];rfl)) (P6 ?_ (by size_fits)))) (by size_fits))
  simp only[raiseNew];show PJ (wpAny_handled ?_);rw[show A.in1.handled=PC from v];show PJ (PN (wpAny_throw ?_));show PJ (wpAny_isInstance (T:="StopIteration") (b:=PD) ⟨_,ML _ rfl,rfl⟩ isSubtype_stop ?_);show PN (no _ e (((Heap.SameBut.update ..).extBut.push _).push _))
end
theorem Paired.get{α β:Type}{F:α->β->Prop}:∀{l:List α} {r:List β} {i:Nat} {y:β},Paired F l r->r[i]?=PB y->∃x,l[i]?=PB x/\F x y
 |_,_,i,_,.nil,h=>by simp at h
 |_,_,0,_,.cons q t,h=>by simp at h;subst h;show⟨_,rfl,q⟩
 |_,_,i+1,_,.cons q t,h=>by simpa using Paired.get t (by simpa using h)
noncomputable def f6(q:List (Str×PL)):List (Str×P7)->List (Str×PL)->List (Str×PL)
 |[],acc=>acc
 |(n,k)::r,acc=>f6 q r (if k=.free then(match q.lookup n with|some c=>(n,c)::acc|none=>acc) else acc)
theorem d8{a:List (Str×PL)}:∀{f:List (Str×P7)} {b:List (Str×PL)},(∀x c,b.lookup x=PB c->a.lookup x=PB c)->
  ∀x c,(f6 a f b).lookup x=PB c->a.lookup x=PB c
 |[],_,h=>h
 |(n,k)::r,b,h=>by
  unfold f6;show d8 λx c=>?_;split
  ·cases e:a.lookup n with
   |none=>show h x c
   |some d=>
    dsimp only;intro q;rw[M0] at q
    cases g:x==n with
    |true=>
     rw[g] at q;have:x=n:=by simpa using g
     subst this;cases q;show e
    |false=>
     rw[g] at q;show h x c q
  ·show h x c
theorem mf:∀{b:List (Str×P7)} {a:List (Str×PL)} {x:Str},(∃c,a.lookup x=PB c)->∃c,(f6 cells b a).lookup x=PB c
 |[],_,_,h=>h
 |(n,k)::r,a,x,h=>by
  unfold f6;show mf ?_;split
  ·cases e:cells.lookup n with
   |none=>show h
   |some d=>
    dsimp only;rw[M0]
    cases x==n with
    |true=>show⟨d,rfl⟩
    |false=>show h
  ·show h
theorem ku{a:List (Str×PL)}:∀{b:List (Str×P7)} {d:List (Str×PL)} {x:Str},(x,NameKind.free)∈b->(∃c,a.lookup x=PB c)->∃c,(f6 a b d).lookup x=PB c
 |(n,k)::r,d,x,h,f=>by
  unfold f6;rcases MD.mp h with e|h
  ·cases e;obtain⟨c,f⟩:=f;show mf ⟨c,?_⟩;rw[if_pos rfl,f];simp
  ·show ku h f
theorem gr{scope:P1}{env:Env}(h:∀y∈scope.names,y.2=.free->∃c,env.cells.lookup y.1=PB c):closureFor scope env=pure (f6 env.cells scope.names []):=by
 let j:∀(b:List (Str×P7)) (d:List (Str×PL)),(∀y∈b,y.2=.free->∃c,env.cells.lookup y.1=PB c)->
   (forIn b d λ(x:Str×P7) (r:List (Str×PL))=>(match x with|(name,kind)=>if(kind==.free)=PD then do let a <- cellOf env name;pure (ForInStep.yield ((name,a)::r)) else pure (ForInStep.yield r):Sem (ForInStep (List (Str×PL)))))=pure (f6 env.cells b d):=by
  intro b
  induction b with
  |nil=>intro d _;rfl
  |cons y r l=>
   intro d f;obtain⟨n,k⟩:=y;rw[List.forIn_cons];dsimp only;by_cases hk:k=.free
   ·obtain⟨c,o⟩:=f (n,k) MX hk;subst hk;let e:cellOf env n=pure c:=by unfold cellOf;rw[o]
    rw[e];simp only[beq_self_eq_true,if_true,pure_bind];rw[l _ λy i=>f y (MK _ i)]
    conv=>rhs;unfold f6
    rw[if_pos rfl];let g:env.cells.lookup n=PB c:=o;rw[g]
   ·let e:(k==NameKind.free)=PF:=by simpa using hk
    rw[e];simp only[Nn,if_false,pure_bind];rw[l _ λy i=>f y (MK _ i)]
    conv=>rhs;unfold f6
    rw[if_neg hk]
 unfold closureFor;show(congrArg (λm=>m >>= λr=>pure r) (j scope.names [] h)).trans (by simp)
theorem cz:∀(b:List (Str×P7)) (n:Nat) (a:List (Str×PL)),P3 n b a=P3 n b []++a
 |[],n,a=>rfl
 |(x,k)::r,n,a=>by
  unfold P3;split
  ·rw[cz r (n+1) ((x,n)::a),cz r (n+1) [(x,n)],M7];rfl
  ·show cz r n a
theorem xd{x:Str}{c:PL}:∀{b:List (Str×P7)} {n:Nat} {d:List (Str×PL)},(P3 n b d).lookup x=PB c->((x,NameKind.cell)∈b/\n<=c)\/d.lookup x=PB c
 |[],_,_,h=>.inr h
 |(y,k)::r,n,d,h=>by
  unfold P3 at h;split at h
  ·ext hk;let hk:k=.cell:=by simpa using hk
   subst hk;rcases xd h with⟨a,f⟩|a
   ·show .inl ⟨MK _ a,ON f⟩
   ·rw[M0] at a
    cases e:x==y with
    |true=>
     rw[e] at a;have:x=y:=by simpa using e
     subst this;cases a;show .inl ⟨MX,Mz _⟩
    |false=>rw[e] at a;show .inr a
  ·rcases xd h with⟨a,f⟩|a
   ·show .inl ⟨MK _ a,f⟩
   ·show .inr a
theorem qN:∀{a:List (Str×P7)} {n:Nat} {b:List (Str×PL)},(x,NameKind.cell)∉a->(P3 n a b).lookup x=b.lookup x
 |[],_,_,_=>rfl
 |(y,k)::r,n,b,h=>by
  unfold P3;let c:(x,NameKind.cell)∉r:=λz=>h (MK _ z);split
  ·ext hk;let hk:k=.cell:=by simpa using hk
   subst hk;rw[qN c,M0]
   have:(x==y)=PF:=by
    have:x≠y:=λz=>h (by rw[z];show MX);simpa using this
   rw[this]
  ·show qN c
theorem nc{x:Str}:∀{a:List (Str×P7)} {n:Nat} {b:List (Str×PL)},((x,NameKind.cell)∈a\/∃c,b.lookup x=PB c)->∃c,(P3 n a b).lookup x=PB c
 |[],_,_,h=>by
  rcases h with h|h
  ·simp at h
  ·show h
 |(y,k)::r,n,b,h=>by
  unfold P3;split
  ·ext hk;let hk:k=.cell:=by simpa using hk
   subst hk;show nc ?_;by_cases d:x=y
   ·subst d;show .inr ⟨n,by rw[M0];simp⟩
   ·let e:(x==y)=PF:=by simpa using d
    rcases h with h|h
    ·rcases MD.mp h with z|z
     ·show absurd (by cases z;rfl) d
     ·show .inl z
    ·show .inr (by rw[M0,e];show h)
  ·ext hk;show nc ?_;rcases h with h|h
   ·rcases MD.mp h with z|z
    ·show absurd (by cases z;rfl) hk
    ·show .inl z
   ·show .inr h
theorem qO{x:Str}{m:Nat}:∀{a:List (Str×P7)} {n:Nat} {b:List (Str×PL)},((x,NameKind.cell)∈a\/∀c,b.lookup x=PB c->m<=c)->m<=n->∀c,(P3 n a b).lookup x=PB c->m<=c
 |[],_,_,h,_,c,e=>by
  rcases h with h|h
  ·simp at h
  ·show h c e
 |(y,k)::r,n,b,h,hm,c,e=>by
  unfold P3 at e;split at e
  ·ext hk;let hk:k=.cell:=by simpa using hk
   subst hk;show qO ?_ (OO hm) c e;by_cases d:x=y
   ·subst d;show .inr λc e=>?_;rw[M0] at e;simp at e;show e▸hm
   ·let e2:(x==y)=PF:=by simpa using d
    rcases h with h|h
    ·rcases MD.mp h with z|z
     ·show absurd (by cases z;rfl) d
     ·show .inl z
    ·show .inr (by intro c e;rw[M0,e2] at e;show h c e)
  ·ext hk;show qO ?_ hm c e;rcases h with h|h
   ·rcases MD.mp h with z|z
    ·show absurd (by cases z;rfl) hk
    ·show .inl z
   ·show .inr h
theorem qP:∀{b:List (Str×P7)} {n:Nat} {a:List (Str×PL)},(∀x c,a.lookup x=PB c->c<n)->(∀x y c,a.lookup x=PB c->a.lookup y=PB c->x=y)->∀x y c,(P3 n b a).lookup x=PB c->(P3 n b a).lookup y=PB c->x=y
 |[],_,_,_,h=>h
 |(z,k)::r,n,a,hb,h=>by
  unfold P3;split
  ·show qP (λx c e=>?_) λx y c e1 e2=>?_
   ·rw[M0] at e
    cases d:x==z with
    |true=>rw[d] at e;cases e;show NH _
    |false=>rw[d] at e;show N3 (hb x c e)
   ·rw[M0] at e1 e2
    cases d:x==z with
    |true=>
     rw[d] at e1;cases e1
     cases f:y==z with
     |true=>rw[(by simpa using d:x=z),(by simpa using f:y=z)]
     |false=>rw[f] at e2;show absurd (hb y _ e2) (Ny _)
    |false=>
     rw[d] at e1
     cases f:y==z with
     |true=>rw[f] at e2;cases e2;show absurd (hb x _ e1) (Ny _)
     |false=>rw[f] at e2;show h x y c e1 e2
  ·show qP hb h
def DL(B:List (Str×PL))(q:List (Str×P7))(C:PL):List (Str×PL):=P3 (C+1) q (f6 B q [])
theorem xf{a:List (Str×PL)}{C:PL}{x:Str}(h:(DL a names C).lookup x=PB c):C+1<=c\/a.lookup x=PB c:=by
 rcases xd h with h|h
 ·show .inl h.2
 ·show .inr (d8 (λ_ _ z=>by cases z) x c h)
theorem gu{s:PM}{scope:P1}{Q:Env->PM->Prop}(e:Q (newEnv scope s.heap.objs.size globals (P3 (s.heap.objs.size+1) scope.names cl) qual PC .none (PB outer) builtinsNs) { s with heap:=pushCells (s.heap.push { cls:=.type "dict",data:=.dict #[] }) scope.names }) :
  PP M A (newFunctionEnv scope globals cl [] qual PC .none (PB outer)) Q E s:=by
 simp only[newFunctionEnv,Pe,if_true];show PJ (wpAny_alloc ?_)
 show PJ (wpAny_layCells _ (λd a b=>by cases c:a==NameKind.cell<;>simp[c]) _ _ _ _ ?_)
 rw[show({ s with heap:=s.heap.push { cls:=.type "dict",data:=.dict #[] } }:PM).heap.objs.size=s.heap.objs.size+1 from NW ..];rw[List.forIn_nil];show PJ (PN (PN e))
def ai(X:Cx)(N':List Str)(scope:P1)(C:PL)(s:PM)(H:Hp)(ex:List PL):Cx where
 prog:=X.prog
 w:=X.w
 K:=X.K
 mg:=X.mg
 base:=X.base
 A:=X.A
 N:=N'
 s₀:=s
 H₀:=H
 env:=compEnvC scope (DL X.env.cells scope.names C) C X.env
 outer:=X.stack
 stack:=X.stack
 ex:=ex
 fn:=λx=>scope.names.lookup x==PB .cell
 calm:=X.calm
 pn:=[]
 xe:=λ_ _=>False
theorem bU{α β:Type}[BEq α][LawfulBEq α]:∀{l:List (α×β)} {x:α} {y:β},l.lookup x=PB y->(x,y)∈l
 |(a,b)::r,x,y,h=>by
  rw[M0] at h
  cases e:x==a with
  |true=>
   rw[e] at h;have:x=a:=by simpa using e
   subst this;cases h;show MX
  |false=>
   rw[e] at h;show MK _ (bU h)
theorem kA{scope:P1}{x:Str}(h:(relabel scope env).names.lookup x=PB .cell\/(relabel scope env).names.lookup x=PB .free):(x,NameKind.cell)∈scope.names\/(x,NameKind.free)∈scope.names:=by
 let a:∀k,(k=NameKind.cell\/k=NameKind.free)->(x,k)∈(relabel scope env).names->(x,NameKind.cell)∈scope.names\/(x,NameKind.free)∈scope.names:=λk hk d=>by
  obtain⟨⟨n,c⟩,b,e⟩:=Nd.mp d;dsimp only at e;split at e
  ·ext q
   have:c=NameKind.free:=by
    simp only[Mw,beq_iff_eq] at q;show q.1.1
   subst this;cases e;show .inr b
  ·cases e;rcases hk with rfl|rfl
   ·show .inl b
   ·show .inr b
 rcases h with h|h
 ·show a _ (.inl rfl) (bU h)
 ·show a _ (.inr rfl) (bU h)
section
variable {X:Cx} {pins:List (PL×Obj)} {Y:St} {H:Hp} {s:PM}
theorem xg(I:Inv X pins Y H s){k:List PL}{scope:P1}(n:∀b∈k,iM X pins H b)(j:∀b∈k,b<s.heap.objs.size)(d:scope.kind=.function)(i:s.heap.objs.size<=C)(f:∀y∈scope.names,y.2=.free->X.env.kindOf y.1=PB .cell\/X.env.kindOf y.1=PB .free):(ai X N' scope C s H k).Ok where
 mod:=I.ok.mod
 kind:=d
 glob:=I.ok.glob
 blt:=I.ok.blt
 above:=i
 inj:=qP (λx c h=>by
   obtain⟨v,o,g,_⟩:=I.cell x c (d8 (λ_ _ z=>by cases z) x c h);show N3 (MG (MC g) i)) λx y c p l=>I.ok.inj x y c (d8 (λ_ _ z=>by cases z) x c p) (d8 (λ_ _ z=>by cases z) y c l)
 has:=λx q=>by
  rcases kA q with m|m
  ·show nc (.inl m)
  ·show nc (.inr (ku m (I.ok.has x (f _ m rfl))))
 cab:=λx c h e=>by
  let h:scope.names.lookup x=PB .cell:=by simpa[ai] using h
  show Nb i (ON (qO (.inl (bU h)) (Mz _) c e))
 hd:=I.ok.hd
 frames:=I.ok.frames
 stk:=.inl rfl
 exf:=λb a=>⟨MM (MG (j b a) i),λx c h=>by
  rcases xf h with h|h
  ·show NL (MG (N3 (MG (j b a) i)) h)
  ·show(n b a).2.2.2.2.1 x c h⟩
 bs:=I.bs
 bsz:=Nb I.ok.bsz I.sz
 noex:=λb o e a=>by
  obtain⟨_,_,_,h,_⟩:=n b a;rcases h with h|h
  ·show I.ok.noex b o e h
  ·show absurd (MG (MC e) (Nb I.ok.bsz h)) (Ny _)
 exfs:=λb a r=>by
  obtain⟨_,p,l,_⟩:=n b a;rcases MD.mp (I.stkSub b r) with e|e
  ·show p e
  ·show l e
 funs:=I.stack
 frf:=I.stkFree
noncomputable def cF(Y:St)(cap:List (Option Nat)):St:=cap.map λo=>o.bind λi=>(Y[i]?).join
structure e6(X:Cx)(N':List Str)(scope:Scope)(cap:List (Option Nat)):Prop where
 kind:scope.kind=.function
 cell:∀y∈scope.names,y.2=.cell->scope.names.lookup y.1=PB .cell
 names:∀y∈scope.names,y.2=.local->scope.names.lookup y.1=PB .local
 free:∀y∈scope.names,y.2=.free->X.env.kindOf y.1=PB .cell\/X.env.kindOf y.1=PB .free
 len:cap.length=N'.length
 cap:∀(j i:Nat) (x:Str),N'[j]?=PB x->cap[j]?=PB (PB i)->X.N[i]?=PB x/\scope.names.lookup x=PB .free/\(X.env.kindOf x=PB .cell\/X.env.kindOf x=PB .free)
theorem gZ{scope:P1}{env:Env}{x:Str}:∀{a:List (Str×P7)},a.lookup x=PB .free->
  (a.map λ(n,k)=>if(k==NameKind.free&&env.scope.kind==.function&&env.kindOf n==PB .cell) then(n,NameKind.cell) else(n,k)).lookup x=PB .cell\/
  (a.map λ(n,k)=>if(k==NameKind.free&&env.scope.kind==.function&&env.kindOf n==PB .cell) then(n,NameKind.cell) else(n,k)).lookup x=PB .free
 |(n,k)::r,h=>by
  let d:=@gZ scope env x r
  change Nz x ((if(k==NameKind.free&&env.scope.kind==.function&&env.kindOf n==PB .cell)=PD then(n,NameKind.cell) else(n,k))::_)=_\/Nz x ((if(k==NameKind.free&&env.scope.kind==.function&&env.kindOf n==PB .cell)=PD then(n,NameKind.cell) else(n,k))::_)=_
  cases b:x==n with
  |true=>
   simp only[M0,b] at h;cases h;by_cases c:(NameKind.free==NameKind.free&&env.scope.kind==.function&&env.kindOf n==PB .cell)=PD
   ·rw[if_pos c];left;simp only[M0,b]
   ·rw[if_neg c];right;simp only[M0,b]
  |false=>
   simp only[M0,b] at h;by_cases c:(k==NameKind.free&&env.scope.kind==.function&&env.kindOf n==PB .cell)=PD
   ·rw[if_pos c];simp only[M0,b];show d h
   ·rw[if_neg c];simp only[M0,b];show d h
theorem oU(I:Inv X pins Y H s){E:List PL}{scope:P1}{C D:PL}{A:PZ}{tk:Nat}(O:e6 X N' scope cap)(hf:∀b∈E,iM X pins H b)(T:∀b∈E,b<s.heap.objs.size)(L:s.heap.objs.size<=C)(hD:s.heap.objs.size<=D)(y:D<C)(R:∀x c,(P3 (C+1) scope.names []).lookup x=PB c->A.IsCell c PC)(hn:A.Ns C m)(f:∀b o,s.heap.get? b=PB o->A.get? b=PB o){o:HO}(M:ObjOk X.prog X.w (upd H D o) A D o) :
  Inv (ai X N' scope C s H E) [] (cF Y cap) (upd H D o) { s with heap:=A,toks:=tk }:=by
 let r:∀x c,(f6 X.env.cells scope.names []).lookup x=PB c->X.env.cells.lookup x=PB c:=d8 (λ_ _ z=>by cases z)
 let t:∀x,scope.names.lookup x=PB .free->(DL X.env.cells scope.names C).lookup x=(f6 X.env.cells scope.names []).lookup x:=λx h=>qN λz=>by
  have:=O.cell _ z rfl;rw[h] at this;cases this
 show⟨xg I hf T O.kind L O.free,rfl,I.bare,Un.laid f hD (I.hok.fresh hD),⟨m,hn,λj x v h1 h2 h3=>?_⟩,λx c e=>?_,?_,λx c e=>?_,λp hp=>absurd hp (by simp[ai]),I.hok.laid f hD M,?_⟩
 ·let a:(cF Y cap)[j]?=PB (PB v):=h2;unfold cF at a;rw[MA] at a
  cases S:cap[j]? with
  |none=>rw[S] at a;cases a
  |some o=>
   rw[S] at a
   cases o with
   |none=>cases a
   |some i=>
    let F:(Y[i]?).join=PB v:=by simpa using a
    let Q:Y[i]?=PB (PB v):=by
     cases q:Y[i]? with
     |none=>rw[q] at F;cases F
     |some z=>rw[q] at F;have:z=PB v:=F;rw[this]
    obtain⟨Z,N,U⟩:=O.cap j i x h1 S;obtain⟨mo,ha,hl⟩:=I.loc;let P:Gs X.env.scope x:=U.elim (λz=>.inr (.inl z)) λz=>.inr (.inr z);obtain⟨u,ru,l⟩:=hl i x v Z Q P;show⟨u,ru,?_⟩;rcases l with⟨k,_⟩|⟨_,c,V,ic⟩
    ·rcases U with z|z
     ·rw[z] at k;cases k
     ·rw[z] at k;cases k
    ·obtain⟨W,n⟩:=ku (bU N) ⟨c,V⟩;let e2:=r x W n;rw[V] at e2;cases e2;obtain⟨K,d,g⟩:=ic;show .inr ⟨gZ (scope:=scope) N,c,(t x N).trans n,K,f _ _ d,g⟩
 ·let e:(DL X.env.cells scope.names C).lookup x=PB c:=e;unfold DL at e;rw[cz,List.lookup_append] at e
  cases q:(P3 (C+1) scope.names []).lookup x with
  |some W=>
   rw[q] at e;cases e;show⟨PC,R x _ q⟩
  |none=>
   rw[q] at e;obtain⟨v,K,d,g⟩:=I.cell x c (r x c e);show⟨v,K,f _ _ d,g⟩
 ·rw[show(ai X N' scope C s H E).env.locals=C from rfl,ag (Ne.symm (MM y))];show I.hok.fresh L
 ·rcases xf e with B|B
  ·rw[ag (NL (Og y B))];show I.hok.fresh (Nb L (ON B))
  ·obtain⟨v,K,d,g⟩:=I.cell x c B;rw[ag (MM (MG (MC d) hD))];show I.freeC x c B
 ·change(cF Y cap).length=N'.length;unfold cF;rw[My,O.len]
theorem g6(I:Inv X pins Y H s){j:List PL}{s':PM}(w:∀b∈j,iM X pins H b)(J:Inv (ai X N' scope C s H j) [] Y' H' s')(a:Heap.SameBut C s'.heap h') :
  Inv X pins Y H' { s' with heap:=h' }:=by
 let r:s.heap.objs.size<=C:=J.ok.above;let d:∀b o,s.heap.get? b=PB o->b≠C:=λb o e=>MM (MG (MC e) r);let f:Un (we X.stack) j H H' s.heap s'.heap:=J.base;show I.call' (J.os) ⟨λb o e n h g=>?_,λb o e n h g=>?_,f.free,λb o e g=>?_,f.tups,f.frzs,f.tbls⟩ (λb o e=>?_) J.bare λb l=>?_
 ·show(a.2 b (d b o e)).trans (f.keep b o e n h g)
 ·obtain⟨x,q⟩:=f.slot b o e n h g;show⟨x,(a.2 b (d b o e)).trans q⟩
 ·obtain⟨t,q⟩:=f.there b o e g;show⟨t,(a.2 b (d b o e)).trans q⟩
 ·let k:H' C=PC:=J.free;show(J.hok b o e).stay (λc v i q=>(a.2 c ?_).trans q) (λ_ q=>q) λ_ _ q=>q
  rintro rfl
  rcases i with rfl|i
  ·rw[k] at e;cases e
  ·rw[k] at i;cases i
 ·obtain⟨y,h,g,m,p,u⟩:=w b l;show⟨m,h,p,u⟩
theorem ng{R:Result->PM->Prop}{s:PM}(I:Nat->PM->Prop)(d:∀n s,I n s->PP (PQ prog w) A (pyNext it) (λr i=>match r with
   |none=>R (.ok .next) i
   |some v=>PP (PQ prog w) A (letOwnedTupleGo target it v) (λ_ b=>PP (PQ prog w) A (assign target env v) (λ_ k=>
     PP (PQ prog w) A (forIn ifs PD λc r=>if r=PD then do let e <- isTrue c env (eval c env);pure (ForInStep.yield e) else pure (ForInStep.yield r)) (λe g=>
      if e=PD then PP (PQ prog w) A (eval elt env) (λx p=>
       PP (PQ prog w) A (call (.builtin "list.append") [acc,x]) (λ_ l=>∃m,m<n/\I m l) (λ_ _=>False) p) (λ_ _=>False) g
      else ∃m,m<n/\I m g) (λ_ _=>False) k) (λ_ _=>False) b) (λ_ _=>False) i) (λ_ _=>False) s)(n:Nat)(h:I n s) :
  codeAny (PQ prog w) A (.compLoop (.ListComp elt [⟨target,iter,ifs,0⟩] scope pos) 0 it acc env) R s:=by
 show codeAny_loop rfl I (λn s t=>?_) n h;show wpAny_noted ?_;rw[compTurn_list];show PJ (wpAny_standAt (PJ (wpAny_mono (d n s t) (λr i o=>?_) λ_ _ a=>a.elim)))
 cases r with
 |none=>show PN o
 |some v=>
  show PJ (wpAny_mono o (λ_ b f=>?_) λ_ _ a=>a.elim);show PJ (wpAny_mono f (λ_ k y=>PJ (wpAny_mono y (λe g j=>?_) λ_ _ a=>a.elim)) λ_ _ a=>a.elim)
  cases e with
  |false=>show PN ⟨rfl,j⟩
  |true=>
   show PJ (PJ (wpAny_mono j (λx p u=>PJ (wpAny_mono u (λ_ l q=>PN (PN ⟨rfl,q⟩)) λ_ _ a=>a.elim)) λ_ _ a=>a.elim))
end
section
variable {X:Cx} {pins:List (PL×Obj)} {Y:List (Option V)} {H:Hp} {s:PM} {h':PZ}
theorem Inv.junk(I:Inv X pins Y H s)(f:Heap.SameBut C s.heap h')(L:X.s₀.heap.objs.size<=C)(D:X.env.locals≠C)(w:∀x c,X.env.cells.lookup x=PB c->c≠C)(M:∀p∈X.pn++pins,p.1≠C)(u:H C=PC):Inv X pins Y H { s with heap:=h' }:=by
 let t:∀b o,X.s₀.heap.get? b=PB o->b≠C:=λb o e=>MM (MG (MC e) L);obtain⟨m,E,K⟩:=id I.loc;show⟨I.ok,I.os,I.bare,⟨λb o e n l h=>?_,λb o e n l h=>?_,I.base.free,λb o e h=>?_,I.base.tups,I.base.frzs,I.base.tbls⟩,⟨m,E.sameBut f D,λj y F e1 e2 e3=>?_⟩,λy c e=>?_,I.free,I.freeC,λp i=>?_,λb B e=>?_,I.len⟩
 ·show(f.2 b (t b o e)).trans (I.base.keep b o e n l h)
 ·obtain⟨O,e1⟩:=I.base.slot b o e n l h;show⟨O,(f.2 b (t b o e)).trans e1⟩
 ·obtain⟨A,e1⟩:=I.base.there b o e h;show⟨A,(f.2 b (t b o e)).trans e1⟩
 ·obtain⟨N,P,q⟩:=K j y F e1 e2 e3;show⟨N,P,?_⟩;rcases q with⟨k,e⟩|⟨k,c,e,z⟩
  ·show .inl ⟨k,e⟩
  ·show .inr ⟨k,c,e,?_⟩;obtain⟨o,g,d⟩:=z;show⟨o,(f.2 c (w y c e)).trans g,d⟩
 ·obtain⟨v,o,g,d⟩:=I.cell y c e;show⟨v,o,(f.2 c (w y c e)).trans g,d⟩
 ·obtain⟨g,r⟩:=I.pin p i;show⟨(f.2 _ (M p i)).trans g,r⟩
 ·show(I.hok b B e).stay (λc Q a q=>(f.2 c ?_).trans q) (λ_ q=>q) λ_ _ q=>q
  rintro rfl
  rcases a with rfl|a
  ·rw[u] at e;cases e
  ·rw[u] at a;cases a
def J6(K:Mu)(n:Nat)(t:wy):TG:=λv Y H Q=>∃a xs,v=.ref a/\SqL K H a xs/\xs.length=n/\t xs Y H Q
theorem DM(q:X.calm=PD)(h:Dh X es t)(p:(P5 es X.env).length=n)(f:(P5 es X.env).findIdx? (·.1)=PC):PG X (.Tuple es k pos) (J6 X.K n t):=by
 intro c s Y H v u Q I r d;obtain⟨a,m,e1,y,w,d⟩:=d;subst e1;cases r;obtain⟨g,i,z,A⟩:=I.list y;rw[assign_Tuple];show PJ (wpAny_standAt ?_);unfold unpack;rw[f,show(P5 es X.env).length=g.toArray.size by rw[p,<- w,i.length,MB]];show PJ (P8 (PySem.W.kun_itemsOf (I.ok.hd q) z.isList λl j=>?_));let x:Inv X c Y H { s with heap:=l }:=I.kept λb o e=>j b o (MM (MC e)) e;show h c _ Y H m _ Q x (by simpa using i) d
end
end L2
open L2
namespace G
open PyProof.Rows
inductive D where
 |non|bl (b:Bool)|int (i:Int)|str (x:Str)|lst (xs:List D)|tup (xs:List D)|scr (ns:List Int)|dic (ks:List aN) (vs:List D)
def G5(K:Mu)(a:PL)(xs:List V):Prop:=
 ∃(o:Obj) (q:Array PH) (n:Nat),K.lookup a=PB o/\o.cls=.type "list"/\o.dict=PC/\o.data=.seq q n/\q.size<=sizeLine/\Vals xs q.toList
mutual
def Rp(K:Mu)(H:Hp)(S:List PL):D->V->Prop
 |.non,v=>v=.non
 |.bl b,v=>v=.bl b
 |.int i,v=>v=.int i
 |.str x,v=>v=.str x
 |.lst ds,v=>∃a xs,v=.ref a/\a∉S/\H a=PB (.lst xs)/\RpL K H S ds xs
 |.tup ds,v=>∃a xs,v=.ref a/\a∉S/\H a=PB (.tup xs)/\RpL K H S ds xs
 |.scr ns,v=>∃a,v=.ref a/\((a∉S/\Rd H a (.lst (ns.map V.int)))\/G5 K a (ns.map V.int))
 |.dic ks vs,v=>∃a kvs,v=.ref a/\a∉S/\H a=PB (.dK kvs)/\kvs.map (·.1)=ks/\RpL K H S vs (kvs.map (·.2))
def RpL(K:Mu)(H:Hp)(S:List PL):List D->List V->Prop
 |[],xs=>xs=[]
 |d::ds,xs=>∃y ys,xs=y::ys/\Rp K H S d y/\RpL K H S ds ys
end
inductive Kd where
 |sh|fr|bo
 deriving DecidableEq
def VR(K:Mu)(H0 H:Hp)(S:List PL):Kd->D->V->Prop
 |.sh,d,v=>Rp K H S d v
 |.fr,.lst ds,v=>∃a xs,v=.ref a/\H0 a=PC/\H a=PB (.lst xs)/\RpL K H (a::S) ds xs
 |.bo,.lst ds,v=>∃a xs,v=.ref a/\H a=PB (.lst xs)/\RpL K H S ds xs
 |_,_,_=>False
def Jm(K:Mu)(a:PL):It:=
 ⟨λi H=>∃xs x,SqL K H a xs/\xs[i]?=PB x,λi H x H'=>∃p v,H p=PC/\H'=upd H p (.tup [.int i,v])/\x=.ref p/\∀xs,SqL K H a xs->xs[i]?=PB v,λi H=>∃xs,SqL K H a xs/\xs.length<=i⟩
theorem vh{P:PR}{w:PX}{K:Mu}{es:List PK}{kk:Nat}{tp:Pos}(a e it:PL)(Q:e≠it):qu P w K (.Tuple es kk tp) (Jm K a) [e,it] e (λi h=>(∃j,IsEnum h e it ((i:Nat):Int) j)/\h.IsListIter it a i) where
 mem:=by simp
 obj:=λi h y b g=>by
  obtain⟨⟨j,N⟩,o,B,h3,h4⟩:=y;rcases MD.mp g with rfl|g
  ·show⟨_,N,λv z=>by
    let z':Data.fields _=Data.cell v:=z;cases z'⟩
  ·have:b=it:=by simpa using g
   subst this;show⟨o,B,λv z=>by rw[h4] at z;cases z⟩
 keep:=λi h h' y k=>by
  obtain⟨⟨j,N⟩,B⟩:=y;show⟨⟨j,k e (by simp) _ N⟩,B.at λo q=>k it (by simp) o q⟩
 item:=by
  intro X hP hw hK hc i C s Y H E I L y hg;subst hP hw hK;obtain⟨⟨j,V⟩,t⟩:=y;obtain⟨xs,x,U,hx⟩:=hg;obtain⟨hj,W,p,hz⟩:=I.list U;obtain⟨u,hu,ru⟩:=W.get hx;obtain⟨f0,T,f2,Z,f4,f5⟩:=L e (by simp);obtain⟨g0,g1,g2,g3,g4,g5⟩:=L it (by simp);let O:=MC V;show wpAny_pyNext_enum_item V t p.isList (by simpa using hu) Q λN ho M ht hv hi=>?_;show⟨_,rfl,wpAny_letOwnedTupleGo_enum ho λB hr hp=>?_⟩;let r:Heap.SameBut e N B:=hp;let d:∀b o,b≠e->b≠it->s.heap.get? b=PB o->B.get? b=PB o:=λb o n1 n2 q=>(r.2 b n1).trans (hi b o n1 n2 q);let F:=I.hok.fresh (Mz s.heap.objs.size);let S:B.get? s.heap.objs.size=PB { cls:=.type "tuple",data:=.seq #[.int i s.toks,u] }:=(r.2 _ (NL O)).trans ht
  let I1:Inv X C Y (upd H s.heap.objs.size (.tup [.int i,x])) { s with heap:=B,toks:=s.toks+1 }:=by
   let A:∀b o,H b=PB o->b≠e/\b≠it:=λb o q=>⟨(λz=>by rw[z,f0] at q;cases q),(λz=>by rw[z,g0] at q;cases q)⟩
   let R:HOk X.prog X.w (upd H s.heap.objs.size (.tup [.int i,x])) B:=λb o q=>by
    by_cases g:b=s.heap.objs.size
    ·subst g;rw[ak] at q;cases q;show⟨(by change 2<=sizeLine;decide),[.int i s.toks,u],.cons ⟨_,rfl⟩ (.cons ru .nil),_,S,rfl,_,rfl⟩
    ·rw[ag g] at q;show(I.hok b o q).stay (λc v l D=>d c v ?_ ?_ D) (λc D=>by rw[ag (aE D F)];show D) λc ys D=>by rw[ag (aE D F)];show D
     ·rcases l with rfl|l
      ·show(A _ _ q).1
      ·show(A _ _ l).1
     ·rcases l with rfl|l
      ·show(A _ _ q).2
      ·show(A _ _ l).2
   show I.step (ch:=[e,it]) (λb g=>?_) (λb o _ _ f q _=>d b o (λz=>f (by simp[z])) (λz=>f (by simp[z])) q)
    (λb o _ _ f q _=>⟨o.slots,d b o (λz=>f (by simp[z])) (λz=>f (by simp[z])) q⟩) (λb o f q n=>by rw[ag (MM (MC q))];show n)
    (λb o f q=>⟨o,d b o (λz=>f (by simp[z])) (λz=>f (by simp[z])) q⟩) (λb ys q=>by rw[ag (aE q F)];show q) (λb o z q=>by rw[ag (aE q F)];show q)
    (λb ps q=>⟨#[],by rw[ag (aE q F),q];simp⟩) (λm hm=>?_) R I.bare
   ·rcases MD.mp g with rfl|g
    ·show⟨Z,T,f4,f5⟩
    ·have:b=it:=by simpa using g
     subst this;show⟨g3,g1,g4,g5⟩
   ·obtain⟨o,hn,ep,ha,r'⟩:=hm;show⟨o,hn,ep,d _ o (Ne.symm T) (Ne.symm g1) ha,r'⟩
  show⟨.ref s.heap.objs.size,_,I1,rfl,⟨s.heap.objs.size,x,F,rfl,rfl,λys hy=>by rw[I.list_inj hy U];show hx⟩,⟨⟨u,by
    have:(((i+1:Nat):Int))=(i:Int)+1:=by lia
    rw[this];show hr⟩,M.extBut r.extBut (Ne.symm Q)⟩,λb g=>?_⟩
  let hh:=(L b g).1
  let hs:b<s.heap.objs.size:=by
   rcases MD.mp g with rfl|g
   ·show O
   ·have:b=it:=by simpa using g
    subst this;obtain⟨o,q,_⟩:=t;show MC q
  rw[ag (MM hs)];show hh
 done:=by
  intro X hP hw hK hc i C s Y H E I L y hg;subst hP hw hK;obtain⟨⟨j,V⟩,t⟩:=y;obtain⟨xs,U,hx⟩:=hg;obtain⟨hj,W,p,hz⟩:=I.list U;obtain⟨f0,T,f2,Z,f4,f5⟩:=L it (by simp);let hl:=W.length;show wpAny_pyNext_enum_end (I.ok.hd hc) V t p.isList (by simp;lia) λh' eb=>⟨rfl,I.turned (λb o g q=>eb b o g q) f0 T Z f4 f5⟩
 self:=λ_ _ _ _ _ y h=>let ⟨_,q⟩:=y.1;wpAny_pyIter_enum q h
section
variable {X:Cx}
def G6(K:Mu)(ta:TA):TI:=λY H R=>ta Y H λvs H1=>∃a,vs=[.ref a]/\(∃xs,SqL K H1 a xs)/\R (Jm K a) H1
theorem Ah{a:PK}(m:Gl X "enumerate")(B:X.mg "enumerate" = PC)(w:PA X [a] ta)(A:PU [a] X.env=[(PF,eval a X.env)]) :
  PI X (.Tuple es kk tp) (.Call (.Name "enumerate" p) [a] [] pos) (G6 X.K ta):=by
 intro c s Y H R I h;show Call_ (dP I m B boot_enumerate (PyProof.Rows.callWith_type1 (aY (w pos c s Y H _ I h) λM s1 ⟨F,k,f,x,o⟩=>?_) A rfl));obtain⟨l,e,⟨L,C⟩,q⟩:=o;subst e;obtain⟨u,rfl,r⟩:=ki x;cases r;obtain⟨n,D,z,E⟩:=f.list C;show call_enumerate_list z.isList λy j i t hk=>?_;show wpAny_pyIter_enum j ?_;let v:Inv X c Y k { s1 with heap:=y }:=f.kept hk;show⟨s1.heap.objs.size+1,[s1.heap.objs.size+1,s1.heap.objs.size],_,_,k,rfl,v,vh l _ _ (NL (NH _)),⟨⟨_,j⟩,i⟩,λb g=>?_,q⟩
 let d:s1.heap.objs.size<=b:=by
  rcases MD.mp g with rfl|g
  ·show NK _
  ·have:b=s1.heap.objs.size:=by simpa using g
   rw[this];show Mz _
 show f.fpOk d (f.hok.fresh d)
end
def J7(K:Mu)(a b:PL):It:=
 ⟨λi H=>∃xs ys x y,SqL K H a xs/\SqL K H b ys/\xs[i]?=PB x/\ys[i]?=PB y,λi H x H'=>∃p v u,H p=PC/\H'=upd H p (.tup [v,u])/\x=.ref p/\(∀xs,SqL K H a xs->xs[i]?=PB v)/\∀ys,SqL K H b ys->ys[i]?=PB u,
  λi H=>∃xs ys,SqL K H a xs/\SqL K H b ys/\(xs.length<=i\/ys.length<=i)⟩
theorem mh{h:PZ}{z TI TO n g l a b:PL}{us:Array PH}{x y:PH}{i j:Nat}(u:h.IsList l us)(s:IsZip h z TI TO .none)(k:IsPair h TI (.ref n) (.ref g))(m:IsPair h TO x y)(h1:h.IsListIter n a i)(h2:h.IsListIter g b j):∀c∈[z,TI,TO,n,g],l≠c:=λc p e=>by
 subst e;obtain⟨o,q,d,_⟩:=u;simp only[MD,MS,or_false] at p;rcases p with rfl|rfl|rfl|rfl|rfl
 ·rw[s] at q;cases q;show absurd (show Value.type "zip" = .type "list" from d) (by decide)
 ·rw[k] at q;cases q;show absurd (show Value.type "tuple" = .type "list" from d) (by decide)
 ·rw[m] at q;cases q;show absurd (show Value.type "tuple" = .type "list" from d) (by decide)
 ·obtain⟨t,r,f,_⟩:=h1;rw[r] at q;cases q;rw[f] at d;show absurd d (by decide)
 ·obtain⟨t,r,f,_⟩:=h2;rw[r] at q;cases q;rw[f] at d;show absurd d (by decide)
theorem B4{h:PZ}{z TI TO g e a b:PL}{us vs:Array PH}{x y:PH}{i j:Nat}(n:[z,TI,TO,g,e].Nodup)(v:h.IsList a us)(l:h.IsList b vs)(m:IsZip h z TI TO .none)(c:IsPair h TI (.ref g) (.ref e))(d:IsPair h TO x y)(h1:h.IsListIter g a i)(h2:h.IsListIter e b j):ZipApart z TI TO g e a b:=by
 let f:=mh v m c d h1 h2;let k:=mh l m c d h1 h2;simp only[MW,MD,MS,or_false,not_or,OD,and_true,not_false_iff] at n;obtain⟨⟨o,s,u,w⟩,⟨b1,b2,t⟩,⟨q,r⟩,p⟩:=n;show⟨Ne.symm o,Ne.symm s,Ne.symm u,Ne.symm w,b1,b2,t,q,r,p,f _ (by simp),f _ (by simp),f _ (by simp),f _ (by simp),k _ (by simp),k _ (by simp),k _ (by simp),k _ (by simp)⟩
theorem xh{P:PR}{w:PX}{K:Mu}{es:List PK}{kk:Nat}{tp:Pos}(a b z TI TO M L:PL)(nd:[z,TI,TO,M,L].Nodup):qu P w K (.Tuple es kk tp) (J7 K a b) [z,TI,TO,M,L] z (λi h=>IsZip h z TI TO .none/\IsPair h TI (.ref M) (.ref L)/\(∃x y,IsPair h TO x y)/\h.IsListIter M a i/\h.IsListIter L b i) where
 mem:=by simp
 obj:=λi h O c g=>by
  obtain⟨h1,R,⟨x,y,h3⟩,⟨o4,h4,h5,h6⟩,o7,h7,h8,h9⟩:=O;simp only[MD,MS,or_false] at g;rcases g with rfl|rfl|rfl|rfl|rfl
  ·show⟨_,h1,λv z=>by
    let z':Data.fields _=Data.cell v:=z;cases z'⟩
  ·show⟨_,R,λv z=>by
    let z':Data.seq _ _=Data.cell v:=z;cases z'⟩
  ·show⟨_,h3,λv z=>by
    let z':Data.seq _ _=Data.cell v:=z;cases z'⟩
  ·show⟨o4,h4,λv z=>by rw[h6] at z;cases z⟩
  ·show⟨o7,h7,λv z=>by rw[h9] at z;cases z⟩
 keep:=λi h h' O k=>by
  obtain⟨h1,R,⟨x,y,h3⟩,h4,h5⟩:=O;show⟨k z (by simp) _ h1,k TI (by simp) _ R,⟨x,y,k TO (by simp) _ h3⟩,h4.at λo q=>k M (by simp) o q,h5.at λo q=>k L (by simp) o q⟩
 item:=by
  intro X hP hw hK g i T s Y H E I V O hg;subst hP hw hK;obtain⟨S,r,⟨x0,y0,B⟩,A,F⟩:=O;obtain⟨xs,ys,x,y,hq,Q,hx,hy⟩:=hg;obtain⟨ga,rv,p,gb⟩:=I.list hq;obtain⟨hh,Z,p2,ha⟩:=I.list Q;obtain⟨u,hu,ru⟩:=rv.get hx;obtain⟨u2,hv,hs⟩:=Z.get hy;let un:∀c∈[z,TI,TO,M,L],H c=PC:=λc g=>(V c g).1;let D:=B4 nd p.isList p2.isList S r B A F
  let ho:∀c∈[z,TI,TO,M,L],c<s.heap.objs.size:=λc g=>by
   simp only[MD,MS,or_false] at g;rcases g with rfl|rfl|rfl|rfl|rfl
   ·show MC S
   ·show MC r
   ·show MC B
   ·obtain⟨o,q,_⟩:=A;show MC q
   ·obtain⟨o,q,_⟩:=F;show MC q
  show wpAny_pyNext_zip_item D S r B A F p.isList p2.isList (by simpa using hu) (by simpa using hv) λh1 h0 hn hj hi ht gd he=>?_;show⟨_,rfl,wpAny_letOwnedTupleGo_zip h0 λR hr gc=>?_⟩;let l:Heap.SameBut z h1 R:=gc
  let f:∀c o,c∉[z,TI,TO,M,L]->s.heap.get? c=PB o->R.get? c=PB o:=λc o n q=>
   (l.2 c (λe=>n (by simp[e]))).trans (he c o (λe=>n (by simp[e])) (λe=>n (by simp[e])) (λe=>n (by simp[e])) (λe=>n (by simp[e])) q)
  let fr:=I.hok.fresh (Mz s.heap.objs.size);let hp:R.get? s.heap.objs.size=PB { cls:=.type "tuple",data:=.seq #[u,u2] }:=(l.2 _ (NL (ho z (by simp)))).trans ht
  let I1:Inv X T Y (upd H s.heap.objs.size (.tup [x,y])) { s with heap:=R }:=by
   let N:∀c o,H c=PB o->c∉[z,TI,TO,M,L]:=λc o q g=>by rw[un c g] at q;cases q
   let hl:HOk X.prog X.w (upd H s.heap.objs.size (.tup [x,y])) R:=λc o q=>by
    by_cases hb:c=s.heap.objs.size
    ·subst hb;rw[ak] at q;cases q;show⟨(by change 2<=sizeLine;decide),[u,u2],.cons ru (.cons hs .nil),_,hp,rfl,_,rfl⟩
    ·rw[ag hb] at q;show(I.hok c o q).stay (λd v t C=>f d v ?_ C) (λd C=>by rw[ag (aE C fr)];show C) λd ys C=>by rw[ag (aE C fr)];show C
     rcases t with rfl|t
     ·show N _ _ q
     ·show N _ _ t
   show I.step (λc g=>?_) (λc o _ _ j q _=>f c o j q)
    (λc o _ _ j q _=>⟨o.slots,f c o j q⟩) (λc o j q n=>by rw[ag (MM (MC q))];show n)
    (λc o j q=>⟨o,f c o j q⟩) (λc ys q=>by rw[ag (aE q fr)];show q) (λc o z q=>by rw[ag (aE q fr)];show q)
    (λc ps q=>⟨#[],by rw[ag (aE q fr),q];simp⟩) (λm hm=>?_) hl I.bare
   ·obtain⟨f0,f1,f2,f3,f4,f5⟩:=V c g;show⟨f3,f1,f4,f5⟩
   ·obtain⟨o,W,ep,U,r'⟩:=hm;show⟨o,W,ep,f _ o (λg=>(V _ g).2.1 rfl) U,r'⟩
  show⟨.ref s.heap.objs.size,_,I1,rfl,⟨s.heap.objs.size,x,y,fr,rfl,rfl,λzs hy=>by rw[I.list_inj hy hq];show hx,λzs S=>by rw[I.list_inj S Q];show hy⟩,⟨hr,?_,⟨u,u2,(l.2 TO D.TOz).trans hn⟩,hj.extBut l.extBut D.i1z,hi.extBut l.extBut D.i2z⟩,λc g=>?_⟩
  ·show(l.2 TI D.TIz).trans (he TI _ D.TIz D.TITO D.TIi1 D.TIi2 r)
  ·rw[ag (MM (ho c g))];show un c g
 done:=by
  intro X hP hw hK g i T s Y H E I V O hg;subst hP hw hK;obtain⟨S,r,⟨x0,y0,B⟩,A,F⟩:=O;obtain⟨xs,ys,hq,Q,hx⟩:=hg;obtain⟨ga,rv,p,gb⟩:=I.list hq;obtain⟨hh,Z,p2,ha⟩:=I.list Q;let D:=B4 nd p.isList p2.isList S r B A F;let l1:=rv.length;let l2:=Z.length;show wpAny_pyNext_zip_end (I.ok.hd g) D S r B A F p.isList p2.isList (hx.imp (λh=>by simp;lia) λh=>by simp;lia) λh' kk=>⟨rfl,?_⟩;let un:∀c∈[z,TI,TO,M,L],H c=PC:=λc g=>(V c g).1
  let f:∀c o,c∉[z,TI,TO,M,L]->s.heap.get? c=PB o->h'.get? c=PB o:=λc o n q=>
   kk c o (λe=>n (by simp[e])) (λe=>n (by simp[e])) (λe=>n (by simp[e])) (λe=>n (by simp[e])) q
  let N:∀c o,H c=PB o->c∉[z,TI,TO,M,L]:=λc o q g=>by rw[un c g] at q;cases q
  show I.step (λc g=>?_) (λc o _ _ j q _=>f c o j q)
   (λc o _ _ j q _=>⟨o.slots,f c o j q⟩) (λ_ _ _ _ n=>n)
   (λc o j q=>⟨o,f c o j q⟩) (λ_ _ q=>q) (λ_ _ _ q=>q)
   (λc ps q=>⟨#[],by rw[q];simp⟩) (λm hm=>?_) (λc o q=>?_) I.bare
  ·obtain⟨f0,f1,f2,f3,f4,f5⟩:=V c g;show⟨f3,f1,f4,f5⟩
  ·obtain⟨o,W,ep,U,r'⟩:=hm;show⟨o,W,ep,f _ o (λg=>(V _ g).2.1 rfl) U,r'⟩
  ·show(I.hok c o q).stay (λd v t C=>f d v ?_ C) (λd C=>C) λd ys C=>C;rcases t with rfl|t
   ·show N _ _ q
   ·show N _ _ t
 self:=λ_ _ _ _ _ O h=>wpAny_pyIter_zip O.1 h
section
variable {X:Cx}
def J8(K:Mu)(ta:TA):TI:=λY H R=>ta Y H λvs H1=>∃a b,vs=[.ref a,.ref b]/\(∃xs,SqL K H1 a xs)/\(∃ys,SqL K H1 b ys)/\R (J7 K a b) H1
theorem DN{a b:PK}(x:Gl X "zip")(P:X.mg "zip" = PC)(F:PA X [a,b] ta)(O:PU [a,b] X.env=[(PF,eval a X.env),(PF,eval b X.env)])(hs2:PU [b] X.env=[(PF,eval b X.env)]) :
  PI X (.Tuple es kk tp) (.Call (.Name "zip" p) [a,b] [] pos) (J8 X.K ta):=by
 intro d s Y H R I h;show Call_ (dP I x P boot_zip (PyProof.Rows.callWith_type1 (aY (F pos d s Y H _ I h) λus s1 ⟨V,w,g,f,A⟩=>?_) (by rw[O,hs2]) (by rw[hs2];rfl)));obtain⟨l,y,e,⟨W,S⟩,⟨Z,n⟩,q⟩:=A;subst e
 cases f with
 |cons B f=>cases f with
  |cons D f=>
   cases f;cases B;cases D;obtain⟨z,T,N,U⟩:=g.list S;obtain⟨v,M,r,Q⟩:=g.list n;show call_zip_2 N.isList r.isList λL u o j k m C hk=>?_;show wpAny_pyIter_zip u ?_;let E:Inv X d Y w { s1 with heap:=L }:=g.kept hk
   show⟨s1.heap.objs.size+4,[s1.heap.objs.size+4,s1.heap.objs.size+2,s1.heap.objs.size+3,s1.heap.objs.size,s1.heap.objs.size+1],_,_,w,rfl,E,xh l y _ _ _ _ _ (by simp<;>lia),⟨u,o,⟨_,_,j⟩,k,m⟩,λc t=>?_,q⟩
   let i:s1.heap.objs.size<=c:=by
    simp only[MD,MS,or_false] at t;rcases t with rfl|rfl|rfl|rfl|rfl
    ·show NY _ _
    ·show NY _ _
    ·show NY _ _
    ·show Mz _
    ·show NY _ _
   show g.fpOk i (g.hok.fresh i)
end
end G
namespace L2
open PyProof.Rows
section
variable {X:Cx} {pins:List (PL×Obj)} {Y:St} {H:Hp} {s:PM}
def iR(wi:TI)(g:TG)(tt:TT)(te:TE)(cap:List (Option Nat)):TE:=λY H Q=>wi Y H λJ H1=>∀D,H1 D=PC->∃W:Nat->Nat->St->Hp->Prop,(∃m,W 0 m (cF Y cap) (upd H1 D (.lst [])))/\∀i m Y' H',W i m Y' H'->
 (J.stop i H'/\Q (.ref D) H')\/(J.go i H'/\∀x H2,J.yld i H' x H2->g x Y' H2 λO B=>tt O B λok B=>if ok=PD then te O B λy R=>∃ys,R D=PB (.lst ys)/\ys.length<sizeLine/\∃q,q<m/\W (i+1) q O (upd R D (.lst (ys++[y]))) else ∃q,q<m/\W (i+1) q O B)
def Ai(X:Cx)(ifs:List PK)(q:TT):Prop:=∀(pins:List (PL×Obj)) (s:PM) (Y:St) (H:Hp) (Q:Bool->Hp->Prop),Inv X pins Y H s->q Y H Q->
 PP (PQ X.prog X.w) X.A (forIn ifs PD λc r=>if r=PD then do let B <- isTrue c X.env (eval c X.env);pure (ForInStep.yield B) else pure (ForInStep.yield r)) (TP X pins Y Q) X.xe s
theorem sM:Ai X [] (λ_ H Q=>Q PD H):=λa s Y H Q I h=>wpAny_tests_nil ⟨H,I,h⟩
theorem Aj{c:PK}(h:PT X c t):Ai X [c] t:=λa s Y H Q I q=>wpAny_tests_one (h a s Y H Q I q)
theorem mi(hc:X.calm=PD)(O:e6 X N' scope cap)(hi:PI X tg iter wi)(hg:∀C s H ex,PG (ai X N' scope C s H ex) tg g)(ht:∀C s H ex,Ai (ai X N' scope C s H ex) ifs tt)(he:∀C s H ex,PE (ai X N' scope C s H ex) elt te){Q:VK}(I:Inv X pins Y H s)(h:iR wi g tt te cap Y H Q)(hs:∀x,foldedSetIterable iter X.env x=pure x)(hX:X.xe=E)(hQ:∀(C D:PL) (s1:PM) (H1:Hp) (f:List PL) (Y':St) (H':Hp) (s':PM),Inv X pins Y H1 s1->(∀b∈f,iM X pins H1 b)->Inv (ai X N' scope C s1 H1 f) [] Y' H' s'->Q (.ref D) H'->
   compPost (PQ X.prog X.w) X.A E use Q' (.ref D) C (.ok .next) s') :
  PP (PQ X.prog X.w) X.A (comprehension (.ListComp elt [⟨tg,iter,ifs,0⟩] scope pos) scope X.env cpos (newList []) PF (eval iter X.env) use) Q' E s:=by
 let hx:closureFor scope X.env=pure (f6 X.env.cells scope.names []):=gr λy hy e=>I.ok.has _ (O.free y hy e);show wpAny_comprehension_free rfl hs hx O.kind O.names ?_;subst hX;show aY (hi pins s Y H _ I h) λv s1 h1=>aY h1 λh5 s2 h2=>?_;obtain⟨it,f,tn,J,K,e,I2,T,ha,f2,hW⟩:=h2;subst e;show P6 (gu ?_);dsimp only;generalize B:s2.heap.push { cls:=.type "list",dict:=PC,data:=.seq ([]:List PH).toArray }=HH;let M:HH.objs.size=s2.heap.objs.size+1:=by rw[<- B,NW]
 let ho:s2.heap.objs.size<HH.objs.size:=by rw[M];show NH _
 generalize z:pushCells (HH.push { cls:=.type "dict",data:=.dict #[] }) scope.names=h₁;let kp:∀b o,HH.get? b=PB o->h₁.get? b=PB o:=λb o e=>z▸pushCells_keeps _ _ b o (Mx _ e);let hd:h₁.Ns HH.objs.size λ_=>PC:=z▸(Heap.Ns.new HH (.type "dict")).keeps (pushCells_keeps _ _)
 let hu:∀x c,(P3 (HH.objs.size+1) scope.names []).lookup x=PB c->h₁.IsCell c PC:=λx c e=>by
  let ok:=cellsFrom_ok scope.names (HH.push { cls:=.type "dict",data:=.dict #[] }) 0 [] ⟨λ_ _ U=>(nomatch U),List.Pairwise.nil⟩ (M3 _)
  rw[NW] at ok;show z▸(ok.empty x c (bU e)).1
 let N:∀b o,s2.heap.get? b=PB o->h₁.get? b=PB o:=λb o e=>kp b o (B▸Mx _ e);let hv:h₁.get? s2.heap.objs.size=PB { cls:=.type "list",data:=.seq ([]:List PH).toArray }:=kp _ _ (B▸ML _ rfl);let hh:∀b∈f,b<s2.heap.objs.size:=λb a=>let ⟨o,e,_⟩:=T.obj 0 _ ha b a;MC e;let F:=I2.hok.fresh (Mz s2.heap.objs.size);obtain⟨W,⟨m0,w0⟩,P⟩:=hW s2.heap.objs.size F;let J0:=oU (tk:=s2.toks) (o:=.lst []) I2 O f2 hh (by rw[M];show NK _) (Mz _) ho hu hd N ⟨M3 _,[],_,.nil,hv⟩;let L:tn 0 h₁:=T.keep 0 _ _ ha λb _ o e=>N b o e
 let h3:∀b∈f,(upd K s2.heap.objs.size (.lst [])) b=PC:=λb a=>by
  rw[ag (MM (hh b a))];show(f2 b a).1
 let l:∀{H':Hp},(∀b∈f,H' b=PC)->∀b∈f,iM (ai X N' scope HH.objs.size s2 K f) [] H' b:=λhn b a=>
  ⟨hn b a,(J0.ok.exf b a).1,J0.ok.exfs b a,.inl a,(J0.ok.exf b a).2,λp hp=>absurd hp (by simp[ai])⟩
 let t:codeAny (PQ X.prog X.w) X.A (.compLoop (.ListComp elt [⟨tg,iter,ifs,0⟩] scope pos) 0 (.ref it) (.ref s2.heap.objs.size) (compEnvC scope (DL X.env.cells scope.names HH.objs.size) HH.objs.size X.env))
   (compPost (PQ X.prog X.w) X.A X.xe use Q' (.ref s2.heap.objs.size) HH.objs.size) { s2 with heap:=h₁,toks:=s2.toks }:=by
  show ng (λn s'=>∃i Y' H',Inv (ai X N' scope HH.objs.size s2 K f) [] Y' H' s'/\tn i s'.heap/\(∀b∈f,H' b=PC)/\W i n Y' H') ?_ m0 ⟨0,_,_,J0,L,h3,w0⟩
  rintro n s3 ⟨i,Z,H3,I3,V,hj,w3⟩
  rcases P i n Z H3 w3 with⟨hf,qn⟩|⟨go,S⟩
  ·show aY (T.done (ai X N' scope HH.objs.size s2 K f) rfl rfl rfl hc i [] s3 Z H3 _ I3 (l hj) V hf) λr s4 ⟨hr,I4⟩=>?_;subst hr;show hQ _ _ s2 K f Z H3 s4 I2 f2 I4 qn
  ·show aY (T.item (ai X N' scope HH.objs.size s2 K f) rfl rfl rfl hc i [] s3 Z H3 _ I3 (l hj) V go) λr s4 ⟨u,hr,h4⟩=>?_;subst hr;show aY h4 λ_ s5 k=>?_;obtain⟨x,H5,I5,r5,y5,j,hq⟩:=k;let h0:=I5.pinned (l hq) (T.obj _ _ j);show aY (hg _ _ _ _ _ s5 Z H5 x u _ h0 r5 (S x H5 y5)) λ_ s6 k=>?_;obtain⟨R,H6,I6,q6⟩:=k;show aY (ht _ _ _ _ _ s6 R H6 _ I6 q6) λok hl k=>?_;obtain⟨hw,m,q⟩:=k
   cases ok with
   |false=>
    rw[if_neg M4] at q⊢;obtain⟨m',U,w7⟩:=q;show⟨m',U,i+1,R,_,m.unpinned,T.keep _ _ _ j λb a o e=>(m.pin (b,o) (MJ _ (MJ _ (bj a e)))).1,λb a=>?_,w7⟩;obtain⟨o,e,d⟩:=T.obj _ _ j b a;show(m.pin (b,o) (MJ _ (MJ _ (bj a e)))).2.1
   |true=>
   rw[if_pos rfl] at q⊢;show aY (he _ _ _ _ _ hl R hw _ m q) λyv s7 k=>?_;obtain⟨y,H7,I7,r7,ys,hD,k,m',U,w7⟩:=k;show aY (l8 _ s7 R H7 (.ref s2.heap.objs.size) [y] (.ref s2.heap.objs.size) [yv] (λv H'=>v=.non/\H'=upd H7 s2.heap.objs.size (.lst (ys++[y]))) I7 rfl (.cons r7 .nil) ⟨_,ys,y,rfl,rfl,hD,k,rfl,rfl⟩) λ_ s8 k=>?_;obtain⟨_,H8,I8,_,_,e8⟩:=k;subst e8;show⟨m',U,i+1,R,_,I8.unpinned,T.keep _ _ _ j λb a o e=>(I8.pin (b,o) (MJ _ (MJ _ (bj a e)))).1,λb a=>?_,w7⟩;obtain⟨o,e,d⟩:=T.obj _ _ j b a;show(I8.pin (b,o) (MJ _ (MJ _ (bj a e)))).2.1
 show codeAny_compStart_list t (T.self _ 0 _ _ _ L t)
theorem oV(k:X.calm=PD)(O:e6 X N' scope cap)(hi:PI X tg iter wi)(e:∀C s H ex,PG (ai X N' scope C s H ex) tg g)(n:∀C s H ex,Ai (ai X N' scope C s H ex) ifs tt)(c:∀C s H ex,PE (ai X N' scope C s H ex) elt te)(i:∀x,foldedSetIterable iter X.env x=pure x:=by intro _;rfl):PE X (.ListComp elt [⟨tg,iter,ifs,0⟩] scope pos) (iR wi g tt te cap):=by
 intro b s Y H Q I h;rw[eval_ListComp];show mi k O hi e n c I h i rfl λC D s1 u p o f t l d J q=>?_;obtain⟨m,j,_⟩:=J.loc;show⟨m,j,λr a=>⟨.ref D,f,g6 l d J a,rfl,q⟩⟩
theorem xi{cpos pos' pos:Pos}{i:Nat}(hc:X.calm=PD)(O:e6 X N' scope cap)(hi:PI X tg iter wi)(M:∀C s H ex,PG (ai X N' scope C s H ex) tg g)(ht:∀C s H ex,Ai (ai X N' scope C s H ex) ifs tt)(W:∀C s H ex,PE (ai X N' scope C s H ex) elt te)(Z:∀x,foldedSetIterable iter X.env x=pure x)(V:X.N.Nodup)(u:X.N[i]?=PB x)(L:BW X.env.scope x)(R:X.fn x=PD\/X.env.scope.names.lookup x=PB .local)(w:swapsWith (.ListComp elt [⟨tg,iter,ifs,0⟩] scope cpos) (PB (.Name x pos')) pos.line X.env=pure PD) :
  PS X (.Assign [.Name x pos'] (.ListComp elt [⟨tg,iter,ifs,0⟩] scope cpos) pos) (zR (iR wi g tt te cap) (gR i)):=by
 intro d s Y H D I h;rw[exec_Assign_Name_used _ _ _ _ w];show PJ (wpAny_standAt (PJ ?_));show PJ (wpAny_mono (mi hc O hi M ht W I h Z rfl λC P s1 H1 fp Y' E t l K J q=>?_) (λ_ t hq=>PN (PN hq)) λ_ _ e=>e);let U:Inv X d Y E t:=g6 l K J (Heap.SameBut.refl C t.heap);let A:s1.heap.objs.size<=C:=J.ok.above;let f:∀b o,s1.heap.get? b=PB o->b≠C:=λb o e=>MM (MG (MC e) A);obtain⟨m1,⟨oL,_,_,F,_⟩,_⟩:=id l.loc;let B:X.env.locals≠C:=f _ _ F
 let k:∀x c,X.env.cells.lookup x=PB c->c≠C:=λx c e=>by
  obtain⟨v,o,g,_⟩:=l.cell x c e;show f _ _ g
 let n:∀p∈X.pn++d,p.1≠C:=λp hp=>f _ _ (l.pin p hp).1
 let S:X.s₀.heap.objs.size<=C:=by
  show Nb ?_ A;show Of (Nw l.ok.above (MC F))
 obtain⟨m,Q,_⟩:=J.loc;show wpAny_assign_Name (iK U V u L (v:=.ref P) rfl (λs3 T j=>?_) R);obtain⟨a,j,y⟩:=j
 let r:C≠a:=by
  rcases y with rfl|y
  ·show Ne.symm B
  ·show Ne.symm (k _ _ y)
 show⟨m,Q.sameBut j r,λh' z=>⟨_,E,T.junk z S B k n J.free,q⟩⟩
end
end L2
namespace J
open PyProof.Rows
abbrev DK:=aN ⊕ List (aN ⊕ List aN)
inductive Hd where
 |lst|tup|dic (t:Nat) (ks:List DK)|obj (c:Str) (ns:List Str)
 deriving DecidableEq
inductive D where
 |non|bl (b:Bool)|int (i:Int)|str (x:Str)|scr (ns:List Int)|nd (h:Hd) (ds:List D)
noncomputable abbrev D.lst(ds:List D):D:=.nd .lst ds
noncomputable abbrev D.tup(ds:List D):D:=.nd .tup ds
noncomputable abbrev D.dic(t:Nat)(ks:List DK)(ds:List D):D:=.nd (.dic t ks) ds
noncomputable abbrev D.obj(c:Str)(ns:List Str)(ds:List D):D:=.nd (.obj c ns) ds
noncomputable def Hd.mu:Hd->Bool
 |.tup=>PF
 |_=>PD
def G5(K:Mu)(a:PL)(xs:List V):Prop:=
 ∃(o:Obj) (q:Array PH) (n:Nat),K.lookup a=PB o/\o.cls=.type "list"/\o.dict=PC/\o.data=.seq q n/\q.size<=sizeLine/\Vals xs q.toList
def cW(K:Mu)(o:HO):Hd->List V->Prop
 |.lst,xs=>o=.lst xs
 |.tup,xs=>o=.tup xs
 |.dic t ks,xs=>(t=0/\∃kvs:List (aN×V),o=.dK kvs/\ks=kvs.map (λp=>Sum.inl p.1)/\xs=kvs.map (·.2))\/(∃m,t=m+1/\∃(kvs:List (List (aN ⊕ List aN)×V)) (ep:Nat),o=.dT m ep kvs/\ks=kvs.map (λp=>Sum.inr p.1)/\xs=kvs.map (·.2))
 |.obj c ns,xs=>∃C dx,Nk K P0 c=PB (PB (.ref C))/\(Cls K C/\∀f∈ns,NoAttr K C f)/\o=.ins C dx (ns.zip xs)/\ns.length=xs.length
abbrev Pr:=PL->Prop
mutual
def Rp(K:Mu)(H:Hp)(S:Pr):D->V->Prop
 |.non,v=>v=.non
 |.bl b,v=>v=.bl b
 |.int i,v=>v=.int i
 |.str x,v=>v=.str x
 |.scr ns,v=>∃a,v=.ref a/\((¬S a/\Rd H a (.lst (ns.map V.int)))\/G5 K a (ns.map V.int))
 |.nd h ds,v=>∃a o xs,v=.ref a/\¬S a/\H a=PB o/\cW K o h xs/\RpL K H S ds xs
def RpL(K:Mu)(H:Hp)(S:Pr):List D->List V->Prop
 |[],xs=>xs=[]
 |d::ds,xs=>∃y ys,xs=y::ys/\Rp K H S d y/\RpL K H S ds ys
end
section
variable {K:Mu} {H H':Hp} {S S':Pr}
mutual
theorem Rp.go(k:∀b o,¬S b->H b=PB o->H' b=PB o/\¬S' b):∀{d:D} {v:V},Rp K H S d v->Rp K H' S' d v
 |.non,_,h=>h
 |.bl _,_,h=>h
 |.int _,_,h=>h
 |.str _,_,h=>h
 |.scr ns,v,h=>by
  unfold Rp at h⊢;obtain⟨a,e,h⟩:=h;show⟨a,e,?_⟩;rcases h with⟨n,g|⟨o,g⟩⟩|h
  ·show .inl ⟨(k _ _ n g).2,.inl (k _ _ n g).1⟩
  ·show .inl ⟨(k _ _ n g).2,.inr ⟨o,(k _ _ n g).1⟩⟩
  ·show .inr h
 |.nd hd ds,v,h=>by
  unfold Rp at h⊢;obtain⟨a,o,c,e,n,g,q,r⟩:=h;show⟨a,o,c,e,(k _ _ n g).2,(k _ _ n g).1,q,RpL.go k r⟩
theorem RpL.go(k:∀b o,¬S b->H b=PB o->H' b=PB o/\¬S' b):∀{ds:List D} {vs:List V},RpL K H S ds vs->RpL K H' S' ds vs
 |[],_,h=>by unfold RpL at h⊢;show h
 |d::ds,_,h=>by
  unfold RpL at h⊢;obtain⟨y,a,e,r,t⟩:=h;show⟨y,a,e,Rp.go k r,RpL.go k t⟩
end
theorem Rp.same(s:Same H H')(h:Rp K H S d v):Rp K H' S d v:=h.go λb o n e=>⟨s b o e,n⟩
theorem RpL.same(s:Same H H')(h:RpL K H S d v):RpL K H' S d v:=h.go λb o n e=>⟨s b o e,n⟩
theorem Rp.weak(k:∀b,S' b->S b){d:D}{v:V}(h:Rp K H S d v):Rp K H S' d v:=h.go λb o n e=>⟨e,λz=>n (k b z)⟩
theorem RpL.weak(k:∀b,S' b->S b)(h:RpL K H S d v):RpL K H S' d v:=h.go λb o n e=>⟨e,λz=>n (k b z)⟩
theorem RpL.len:∀{ds:List D} {vs:List V},RpL K H S ds vs->vs.length=ds.length
 |[],_,h=>by unfold RpL at h;rw[h];rfl
 |d::ds,_,h=>by
  unfold RpL at h;obtain⟨y,a,rfl,_,t⟩:=h;rw[Nh,Nh,RpL.len t]
theorem RpL.nil:RpL K H S [] []:=by unfold RpL;rfl
theorem RpL.cons{d:D}{v:V}{ds:List D}{vs:List V}(h1:Rp K H S d v)(h2:RpL K H S ds vs):RpL K H S (d::ds) (v::vs):=by unfold RpL;show⟨v,vs,rfl,h1,h2⟩
theorem RpL.nil_inv(h:RpL K H S [] vs):vs=[]:=by unfold RpL at h;show h
theorem RpL.cons_inv(h:RpL K H S (d::ds) vs):∃y ys,vs=y::ys/\Rp K H S d y/\RpL K H S ds ys:=by unfold RpL at h;show h
theorem RpL.getD:∀{ds:List D} {vs:List V} {i:Nat} {d:D},RpL K H S ds vs->ds[i]?=PB d->∃v,vs[i]?=PB v/\Rp K H S d v
 |[],_,_,_,_,e=>by simp at e
 |d::ds,_,0,d',h,e=>by obtain⟨y,a,rfl,r,t⟩:=h.cons_inv;simp at e;subst e;show⟨y,rfl,r⟩
 |d::ds,_,i+1,d',h,e=>by obtain⟨y,a,rfl,r,t⟩:=h.cons_inv;simpa using RpL.getD t (by simpa using e)
theorem RpL.append:∀{ds es:List D} {vs us:List V},RpL K H S ds vs->RpL K H S es us->RpL K H S (ds++es) (vs++us)
 |[],_,_,_,h,g=>by rw[h.nil_inv];show g
 |d::ds,_,_,_,h,g=>by obtain⟨y,a,rfl,r,t⟩:=h.cons_inv;show .cons r (RpL.append t g)
theorem RpL.take:∀{ds:List D} {vs:List V} (n:Nat),RpL K H S ds vs->RpL K H S (ds.take n) (vs.take n)
 |_,_,0,_=>by simpa using RpL.nil
 |[],_,_+1,h=>by rw[h.nil_inv];simpa using RpL.nil
 |d::ds,_,n+1,h=>by obtain⟨y,a,rfl,r,t⟩:=h.cons_inv;show .cons r (RpL.take n t)
theorem RpL.drop:∀{ds:List D} {vs:List V} (n:Nat),RpL K H S ds vs->RpL K H S (ds.drop n) (vs.drop n)
 |_,_,0,h=>h
 |[],_,_+1,h=>by rw[h.nil_inv];simpa using RpL.nil
 |d::ds,_,n+1,h=>by obtain⟨y,a,rfl,r,t⟩:=h.cons_inv;show RpL.drop n t
theorem RpL.set:∀{ds:List D} {vs:List V} (n:Nat) {d:D} {v:V},RpL K H S ds vs->Rp K H S d v->RpL K H S (ds.set n d) (vs.set n v)
 |[],_,_,_,_,h,_=>by rw[h.nil_inv];simpa using RpL.nil
 |d::ds,_,0,_,_,h,g=>by obtain⟨y,a,rfl,r,t⟩:=h.cons_inv;show .cons g t
 |d::ds,_,n+1,_,_,h,g=>by obtain⟨y,a,rfl,r,t⟩:=h.cons_inv;show .cons r (RpL.set n t g)
theorem RpL.rep(h:RpL K H S ds vs):∀n:Nat,RpL K H S (Nc n ds).flatten (Nc n vs).flatten
 |0=>by simpa using RpL.nil
 |n+1=>by simpa[NB] using h.append (h.rep n)
theorem RpL.ints:∀ns:List Int,RpL K H S (ns.map D.int) (ns.map V.int)
 |[]=>.nil
 |n::ns=>.cons (by unfold Rp;rfl) (RpL.ints ns)
theorem RpL.erase:∀{ds:List D} {vs:List V} (n:Nat),RpL K H S ds vs->RpL K H S (ds.eraseIdx n) (vs.eraseIdx n)
 |[],_,_,h=>by rw[h.nil_inv];simpa using RpL.nil
 |d::ds,_,0,h=>by obtain⟨y,a,rfl,r,t⟩:=h.cons_inv;show t
 |d::ds,_,n+1,h=>by obtain⟨y,a,rfl,r,t⟩:=h.cons_inv;show .cons r (RpL.erase n t)
end
mutual
def qQ:D->Bool
 |.nd h ds=>!h.mu&&Ak ds
 |.scr _=>PF
 |_=>PD
def Ak:List D->Bool
 |[]=>PD
 |d::ds=>qQ d&&Ak ds
end
def MuOk(H:Hp)(S:Pr):Prop:=∀a,S a->∃o,H a=PB o/\∀xs,o≠.tup xs
section
variable {K:Mu} {H:Hp} {S S':Pr}
mutual
theorem Rp.im(m:MuOk H S'):∀{d:D} {v:V},qQ d=PD->Rp K H S d v->Rp K H S' d v
 |.non,_,_,h=>h
 |.bl _,_,_,h=>h
 |.int _,_,_,h=>h
 |.str _,_,_,h=>h
 |.scr ns,v,i,h=>by simp[qQ] at i
 |.nd hd ds,v,i,h=>by
  unfold Rp at h⊢;obtain⟨a,o,c,e,n,g,q,r⟩:=h;rw[qQ,Mw] at i;show⟨a,o,c,e,λz=>?_,g,q,RpL.im m i.2 r⟩;obtain⟨j,b,f⟩:=m a z;rw[g] at b;cases b
  cases hd with
  |tup=>show f _ q
  |_=>show absurd i.1 (by simp[Hd.mu])
theorem RpL.im(m:MuOk H S'):∀{ds:List D} {vs:List V},Ak ds=PD->RpL K H S ds vs->RpL K H S' ds vs
 |[],_,_,h=>by unfold RpL at h⊢;show h
 |d::ds,_,i,h=>by
  rw[Ak,Mw] at i;obtain⟨y,a,rfl,r,t⟩:=h.cons_inv;show .cons (Rp.im m i.1 r) (RpL.im m i.2 t)
end
end
inductive Ow where
 |fz|own (es:List Ow) (r:Ow)
mutual
def Tr(K:Mu)(H:Hp)(S:Pr):D->Ow->V->Pr->Prop
 |.nd h ds,.own es r,v,F=>∃a o xs F',v=.ref a/\H a=PB o/\cW K o h xs/\(h.mu=PD->¬F' a)/\(h.mu=PF->¬S a)/\(∀b,F b↔(h.mu=PD/\b=a)\/F' b)/\TrL K H S ds es r xs F'
 |d,_,v,F=>(∀b,¬F b)/\Rp K H S d v
def TrL(K:Mu)(H:Hp)(S:Pr):List D->List Ow->Ow->List V->Pr->Prop
 |[],_,_,xs,F=>xs=[]/\∀b,¬F b
 |d::ds,es,r,xs,F=>∃y ys F1 F2,xs=y::ys/\(∀b,F b↔F1 b\/F2 b)/\(∀b,F1 b->¬F2 b)/\Tr K H S d (es.headD r) y F1/\TrL K H S ds es.tail r ys F2
end
section
variable {K:Mu} {H H':Hp} {S S':Pr}
mutual
theorem Tr.go:∀{d:D} {k:Ow} {v:V} {F:Pr},(∀b o,(¬S b\/F b)->H b=PB o->H' b=PB o)->(∀b o,H b=PB o->¬S b->¬S' b)->Tr K H S d k v F->Tr K H' S' d k v F
 |.non,_,_,_,k1,k2,h=>by unfold Tr at h⊢;show⟨h.1,h.2⟩
 |.bl _,_,_,_,k1,k2,h=>by unfold Tr at h⊢;show⟨h.1,h.2⟩
 |.int _,_,_,_,k1,k2,h=>by unfold Tr at h⊢;show⟨h.1,h.2⟩
 |.str _,_,_,_,k1,k2,h=>by unfold Tr at h⊢;show⟨h.1,h.2⟩
 |.scr ns,_,_,_,k1,k2,h=>by unfold Tr at h⊢;show⟨h.1,h.2.go λb o n e=>⟨k1 b o (.inl n) e,k2 b o e n⟩⟩
 |.nd hd ds,.fz,_,_,k1,k2,h=>by unfold Tr at h⊢;show⟨h.1,h.2.go λb o n e=>⟨k1 b o (.inl n) e,k2 b o e n⟩⟩
 |.nd hd ds,.own es r,v,F,k1,k2,h=>by
  unfold Tr at h⊢;obtain⟨a,o,l,p,e,g,q,m,i,f,t⟩:=h
  let j:H' a=PB o:=by
   cases c:hd.mu with
   |true=>show k1 a o (.inr ((f a).mpr (.inl ⟨c,rfl⟩))) g
   |false=>show k1 a o (.inl (i c)) g
  show⟨a,o,l,p,e,j,q,m,λc=>k2 a o g (i c),f,TrL.go (λb o h=>k1 b o (h.imp id λz=>(f b).mpr (.inr z))) k2 t⟩
theorem TrL.go:∀{ds:List D} {es:List Ow} {r:Ow} {vs:List V} {F:Pr},(∀b o,(¬S b\/F b)->H b=PB o->H' b=PB o)->(∀b o,H b=PB o->¬S b->¬S' b)->TrL K H S ds es r vs F->TrL K H' S' ds es r vs F
 |[],_,_,_,_,_,_,h=>by unfold TrL at h⊢;show h
 |d::ds,es,r,vs,F,k1,k2,h=>by
  unfold TrL at h⊢;obtain⟨y,f,c,i,e,a,j,k,g⟩:=h;show⟨y,f,c,i,e,a,j,Tr.go (λb o h=>k1 b o (h.imp id λz=>(a b).mpr (.inl z))) k2 k,TrL.go (λb o h=>k1 b o (h.imp id λz=>(a b).mpr (.inr z))) k2 g⟩
end
mutual
theorem Tr.rp:∀{d:D} {k:Ow} {v:V} {F:Pr},(∀b,S' b->S b/\¬F b)->Tr K H S d k v F->Rp K H S' d v
 |.non,_,_,_,k2,h=>by unfold Tr at h;show h.2
 |.bl _,_,_,_,k2,h=>by unfold Tr at h;show h.2
 |.int _,_,_,_,k2,h=>by unfold Tr at h;show h.2
 |.str _,_,_,_,k2,h=>by unfold Tr at h;show h.2
 |.scr ns,_,_,_,k2,h=>by unfold Tr at h;show h.2.weak λb z=>(k2 b z).1
 |.nd hd ds,.fz,_,_,k2,h=>by unfold Tr at h;show h.2.weak λb z=>(k2 b z).1
 |.nd hd ds,.own es r,v,F,k2,h=>by
  unfold Tr at h;unfold Rp;obtain⟨a,o,l,n,e,g,q,m,j,c,t⟩:=h;show⟨a,o,l,e,λz=>?_,g,q,TrL.rp (λb z=>⟨(k2 b z).1,λi=>(k2 b z).2 ((c b).mpr (.inr i))⟩) t⟩
  cases f:hd.mu with
  |true=>show(k2 a z).2 ((c a).mpr (.inl ⟨f,rfl⟩))
  |false=>show j f (k2 a z).1
theorem TrL.rp:∀{ds:List D} {es:List Ow} {r:Ow} {vs:List V} {F:Pr},(∀b,S' b->S b/\¬F b)->TrL K H S ds es r vs F->RpL K H S' ds vs
 |[],_,_,_,_,_,h=>by unfold TrL at h;unfold RpL;show h.1
 |d::ds,es,r,vs,F,k2,h=>by
  unfold TrL at h;obtain⟨y,i,g,j,rfl,c,k,f,e⟩:=h;show .cons (Tr.rp (λb z=>⟨(k2 b z).1,λa=>(k2 b z).2 ((c b).mpr (.inl a))⟩) f) (TrL.rp (λb z=>⟨(k2 b z).1,λa=>(k2 b z).2 ((c b).mpr (.inr a))⟩) e)
end
theorem Tr.rd(h:Tr K H S d k v F):Rp K H (λ_=>False) d v:=h.rp λb z=>z.elim
theorem Tr.fz(h:Rp K H S d v):Tr K H S d .fz v (λ_=>False):=by
 cases d<;>(unfold Tr;show⟨λb z=>z,h⟩)
theorem Tr.fz_inv{F:Pr}(h:Tr K H S d .fz v F):(∀b,¬F b)/\Rp K H S d v:=by
 cases d<;>(unfold Tr at h;show h)
mutual
theorem Tr.dom:∀{d:D} {k:Ow} {v:V} {F:Pr},Tr K H S d k v F->∀b,F b->∃o,H b=PB o/\∀xs,o≠.tup xs
 |.non,_,_,_,h=>by unfold Tr at h;show λb z=>absurd z (h.1 b)
 |.bl _,_,_,_,h=>by unfold Tr at h;show λb z=>absurd z (h.1 b)
 |.int _,_,_,_,h=>by unfold Tr at h;show λb z=>absurd z (h.1 b)
 |.str _,_,_,_,h=>by unfold Tr at h;show λb z=>absurd z (h.1 b)
 |.scr ns,_,_,_,h=>by unfold Tr at h;show λb z=>absurd z (h.1 b)
 |.nd hd ds,.fz,_,_,h=>by unfold Tr at h;show λb z=>absurd z (h.1 b)
 |.nd hd ds,.own es r,v,F,h=>by
  unfold Tr at h;obtain⟨a,o,xs,l,e,g,q,j,p,i,t⟩:=h;intro b z;rcases(i b).mp z with⟨hm,rfl⟩|z
  ·show⟨o,g,λm f=>?_⟩;subst f
   cases hd with
   |tup=>show absurd hm (by simp[Hd.mu])
   |lst=>cases q
   |dic t n=>rcases q with⟨_,_,e,_⟩|⟨_,_,_,_,e,_⟩<;>cases e
   |obj c ns=>obtain⟨_,_,_,_,e,_⟩:=q;cases e
  ·show TrL.dom t b z
theorem TrL.dom:∀{ds:List D} {es:List Ow} {r:Ow} {vs:List V} {F:Pr},TrL K H S ds es r vs F->∀b,F b->∃o,H b=PB o/\∀xs,o≠.tup xs
 |[],_,_,_,_,h=>by unfold TrL at h;show λb z=>absurd z (h.2 b)
 |d::ds,es,r,vs,F,h=>by
  unfold TrL at h;obtain⟨y,i,g,j,e,a,k,f,c⟩:=h;intro b z;rcases(a b).mp z with z|z
  ·show Tr.dom f b z
  ·show TrL.dom c b z
end
end
end J
namespace J
abbrev Gh:=PL->Option (Option Nat)
def Sx(g:Gh)(F:Pr):Pr:=λb=>g b≠PC\/F b
abbrev Sg(g:Gh):Pr:=λb=>g b≠PC
inductive Kd where
 |sh|fr (k:Ow)|bo (i:Nat) (k:Ow)
def VR1(K:Mu)(H:Hp)(g:Gh)(Ft:Pr):Kd->D->V->Pr->Prop
 |.sh,d,v,F=>(∀b,¬F b)/\Rp K H (Sx g Ft) d v
 |.fr k,d,v,F=>Tr K H (Sx g Ft) d k v F
 |.bo i k,d,v,F=>(∀b,¬F b)/\∃q,(∀b,q b->g b=PB (PB i))/\Tr K H (Sx g Ft) d k v q
def VRL(K:Mu)(H:Hp)(g:Gh)(Ft:Pr):List (Kd×D)->List V->Pr->Prop
 |[],vs,F=>vs=[]/\∀b,¬F b
 |(kd,d)::r,vs,F=>∃y ys F1 F2,vs=y::ys/\(∀b,F b↔F1 b\/F2 b)/\(∀b,F1 b->¬F2 b)/\VR1 K H g Ft kd d y F1/\VRL K H g Ft r ys F2
def VR(K:Mu)(g:Gh)(H0 H:Hp)(q:Kd)(d:D)(v:V):Prop:=∃F:Pr,(∀b,F b->H0 b=PC)/\VR1 K H g F q d v F
def VRs(K:Mu)(g:Gh)(H0 H:Hp)(kds:List (Kd×D))(vs:List V):Prop:=∃F:Pr,(∀b,F b->H0 b=PC)/\VRL K H g F kds vs F
section
variable {K:Mu} {H H' H0 H1:Hp} {g:Gh} {Ft Ft' F:Pr}
theorem VR1.go(s:Same H H')(m:∀b o,H b=PB o->Ft' b->Ft b)(h:VR1 K H g Ft kd d v F):VR1 K H' g Ft' kd d v F:=by
 let a:∀b o,H b=PB o->¬Sx g Ft b->¬Sx g Ft' b:=λb o e n z=>n (z.imp id (m b o e))
 cases kd with
 |sh=>show⟨h.1,h.2.go λb o n e=>⟨s b o e,a b o e n⟩⟩
 |fr k=>show Tr.go (λb o _ e=>s b o e) a h
 |bo i k=>obtain⟨l,f,j,c⟩:=h;show⟨l,f,j,Tr.go (λb o _ e=>s b o e) a c⟩
theorem VR1.dom(h:VR1 K H g Ft kd d v F):∀b,F b->∃o,H b=PB o/\∀xs,o≠.tup xs:=by
 cases kd with
 |sh=>show λb z=>absurd z (h.1 b)
 |fr k=>show Tr.dom h
 |bo i k=>show λb z=>absurd z (h.1 b)
theorem VRL.dom:∀{kds:List (Kd×D)} {vs:List V} {F:Pr},VRL K H g Ft kds vs F->∀b,F b->∃o,H b=PB o/\∀xs,o≠.tup xs
 |[],_,_,h=>λb z=>absurd z (h.2 b)
 |(kd,d)::r,_,_,h=>by
  obtain⟨y,j,i,k,e,a,l,f,c⟩:=h;intro b z;rcases(a b).mp z with z|z
  ·show f.dom b z
  ·show VRL.dom c b z
theorem VR.same(s:Same H H')(h:VR K g H0 H kd d v):VR K g H0 H' kd d v:=
 let ⟨F,h1,h2⟩:=h;⟨F,h1,h2.go s λ_ _ _ z=>z⟩
theorem VR.older(s:Same H0 H1)(h:VR K g H1 H kd d v):VR K g H0 H kd d v:=
 let ⟨F,h1,h2⟩:=h;⟨F,λb z=>s.free (h1 b z),h2⟩
theorem VR1.rd(h:VR1 K H g Ft kd d v F):Rp K H (λ_=>False) d v:=by
 cases kd with
 |sh=>show h.2.weak λb z=>z.elim
 |fr k=>show Tr.rd h
 |bo i k=>obtain⟨_,c,_,a⟩:=h;show a.rd
theorem VR.rd(h:VR K g H0 H kd d v):Rp K H (λ_=>False) d v:=let ⟨F,h1,h2⟩:=h;h2.rd
theorem VRL.rd:∀{kds:List (Kd×D)} {vs:List V} {F:Pr},VRL K H g Ft kds vs F->RpL K H (λ_=>False) (kds.map (·.2)) vs
 |[],_,_,h=>by rw[h.1];show .nil
 |(kd,d)::r,_,_,h=>by
  obtain⟨y,e,j,f,rfl,c,i,b,a⟩:=h;show .cons b.rd (VRL.rd a)
def qR:Kd->D->Bool
 |.bo _ _,d=>qQ d
 |_,_=>PD
theorem MuOk.same(m:MuOk H S)(s:Same H H'):MuOk H' S:=λa z=>let ⟨o,e,n⟩:=m a z;⟨o,s a o e,n⟩
theorem VR1.sh{S:Pr}(e:qR kd d=PD)(m:MuOk H S)(a:∀b,S b->(g b≠PC\/Ft b)/\¬F b)(h:VR1 K H g Ft kd d v F):Rp K H S d v:=by
 cases kd with
 |sh=>show h.2.weak λb z=>(a b z).1
 |fr k=>show Tr.rp (λb z=>⟨(a b z).1,(a b z).2⟩) h
 |bo i k=>obtain⟨_,f,j,c⟩:=h;show c.rd.im m e
theorem VR.sh(i:qR kd d=PD)(m:MuOk H0 (Sg g))(s:Same H0 H)(h:VR K g H0 H kd d v):Rp K H (Sg g) d v:=by
 obtain⟨F,f,c⟩:=h;show c.sh i (m.same s) λb z=>⟨.inl z,λa=>?_⟩;obtain⟨o,e,_⟩:=m b z;rw[f b a] at e;cases e
theorem VRL.sh{S:Pr}(m:MuOk H S):∀{kds:List (Kd×D)} {vs:List V} {F:Pr},(kds.all λp=>qR p.1 p.2)=PD->(∀b,S b->(g b≠PC\/Ft b)/\¬F b)->VRL K H g Ft kds vs F->RpL K H S (kds.map (·.2)) vs
 |[],_,_,_,_,h=>by rw[h.1];show .nil
 |(kd,d)::r,_,F,ok,hS,h=>by
  obtain⟨y,j,i,k,rfl,c,l,f,e⟩:=h;rw[NC,Mw] at ok;show .cons (f.sh ok.1 m λb z=>⟨(hS b z).1,λa=>(hS b z).2 ((c b).mpr (.inl a))⟩) (VRL.sh m ok.2 (λb z=>⟨(hS b z).1,λa=>(hS b z).2 ((c b).mpr (.inr a))⟩) e)
theorem VRs.sh{kds:List (Kd×D)}(f:(kds.all λp=>qR p.1 p.2)=PD)(m:MuOk H0 (Sg g))(s:Same H0 H)(h:VRs K g H0 H kds vs):RpL K H (Sg g) (kds.map (·.2)) vs:=by
 obtain⟨F,d,c⟩:=h;show c.sh (m.same s) f λb z=>⟨.inl z,λa=>?_⟩;obtain⟨o,e,_⟩:=m b z;rw[d b a] at e;cases e
theorem VRs.rd{kds:List (Kd×D)}(h:VRs K g H0 H kds vs):RpL K H (λ_=>False) (kds.map (·.2)) vs:=let ⟨F,h1,h2⟩:=h;h2.rd
theorem VRs.nil:VRs K g H0 H [] []:=⟨λ_=>False,λb z=>z.elim,rfl,λb z=>z⟩
open Classical in
noncomputable def Gh.plus(g:Gh)(F:Pr):Gh:=λb=>if F b then PB PC else g b
theorem al(b:PL):Sg (g.plus F) b↔Sg g b\/F b:=by
 unfold Gh.plus Sg;by_cases h:F b
 ·simp[h]
 ·simp[h]
theorem bL(h:g.plus F b=PB (PB i)):g b=PB (PB i):=by
 unfold Gh.plus at h;split at h
 ·cases h
 ·show h
theorem ci(h:g b=PB (PB i))(n:¬F b):g.plus F b=PB (PB i):=by
 unfold Gh.plus;rw[if_neg n];show h
theorem VR1.unplus{F1:Pr}(h:VR1 K H (g.plus F1) Ft kd d v F):VR1 K H g (λb=>F1 b\/Ft b) kd d v F:=by
 let a:∀b o,H b=PB o->¬Sx (g.plus F1) Ft b->¬Sx g (λb=>F1 b\/Ft b) b:=λb o e n z=>n (z.elim (λz=>.inl ((al b).mpr (.inl z))) λz=>z.elim (λz=>.inl ((al b).mpr (.inr z))) .inr)
 cases kd with
 |sh=>show⟨h.1,h.2.go λb o n e=>⟨e,a b o e n⟩⟩
 |fr k=>show Tr.go (λb o _ e=>e) a h
 |bo i k=>obtain⟨l,f,j,c⟩:=h;show⟨l,f,λb z=>bL (j b z),Tr.go (λb o _ e=>e) a c⟩
theorem VRL.unplus{F1:Pr}:∀{kds:List (Kd×D)} {vs:List V} {F:Pr},VRL K H (g.plus F1) Ft kds vs F->VRL K H g (λb=>F1 b\/Ft b) kds vs F
 |[],_,_,h=>h
 |(kd,d)::r,_,_,h=>by
  obtain⟨y,c,F1,i,e,a,j,k,f⟩:=h;show⟨y,c,F1,i,e,a,j,k.unplus,VRL.unplus f⟩
theorem VRs.cons{f:Kd}{d:D}{v:V}{kds:List (Kd×D)}{vs:List V}{F1:Pr}(s:Same H0 H)(s1:Same H H')(h:∀b,F1 b->H0 b=PC)(c:VR1 K H g F1 f d v F1)(h2:VRs K (g.plus F1) H H' kds vs):VRs K g H0 H' ((f,d)::kds) (v::vs):=by
 obtain⟨a,b1,b2⟩:=h2;let k:=c.dom;show⟨λb=>F1 b\/a b,λb z=>z.elim (h b) λz=>s.free (b1 b z),v,vs,F1,a,rfl,λb=>Iff.rfl,λb i j=>?_,c.go s1 λb o e z=>z.elim id λz=>?_,b2.unplus⟩
 ·obtain⟨o,e,_⟩:=k b i;rw[b1 b j] at e;cases e
 ·rw[b1 b z] at e;cases e
theorem VRs.one(h:VRs K g H0 H [(kd,d)] vs):∃v,vs=[v]/\VR K g H0 H kd d v:=by
 obtain⟨F,k,y,n,c,l,rfl,a,m,f,i,j⟩:=h;subst i;let e:∀b,F b->c b:=λb z=>((a b).mp z).elim id λz=>absurd z (j b);show⟨y,rfl,c,λb z=>k b ((a b).mpr (.inl z)),f.go (λ_ _ h=>h) λb _ _ z=>(a b).mpr (.inl z)⟩
end
structure Sl where
 lk:Bool
 k:Ow
 d:D
abbrev Ro:=List (Option Sl)
noncomputable def qS:Ow->Bool
 |.fz=>PD
 |_=>PF
def oW(i:Nat)(s:Sl):Kd×D:=(if qS s.k then .sh else .bo i s.k,s.d)
structure SE(K:Mu)(g:Gh)(Z:Ro)(Y:St)(H:Hp):Prop where
 slot:∀(i:Nat) (s:Sl),Z[i]?=PB (PB s)->∃v F,Y[i]?=PB (PB v)/\(∀b,F b->g b=PB (PB i))/\Tr K H (Sg g) s.d s.k v F
 mu:MuOk H (Sg g)
 len:Z.length=Y.length
section
variable {K:Mu} {H H' H0 H1:Hp} {g g':Gh} {Z:Ro} {Y:St}
theorem SE.same(h:SE K g Z Y H)(s:Same H H'):SE K g Z Y H':=
 ⟨λi a e=>let ⟨v,F,e1,e2,e3⟩:=h.slot i a e;⟨v,F,e1,e2,e3.go (λb o _ e=>s b o e) λb o _ n=>n⟩,h.mu.same s,h.len⟩
theorem jT(h:qS k=PD):k=.fz:=by cases k with|fz=>rfl|own es r=>cases h
theorem SE.get(h:SE K g Z Y H){i:Nat}(e:Z[i]?=PB (PB s)):∃v,Y[i]?=PB (PB v)/\VR K g H H (oW i s).1 (oW i s).2 v:=by
 obtain⟨v,F,e1,e2,e3⟩:=h.slot i s e;show⟨v,e1,λ_=>False,λb z=>z.elim,?_⟩;let t:Tr K H (Sx g λ_=>False) s.d s.k v F:=e3.go (λ_ _ _ h=>h) λb o _ n z=>n (z.elim id λz=>z.elim);unfold oW
 cases hk:qS s.k with
 |true=>
  rw[jT hk] at t;show⟨λb z=>z,t.fz_inv.2⟩
 |false=>show⟨λb z=>z,F,e2,t⟩
theorem SE.plus{F:Pr}(h:SE K g Z Y H)(s:Same H H')(a:∀b,F b->H b=PC)(f:∀b,F b->∃o,H' b=PB o/\∀xs,o≠.tup xs):SE K (g.plus F) Z Y H':=by
 show⟨λi j e=>?_,λb z=>?_,h.len⟩
 ·obtain⟨v,d,e1,e2,e3⟩:=h.slot i j e;show⟨v,d,e1,λb z=>ci (e2 b z) λc=>?_,e3.go (λb o _ e=>s b o e) λb o e n z=>?_⟩
  ·obtain⟨o,q,_⟩:=e3.dom b z;rw[a b c] at q;cases q
  ·rcases(al b).mp z with z|z
   ·show n z
   ·rw[a b z] at e;cases e
 ·rcases(al b).mp z with z|z
  ·show h.mu.same s b z
  ·show f b z
end
section
variable (X:Cx)
def wE(e:PK):TE:=λY H Q=>∀pins s,Inv X pins Y H s->PP (PQ X.prog X.w) X.A (eval e X.env) (EP X pins Y Q) X.xe s
def wT(e:PK):TT:=λY H Q=>∀pins s,Inv X pins Y H s->PP (PQ X.prog X.w) X.A (isTrue e X.env (eval e X.env)) (TP X pins Y Q) X.xe s
def wW(e:PK):TT:=λY H Q=>∀q pins s,Inv X pins Y H s->PP (PQ X.prog X.w) X.A (isTrue e X.env q) (TP X pins Y Q) X.xe s
def wA(es:List PK):TA:=λY H Q=>∀pos pins s,Inv X pins Y H s->PP (PQ X.prog X.w) X.A (spliced (backTo pos (PU es X.env))) (AP X pins Y Q) X.xe s
def wG(tg:PK):TG:=λv Y H Q=>∀pins s u,Inv X pins Y H s->RelV v u->PP (PQ X.prog X.w) X.A (assign tg X.env u) (λ_ s'=>∃Y' H',Inv X pins Y' H' s'/\Q Y' H') X.xe s
def wI(tg iter:PK):TI:=λY H R=>∀pins s,Inv X pins Y H s->PP (PQ X.prog X.w) X.A (eval iter X.env) (λv s1=>PP (PQ X.prog X.w) X.A (pyIter v) (JO X pins Y tg R) X.xe s1) X.xe s
end
section
variable {X:Cx}
theorem aw:PE X e (wE X e):=λa s Y H Q I h=>h a s I
theorem iS:PT X e (wT X e):=λa s Y H Q I h=>h a s I
theorem Al:PW X e (wW X e):=λb a s Y H Q I h=>h b a s I
theorem cX:PA X es (wA X es):=λb a s Y H Q I h=>h b a s I
theorem vi:PI X tg iter (wI X tg iter):=λa s Y H R I h=>h a s I
theorem vj:PG X tg (wG X tg):=λa s Y H v u Q I r h=>h a s u I r
theorem am{t:TE}(p:PE X e t)(h:t Y H Q):wE X e Y H Q:=λa s I=>p a s Y H Q I h
theorem xj{t:TT}(p:PT X e t)(h:t Y H Q):wT X e Y H Q:=λa s I=>p a s Y H Q I h
theorem mj{t:TT}(p:PW X e t)(h:t Y H Q):wW X e Y H Q:=λb a s I=>p b a s Y H Q I h
theorem kB{t:TA}(p:PA X es t)(h:t Y H Q):wA X es Y H Q:=λb a s I=>p b a s Y H Q I h
theorem kC{t:TI}(p:PI X tg iter t)(h:t Y H R):wI X tg iter Y H R:=λa s I=>p a s Y H R I h
theorem sN{t:TG}(p:PG X tg t)(h:t v Y H Q):wG X tg v Y H Q:=λa s u I r=>p a s Y H v u Q I r h
end
def SndE(X:Cx)(f:Ro->Option (Kd×D))(e:PK):Prop:=∀Z q d,f Z=PB (q,d)->∀g Y H Q,SE X.K g Z Y H->(∀v H',Same H H'->VR X.K g H H' q d v->Q v H')->wE X e Y H Q
def SndT(X:Cx)(f:Ro->Option Bool)(e:PK):Prop:=∀Z b,f Z=PB b->∀g Y H Q,SE X.K g Z Y H->(∀H',Same H H'->Q b H')->wT X e Y H Q
def kF(X:Cx)(f:Ro->Option (List (Kd×D)))(es:List PK):Prop:=∀Z kds,f Z=PB kds->∀g Y H Q,SE X.K g Z Y H->(∀vs H',Same H H'->VRs X.K g H H' kds vs->Q vs H')->wA X es Y H Q
end J
namespace G
open PyProof.Rows
noncomputable def jB(n:Nat)(lo st:Option Int):List Nat:=sliceRange (sliceBounds lo PC st n).1 (sliceBounds lo PC st n).2.1 (sliceBounds lo PC st n).2.2
def cw{α:Type}(xs:List α)(lo st:Option Int):List α:=(jB xs.length lo st).filterMap λi=>xs[i]?
theorem mn{xs:List V}{us:List PH}(r:Vals xs us):∀a:List Nat,Vals (a.filterMap λi=>xs[i]?) (a.filterMap λi=>us[i]?)
 |[]=>.nil
 |i::a=>by
  let b:=mn r a;by_cases h:i<xs.length
  ·let c:i<us.length:=by rw[<- r.length];show h
   obtain⟨u,e1,e2⟩:=r.get (MF h);rw[Nf,Nf,MF h,e1];show .cons e2 b
  ·rw[Nf,Nf,Np (by lia),Np (by rw[<- r.length];lia)];show b
section
variable {X:Cx}
def J9(te:TE)(tl:TO)(B:TE):TE:=λY H Q=>te Y H λx H1=>tl Y H1 λl H2=>B Y H2 λy q=>∃a xs k,x=.ref a/\y=.int k/\k≠0/\SqL X.K q a xs/\∀p,q p=PC->Q (.ref p) (upd q p (.lst (cw xs l (PB k))))
theorem DO{e st:PK}{lo:Option PK}{te j:TE}{tl:TO}{p2 pos:Pos}(S:PE X e te)(M:PO X lo tl)(n:PE X st j):PE X (.Subscript e (.Slice lo PC (PB st) p2) pos) (J9 (X:=X) te tl j):=by
 intro c s Y H Q I h;show Subscript_ (aY (S c s Y H _ I h) λv s1 f=>?_);obtain⟨x,Z,U,R,K⟩:=f;show wpAny_Slice (aY (M c s1 Y Z _ U K) λz s2 f=>?_);obtain⟨l,O,P,T,W⟩:=f;rw[evalPart_none];show PN ?_;show aY (n c s2 Y O _ P W) λC g f=>?_;obtain⟨y,D,N,V,L⟩:=f;obtain⟨a,u,k,rfl,rfl,hk,F,q⟩:=L;obtain⟨t,rfl⟩:=V;cases R;let m:Inv X c Y D { g with heap:=g.heap.push { cls:=.type "slice",data:=.fields #[z,.none,.int k t] } }:=N.kept (t':=g.toks) λb E q=>Mx _ q;obtain⟨d,r,B,f⟩:=m.list F;change PP (PQ X.prog X.w) X.A (subscriptTail e (.Slice lo PC (PB st) p2) (.ref a) (.ref g.heap.objs.size)) (EP X c Y Q) X.xe { g with heap:=g.heap.push { cls:=.type "slice",data:=.fields #[z,.none,.int k t] } };show tail_any (ops:=[.ref a,.ref g.heap.objs.size]) B.isList.typeIs slot_list_getitem.lookup ?_ (by with_unfolding_all rfl);show wpAny_getItem_list_slice B.isList (Heap.IsSliceOf.new ..) T .none (.int _ _) (by simpa using hk) ?_ (by rw[MB,<- r.length];show f)
 let e1:slicePick d.toArray l PC (PB k)=(cw d l (PB k)).toArray:=by
  unfold slicePick cw jB;simp
 rw[e1];let i:=slicePick_size_le d.toArray l PC (PB k);rw[e1,MB,MB] at i
 let p:Vals (cw u l (PB k)) (cw d l (PB k)):=by
  unfold cw;rw[r.length];show mn r _
 show⟨.ref _,_,m.laid (t':=g.toks) (o:=.lst (cw u l (PB k))) (λb E q=>Mx _ q) (Mz _) ?_,rfl,q _ (m.hok.fresh (Mz _))⟩;show⟨by rw[p.length];show Nb i (by rw[<- r.length];show f),_,0,p,ML _ rfl⟩
end
abbrev Kk:=L2.aN
instance:LawfulBEq Kk where
 eq_of_beq:=λ{a b} h=>by
  cases a<;>cases b
  ·let h:_==_:=h;show congrArg Sum.inl (eq_of_beq h)
  ·cases h
  ·cases h
  ·show congrArg Sum.inr (eq_of_beq (h))
 rfl:=λ{a}=>by
  cases a
  ·show beq_self_eq_true (α:=Int) _
  ·show beq_self_eq_true (α:=Str) _
end G
set_option exponentiation.threshold 5000
namespace J
mutual
noncomputable def py:D->PyData
 |.non=>.none
 |.bl b=>.bool b
 |.int i=>.int i
 |.str x=>.str x
 |.scr ns=>.list (ns.map .int)
 |.nd .lst ds=>.list (sO ds)
 |.nd .tup ds=>.tuple (sO ds)
 |.nd (.dic _ _) _=>.dict []
 |.nd (.obj _ _) _=>.none
noncomputable def sO:List D->List PyData
 |[]=>[]
 |d::ds=>py d::sO ds
end
mutual
noncomputable def d9:Nat->D->Bool
 |_,.non=>PD
 |_,.bl _=>PD
 |_,.int _=>PD
 |_,.str x=>PyData.strOk x
 |n,.scr _=>decide (1<=n)
 |n,.nd .lst ds=>decide (1<=n)&&g7 (n-1) ds
 |n,.nd .tup ds=>decide (1<=n)&&g7 (n-1) ds
 |_,.nd (.dic _ _) _=>PF
 |_,.nd (.obj _ _) _=>PF
noncomputable def g7:Nat->List D->Bool
 |_,[]=>PD
 |n,d::ds=>d9 n d&&g7 n ds
end
section
variable {X:Cx} {pins:List (PL×Obj)} {Y:L2.St} {H:Hp} {s:PM} {S:Pr}
theorem gw:∀{ns:List Int} {us:List PH},Vals (ns.map V.int) us->∃a,ReadsAll h us (ns.map .int) a
 |[],_,.nil=>⟨_,.nil⟩
 |n::ns,_,.cons r t=>by
  obtain⟨b,e⟩:=(show ∃t,_=Value.int n t from r);subst e;obtain⟨a,q⟩:=gw t;show⟨_,.cons (.int n b) q⟩
theorem jU:∀ns:List Int,PyData.canLayAll0 (ns.map .int)=PD/\PyData.depthAll (ns.map .int)=0
 |[]=>by simp[PyData.canLayAll0,PyData.depthAll]
 |n::ns=>by
  have:=jU ns;simp[PyData.canLayAll0,PyData.depthAll,PyData.canLay0,PyData.depth,this]
mutual
theorem de(I:Inv X pins Y H s):∀{d:D} {n:Nat} {v:V} {u:PH},d9 n d=PD->Rp X.K H S d v->RelV v u->(∃w,Reads s.heap u (py d) w)/\(py d).canLay0=PD/\(py d).depth<=n
 |.non,n,v,u,_,r,e=>by unfold Rp at r;subst r;cases e;simp only[py];show⟨⟨_,.none⟩,by simp[PyData.canLay0],by simp[PyData.depth]⟩
 |.bl b,n,v,u,_,r,e=>by unfold Rp at r;subst r;cases e;simp only[py];show⟨⟨_,.bool b⟩,by simp[PyData.canLay0],by simp[PyData.depth]⟩
 |.int i,n,v,u,_,r,e=>by unfold Rp at r;subst r;obtain⟨t,rfl⟩:=e;simp only[py];show⟨⟨_,.int i t⟩,by simp[PyData.canLay0],by simp[PyData.depth]⟩
 |.str x,n,v,u,h,r,e=>by unfold Rp at r;subst r;obtain⟨t,rfl⟩:=e;simp only[py];show⟨⟨_,.str x t⟩,by simpa[PyData.canLay0,d9] using h,by simp[PyData.depth]⟩
 |.scr ns,n,v,u,h,r,e=>by
  unfold Rp at r;obtain⟨a,rfl,r⟩:=r;cases e;let q:SqL X.K H a (ns.map V.int):=r.elim (λr=>.inl r.2) .inr;obtain⟨j,k,⟨o,m,p,l,C,f⟩,z⟩:=I.list q;obtain⟨w,c⟩:=gw (h:=s.heap) k;simp only[py];let F:1<=n:=by simpa[d9] using h
  show⟨⟨_,.list p l f (by simpa using c)⟩,by simpa[PyData.canLay0] using(jU ns).1,by simp[PyData.depth,(jU ns).2,F]⟩
 |.nd .lst ds,n,v,u,h,r,e=>by
  unfold Rp at r;obtain⟨a,o,A,rfl,L,g,q,y⟩:=r;cases e;let q:o=.lst A:=q;subst q;obtain⟨j,k,⟨o,m,p,l,C,f⟩,z⟩:=I.list (SqL.of g);simp only[d9,Mw,decide_eq_true_eq] at h;obtain⟨⟨w,c⟩,B,E⟩:=iT I h.2 y k;simp only[py];show⟨⟨_,.list p l f (by simpa using c)⟩,by simpa[PyData.canLay0] using B,by simp only[PyData.depth];lia⟩
 |.nd .tup ds,n,v,u,h,r,e=>by
  unfold Rp at r;obtain⟨a,o,A,rfl,L,g,q,y⟩:=r;cases e;let q:o=.tup A:=q;subst q;obtain⟨j,k,⟨o,p,l,m,f⟩,z⟩:=I.tuple (SqT.of g);simp only[d9,Mw,decide_eq_true_eq] at h;obtain⟨⟨w,c⟩,B,E⟩:=iT I h.2 y k;simp only[py];show⟨⟨_,.tuple p l f (by simpa using c)⟩,by simpa[PyData.canLay0] using B,by simp only[PyData.depth];lia⟩
 |.nd (.dic _ _) _,n,v,u,h,r,e=>by simp[d9] at h
 |.nd (.obj _ _) _,n,v,u,h,r,e=>by simp[d9] at h
theorem iT(I:Inv X pins Y H s):∀{ds:List D} {n:Nat} {xs:List V} {us:List PH},g7 n ds=PD->RpL X.K H S ds xs->Vals xs us->(∃a,ReadsAll s.heap us (sO ds) a)/\PyData.canLayAll0 (sO ds)=PD/\PyData.depthAll (sO ds)<=n
 |[],n,xs,us,_,r,e=>by rw[r.nil_inv] at e;cases e;simp only[sO];show⟨⟨_,.nil⟩,by simp[PyData.canLayAll0],by simp[PyData.depthAll]⟩
 |d::ds,n,xs,us,h,r,e=>by
  obtain⟨y,m,rfl,b,f⟩:=r.cons_inv;simp only[g7,Mw] at h
  cases e with
  |cons e1 e2=>
   obtain⟨⟨a,c⟩,g,k⟩:=de I h.1 b e1;obtain⟨⟨l,i⟩,j,o⟩:=iT I h.2 f e2;simp only[sO];show⟨⟨_,.cons c i⟩,by simp[PyData.canLayAll0,g,j],by simp only[PyData.depthAll];lia⟩
end
end
def gx(x y:D):Bool:=PyData.eqv (py x) (py y)
noncomputable def lim:Nat:=2^4000
noncomputable abbrev bQ:Ow:=.own [] .fz
def e7:Ow->Bool
 |.fz=>PD
 |.own es r=>es.all qS&&qS r
def dF:Kd->List D->Bool
 |.bo _ k,ds=>e7 k||Ak ds
 |_,_=>PD
abbrev KD:=Kd×D
def oX:P2->Int->Int->Option Int
 |.Add,i,j=>PB (i+j)
 |.Sub,i,j=>PB (i-j)
 |.Mult,i,j=>if i.natAbs<lim/\j.natAbs<lim then PB (i*j) else PC
 |.FloorDiv,i,j=>if 0<j/\j.natAbs<lim then PB (i / j) else PC
 |.Mod,i,j=>if 0<j then PB (i%j) else PC
 |.LShift,i,j=>if 0<=j/\j<=1000000/\i.natAbs<lim then PB (i*2^j.toNat) else PC
 |.Pow,i,j=>if 0<=j/\j<=1000000/\i.natAbs<2^64 then PB (i^j.toNat) else PC
 |.RShift,i,j=>if 0<=j then PB (i / 2^j.toNat) else PC
 |.BitAnd,i,j=>PB (Builtin.bitAnd i j)
 |.BitOr,i,j=>PB (Builtin.bitOr i j)
 |.BitXor,i,j=>PB (Builtin.bitXor i j)
 |_,_,_=>PC
def G7(op:P2)(k:Kd)(xs:List D)(y:KD):Option KD:=match op with
 |.Add=>(match y.2 with
  |.nd hd ys=>(match hd with
   |.lst=>if dF k xs=PD/\dF y.1 ys=PD/\xs.length+ys.length<=100000 then PB (.fr bQ,.lst (xs++ys)) else PC
   |_=>PC)
  |_=>PC)
 |.Mult=>(match y.2 with
  |.int n=>if dF k xs=PD/\0<=n/\n<=100000/\xs.length*n.toNat<=100000 then PB (.fr bQ,.lst (Nc n.toNat xs).flatten) else PC
  |_=>PC)
 |_=>PC
def G8(op:P2)(k:Kd)(xs:List D)(y:KD):Option KD:=match op with
 |.Add=>(match y.2 with
  |.nd hd ys=>(match hd with
   |.tup=>if dF k xs=PD/\dF y.1 ys=PD/\(xs.length+ys.length<=100000/\xs≠[]/\ys≠[]) then PB (.sh,.tup (xs++ys)) else PC
   |_=>PC)
  |_=>PC)
 |_=>PC
noncomputable def G9(op:P2)(i:Str)(y:D):Option KD:=PC
def ed(op:P2)(x y:KD):Option KD:=match x.2 with
 |.int i=>(match y.2 with|.int j=>(match oX op i j with|some z=>PB (.sh,.int z)|none=>PC)|_=>PC)
 |.nd hd xs=>(match hd with|.lst=>G7 op x.1 xs y|.tup=>G8 op x.1 xs y|_=>PC)
 |.str i=>G9 op i y.2
 |_=>PC
theorem fP(h:oX op i j=PB z):ed op (k,.int i) (k',.int j)=PB (.sh,.int z):=by
 change(match oX op i j with|some z=>PB (Kd.sh,D.int z)|none=>PC)=_
 rw[h]
theorem vm{p:Prop}[Decidable p]{α:Type}{a b:α}(h:(if p then PB a else PC)=PB b):p/\b=a:=by
 by_cases c:p
 ·rw[if_pos c] at h;cases h;show⟨c,rfl⟩
 ·rw[if_neg c] at h;cases h
theorem aL{n:Nat}(h:n<=100000):n<=sizeLine:=Nb h (by decide)
section
variable {K:Mu} {H H' H0:Hp} {S:Pr} {g:Gh}
theorem Rp.int(h:Rp K H S (.int i) v):v=.int i:=by unfold Rp at h;show h
theorem Rp.bl(h:Rp K H S (.bl i) v):v=.bl i:=by unfold Rp at h;show h
theorem Rp.str(h:Rp K H S (.str i) v):v=.str i:=by unfold Rp at h;show h
theorem Rp.non(h:Rp K H S .non v):v=.non:=by unfold Rp at h;show h
theorem Rp.nd(h:Rp K H S (.nd hd ds) v):∃a o xs,v=.ref a/\¬S a/\H a=PB o/\cW K o hd xs/\RpL K H S ds xs:=by unfold Rp at h;show h
theorem Rp.scr{ns:List Int}(h:Rp K H S (.scr ns) v):∃a,v=.ref a/\SqL K H a (ns.map V.int):=by
 unfold Rp at h;obtain⟨a,e,h⟩:=h;show⟨a,e,h.elim (λh=>.inl h.2) .inr⟩
theorem oY:VR K g H0 H .sh (.int i) (.int i):=⟨λ_=>False,λ_ z=>z.elim,λ_ z=>z,by unfold Rp;rfl⟩
theorem B5:VR K g H0 H .sh (.bl i) (.bl i):=⟨λ_=>False,λ_ z=>z.elim,λ_ z=>z,by unfold Rp;rfl⟩
theorem Ha:VR K g H0 H .sh (.str i) (.str i):=⟨λ_=>False,λ_ z=>z.elim,λ_ z=>z,by unfold Rp;rfl⟩
theorem DP:VR K g H0 H .sh .non .non:=⟨λ_=>False,λ_ z=>z.elim,λ_ z=>z,by unfold Rp;rfl⟩
theorem FY(h:Rp K H (Sg g) d v):VR K g H0 H .sh d v:=⟨λ_=>False,λ_ z=>z.elim,λ_ z=>z,h.weak λb z=>z.elim id λz=>z.elim⟩
theorem ae(a:H p=PC):Same H (upd H p o):=λb u q=>by rw[ag (aE q a)];show q
theorem TrL.ofFz:∀{ds:List D} {xs:List V},RpL K H S ds xs->TrL K H S ds [] .fz xs λ_=>False
 |[],_,h=>by unfold TrL;show⟨h.nil_inv,λ_ z=>z⟩
 |d::ds,_,h=>by
  obtain⟨y,a,rfl,r,t⟩:=h.cons_inv;unfold TrL;show⟨y,a,_,_,rfl,λb=>⟨.inl,λz=>z.elim id id⟩,λ_ z=>z.elim,Tr.fz r,TrL.ofFz t⟩
theorem lJ(a:H p=PC)(r:RpL K H (Sg g) ds xs):VR K g H (upd H p (.lst xs)) (.fr bQ) (.lst ds) (.ref p):=by
 show⟨λb=>b=p,λb z=>z▸a,?_⟩;change Tr K _ _ _ _ _ _;unfold Tr
 show⟨p,_,xs,λ_=>False,rfl,ak,rfl,λ_ z=>z,(λh=>nomatch h),λb=>⟨λz=>.inl ⟨rfl,z⟩,λz=>z.elim (λz=>z.2) λz=>z.elim⟩,.ofFz (r.go λb o n e=>⟨ae a b o e,λz=>z.elim n λz=>?_⟩)⟩
 subst z;rw[a] at e;cases e
theorem xk(m:MuOk H (Sg g))(a:H p=PC)(r:RpL K H (Sg g) ds xs):VR K g H (upd H p (.tup xs)) .sh (.tup ds) (.ref p):=by
 show FY ?_;unfold Rp;show⟨p,_,xs,rfl,λz=>?_,ak,rfl,r.same (ae a)⟩;obtain⟨o,e,_⟩:=m p z;rw[a] at e;cases e
theorem sP{es:List Ow}(h:e7 (.own es r)=PD):(∀e∈es,e=.fz)/\r=.fz:=by
 simp only[e7,Mw,NI] at h;show⟨λe a=>jT (h.1 e a),jT h.2⟩
theorem TrL.flat:∀{ds:List D} {es:List Ow} {xs:List V} {F:Pr},(∀e∈es,e=.fz)->TrL K H S ds es .fz xs F->(∀b,¬F b)/\RpL K H S ds xs
 |[],_,_,_,_,h=>by unfold TrL at h;show⟨h.2,by rw[h.1];show .nil⟩
 |d::ds,es,_,_,he,h=>by
  unfold TrL at h;obtain⟨y,p,o,m,rfl,g,n,c,k⟩:=h
  let e:es.headD .fz=.fz:=by
   cases es with
   |nil=>rfl
   |cons a r=>show he a (.head _)
  rw[e] at c;obtain⟨j,f⟩:=c.fz_inv
  obtain⟨l,i⟩:=TrL.flat (λe q=>he e (by cases es with|nil=>cases q|cons a r=>show .tail _ q)) k
  show⟨λb z=>((g b).mp z).elim (j b) (l b),.cons f i⟩
theorem VR.items(c:dF kd ds=PD)(m:MuOk H0 (Sg g))(s:Same H0 H)(h:VR K g H0 H kd (.nd hd ds) v):∃a o xs,v=.ref a/\H a=PB o/\cW K o hd xs/\RpL K H (Sg g) ds xs:=by
 let ns:∀{j:Kd},qR j (.nd hd ds)=PD->VR K g H0 H j (.nd hd ds) v->∃a o xs,v=.ref a/\H a=PB o/\cW K o hd xs/\RpL K H (Sg g) ds xs:=λc h=>by
  obtain⟨a,o,xs,e,_,d,f,l⟩:=(h.sh c m s).nd;show⟨a,o,xs,e,d,f,l⟩
 cases kd with
 |sh=>show ns rfl h
 |fr k=>show ns rfl h
 |bo i k=>
  simp only[dF,NE] at c;rcases c with c|c
  ·obtain⟨F,C,x,A,q,n⟩:=h
   cases k with
   |fz=>
    obtain⟨_,r⟩:=n.fz_inv;obtain⟨a,o,xs,e,_,d,f,l⟩:=r.nd;show⟨a,o,xs,e,d,f,l.weak λb z=>.inl z⟩
   |own B r=>
    obtain⟨p,rfl⟩:=sP c;unfold Tr at n;obtain⟨a,o,xs,y,e,d,f,w,D,u,t⟩:=n;show⟨a,o,xs,e,d,f,(t.flat p).2.weak λb z=>.inl z⟩
  ·obtain⟨a,o,xs,e,_,d,f,l⟩:=h.rd.nd;show⟨a,o,xs,e,d,f,l.im (m.same s) c⟩
end
def Ka(K:Mu)(op:P2):R2:=λx y H Q=>∃g H0 kx q B d,MuOk H0 (Sg g)/\Same H0 H/\VR K g H0 H kx.1 kx.2 x/\VR K g H0 H q.1 q.2 y/\ed op kx q=PB (B,d)/\∀v H',Same H H'->VR K g H H' B d v->Q v H'
theorem Hb{i j:Int}(h:i.natAbs<lim/\j.natAbs<lim):IntMulOk i j:=
 IntMulOk.of_bits (Nb (PyProof.Rows.intBits_le (k:=4000) h.1) (by decide)) (Nb (PyProof.Rows.intBits_le (k:=4000) h.2) (by decide))
theorem Am{j:Int}(h:j.natAbs<lim):j.natAbs.log2<9000:=by
 by_cases z:j.natAbs=0
 ·rw[z];decide
 ·show MG ((Nat.log2_lt z).mpr h) (by decide)
theorem Ao:gq X (binaryOp .Mult) (rI (λi j=>i.natAbs<lim/\j.natAbs<lim) λi j=>.int (i*j)):=FW λ_ _ _ _ _ _ _ a q=>PyProof.Rows.mul_int q (Hb a)
theorem xm:gq X (binaryOp .FloorDiv) (rI (λi j=>0<j/\j.natAbs<lim) λi j=>.int (i / j)):=FW λi j _ _ _ _ _ a q=>by
 let b:(0:Int)<j:=a.1;show PyProof.Rows.floordiv_int (by lia) (by rw[OK i (by lia)];show q) (.inl (PyProof.noPylong_of_log2 (Am a.2)))
theorem Ap:gq X (binaryOp .LShift) (rI (λi j=>0<=j/\j<=1000000/\i.natAbs<lim) λi j=>.int (i*2^j.toNat)):=FW λi j _ _ _ _ _ a q=>by
 let b:=PyProof.Rows.intBits_le (k:=4000) a.2.2;show PyProof.Rows.lshift_int a.1 (by have:=a.2.1;lia) q
theorem xn{X:Cx}(op:P2):gq X (binaryOp op) (Ka X.K op):=by
 intro c s Y H x y v u Q I l r h;obtain⟨g,H0,⟨kx,dx⟩,⟨ky,P⟩,R,d,m,C,N,F,k,q⟩:=h;dsimp only at N F
 cases dx with
 |int i=>cases P with
  |int j=>
   obtain⟨rfl,rfl⟩:x=.int i/\y=.int j:=⟨N.rd.int,F.rd.int⟩
   let k:(match oX op i j with|some z=>PB (Kd.sh,D.int z)|none=>PC)=PB (R,d):=k
   cases f:oX op i j with
   |none=>rw[f] at k;cases k
   |some z=>
    rw[f] at k;cases k;let q:Q (.int z) H:=q _ H (Same.refl H) oY
    cases op with
    |Add=>cases f;show Dr c s Y H _ _ v u Q I l r ⟨_,_,rfl,rfl,q⟩
    |Sub=>cases f;show Ds c s Y H _ _ v u Q I l r ⟨_,_,rfl,rfl,q⟩
    |Mult=>obtain⟨t,rfl⟩:=vm (show(if _ then PB (i*j) else PC)=PB z from f);show Ao c s Y H _ _ v u Q I l r ⟨_,_,rfl,rfl,t,q⟩
    |FloorDiv=>obtain⟨t,rfl⟩:=vm (show(if _ then PB (i / j) else PC)=PB z from f);show xm c s Y H _ _ v u Q I l r ⟨_,_,rfl,rfl,t,q⟩
    |Mod=>obtain⟨t,rfl⟩:=vm (show(if _ then PB (i%j) else PC)=PB z from f);show Dt c s Y H _ _ v u Q I l r ⟨_,_,rfl,rfl,t,q⟩
    |LShift=>obtain⟨t,rfl⟩:=vm (show(if _ then PB (i*2^j.toNat) else PC)=PB z from f);show Ap c s Y H _ _ v u Q I l r ⟨_,_,rfl,rfl,t,q⟩
    |Pow=>obtain⟨t,rfl⟩:=vm (show(if _ then PB (i^j.toNat) else PC)=PB z from f);show Du c s Y H _ _ v u Q I l r ⟨_,_,rfl,rfl,t,q⟩
    |RShift=>obtain⟨t,rfl⟩:=vm (show(if _ then PB (i / 2^j.toNat) else PC)=PB z from f);show Dv c s Y H _ _ v u Q I l r ⟨_,_,rfl,rfl,t,q⟩
    |BitAnd=>cases f;show Dw c s Y H _ _ v u Q I l r ⟨_,_,rfl,rfl,q⟩
    |BitOr=>cases f;show GD c s Y H _ _ v u Q I l r ⟨_,_,rfl,rfl,q⟩
    |BitXor=>cases f;show Dx c s Y H _ _ v u Q I l r ⟨_,_,rfl,rfl,q⟩
    |_=>cases f
  |_=>cases k
 |nd hd W=>cases hd with
  |lst=>cases op with
   |Add=>cases P with
    |nd B Z=>cases B with
     |lst=>
      obtain⟨f,e⟩:=vm (show(if _ then PB (Kd.fr bQ,D.lst (W++Z)) else PC)=PB (R,d) from k)
      cases e;obtain⟨a,o,O,rfl,L,M,w⟩:=N.items f.1 m C;obtain⟨b,S,T,rfl,U,V,E⟩:=F.items f.2.1 m C;cases(show o=_ from M);cases(show S=_ from V);show DE c s Y H _ _ v u Q I l r ⟨a,b,O,T,rfl,rfl,L,U,by rw[w.len,E.len];show aL f.2.2,λp A=>q _ _ (ae A) (lJ A (w.append E))⟩
     |_=>cases k
    |_=>cases k
   |Mult=>cases P with
    |int n=>
     obtain⟨f,e⟩:=vm (show(if _ then PB (Kd.fr bQ,D.lst (Nc n.toNat W).flatten) else PC)=PB (R,d) from k)
     cases e;obtain⟨a,o,O,rfl,L,M,w⟩:=N.items f.1 m C;cases(show o=_ from M);obtain rfl:=F.rd.int;show DF c s Y H _ _ v u Q I l r ⟨a,_,O,rfl,rfl,L,by lia,by lia,by rw[w.len];show aL f.2.2.2,λp A=>q _ _ (ae A) (lJ A (w.rep _))⟩
    |_=>cases k
   |_=>cases k
  |tup=>cases op with
   |Add=>cases P with
    |nd B Z=>cases B with
     |tup=>
      obtain⟨f,e⟩:=vm (show(if _ then PB (Kd.sh,D.tup (W++Z)) else PC)=PB (R,d) from k)
      cases e;obtain⟨a,o,O,rfl,L,M,w⟩:=N.items f.1 m C;obtain⟨b,S,T,rfl,U,V,E⟩:=F.items f.2.1 m C;cases(show o=_ from M);cases(show S=_ from V);show Aa c s Y H _ _ v u Q I l r ⟨a,b,O,T,rfl,rfl,.of L,.of U,λe=>f.2.2.2.1 (NG.mp (by rw[<- w.len,e];rfl)),by rw[w.len,E.len];show aL f.2.2.1,λe=>absurd (NG.mp (by rw[<- E.len,e];rfl)) f.2.2.2.2,λ_ p A=>q _ _ (ae A) (xk (m.same C) A (w.append E))⟩
     |_=>cases k
    |_=>cases k
   |_=>cases k
  |_=>cases k
 |str i=>cases k
 |_=>cases k
end J
namespace G
open PySem PySem.Spec PySem.Calls PyProof.Rows L2
noncomputable def Aq:List Int->List Int->Bool
 |[],[]=>PF
 |[],_::_=>PD
 |_::_,[]=>PF
 |a::r,b::t=>if a=b then Aq r t else decide (a<b)
theorem sQ{xs:List Int}{a:List PH}(h:Vals (xs.map V.int) a){i:Nat}(hi:i<xs.length):∃t,a[i]?=PB (.int xs[i] t):=by
 obtain⟨u,e,r⟩:=h.get (by rw[MA,MF hi];rfl);obtain⟨t,rfl⟩:=r;show⟨t,e⟩
theorem vn(l b:PL)(c a:List PH)(n O:Nat)(N q:Option PL)(L v:Array (Option PH))(xs ys:List Int)(z:Vals (xs.map V.int) c)(y:Vals (ys.map V.int) a)(k:Nat) :
  ∀i:Nat,c.length-i=k->i<=c.length->i<=a.length->Meets (Builtin.«list.__eq__.loop» ⟨[.ref l,.ref b,Qe i,Qe 0],[]⟩)
   (λA R s=>s.heap.get? l=PB { cls:=.type "list",dict:=N,data:=.seq c.toArray n,slots:=L }/\s.heap.get? b=PB { cls:=.type "list",dict:=q,data:=.seq a.toArray O,slots:=v }/\R (.ok (.ret (.bool (Aq (xs.drop i) (ys.drop i))))) s):=by
 let e1:c.length=xs.length:=by rw[<- z.length];simp
 let e2:a.length=ys.length:=by rw[<- y.length];simp
 induction k with
 |zero=>
  intro i hk M r f w A R s h;obtain⟨F,g,d,P,I⟩:=s;obtain⟨o,m,h⟩:=h
  wp_walk using wpAny_loadPart' o,wpAny_loadPart' m
  let e:c.toArray[((i:Nat):Int).toNat]?=PC:=by simp;lia
  rw[e]
  wp_walk using wpAny_loadPart' o,wpAny_loadPart' m
  change R (.ok (.ret (.bool (decide (c.toArray.size<a.toArray.size))))) _;let Q:xs.drop i=[]:=On (by lia);rw[Q] at h;by_cases x:i<a.length
  ·rw[Ni (by lia:i<ys.length)] at h;rw[decide_eq_true (by simp;lia)];show h
  ·rw[On (by lia:ys.length<=i)] at h;rw[decide_eq_false (by simp;lia)];show h
 |succ k D=>
  intro i hk M r f w A R s h;obtain⟨F,g,d,P,I⟩:=s;obtain⟨o,m,h⟩:=h;let B:i<xs.length:=by lia
  obtain⟨t,K⟩:=sQ z B;let e:c.toArray[((i:Nat):Int).toNat]?=PB (.int xs[i] t):=by simpa using K
  rw[Ni B] at h;by_cases x:i<a.length
  ·let C:i<ys.length:=by lia
   obtain⟨u,E⟩:=sQ y C;let j:a.toArray[((i:Nat):Int).toNat]?=PB (.int ys[i] u):=by simpa using E
   let H:((i:Int)+1)=((i+1:Nat):Int):=by push_cast;rfl
   rw[Ni C] at h
   wp_walk using wpAny_loadPart' o,wpAny_loadPart' m
   rw[e,j];show PJ (PySem.SeqAt.EqAt.int_int _ _ _ _ f w _ _ ?_);by_cases p:xs[i]=ys[i]
   ·rw[Aq,if_pos p] at h;rw[beq_iff_eq.mpr p]
    wp_walk
    rw[H]
    show⟨plainId_quiet PySem.MeetsSeq3.plain_eq_loop _,codeAny_builtin PySem.MeetsSeq3.entry_eq_loop (by
     rw[Around.under_plainId PySem.MeetsSeq3.plain_eq_loop _];show D (i+1) (by lia) (by lia) (by lia) f w A R _ ⟨o,m,h⟩)⟩
   ·rw[Aq,if_neg p] at h;rw[beq_eq_false_iff_ne.mpr p]
    wp_walk using wpAny_loadPart' o,wpAny_loadPart' m
    rw[e,j];show PJ (PyProof.Rows.lt_int ?_)
    wp_walk
    show h
  ·let j:a.toArray[((i:Nat):Int).toNat]?=PC:=by simp;lia
   wp_walk using wpAny_loadPart' o,wpAny_loadPart' m
   rw[e,j]
   wp_walk using wpAny_loadPart' o,wpAny_loadPart' m
   change R (.ok (.ret (.bool (decide (c.toArray.size<a.toArray.size))))) _;rw[On (by lia:ys.length<=i)] at h;rw[decide_eq_false (by simp;lia)];show h
theorem vo(l b:PL)(c a:List PH)(n o:Nat)(m e:Option PL)(p f:Array (Option PH))(xs ys:List Int)(r:Vals (xs.map V.int) c)(q:Vals (ys.map V.int) a):Meets (Builtin.«list.__lt__» ⟨[.ref l,.ref b],[]⟩)
   (λA R s=>s.heap.get? l=PB { cls:=.type "list",dict:=m,data:=.seq c.toArray n,slots:=p }/\s.heap.get? b=PB { cls:=.type "list",dict:=e,data:=.seq a.toArray o,slots:=f }/\R (.ok (.ret (.bool (Aq xs ys)))) s):=by
 intro i w A R s h;obtain⟨v,g,d,u,x⟩:=s;obtain⟨k,j,h⟩:=h;let t:=PySem.AutoSeq1.sub_list_list
 wp_walk using wpAny_loadPart' k,wpAny_loadPart' j
 show⟨plainId_quiet PySem.MeetsSeq3.plain_eq_loop _,codeAny_builtin PySem.MeetsSeq3.entry_eq_loop (by
  rw[Around.under_plainId PySem.MeetsSeq3.plain_eq_loop _];show vn l b c a n o m e p f xs ys r q _ 0 rfl (M3 _) (M3 _) i w A R _ ⟨k,j,h⟩)⟩
theorem DQ{X:Cx}:gq X (compareOp .Lt) (λx y H Q=>∃a b xs ys,x=.ref a/\y=.ref b/\SqL X.K H a (xs.map V.int)/\SqL X.K H b (ys.map V.int)/\X.A.units<cLine/\Q (.bl (Aq xs ys)) H):=by
 intro p s Y H x y v u Q I C L h;obtain⟨a,b,xs,ys,rfl,rfl,R,O,D,q⟩:=h;cases(C);cases(L);obtain⟨j,B,N,U⟩:=I.list R;obtain⟨f,l,m,T⟩:=I.list O;obtain⟨⟨P,E,t,S⟩,z,r,n,w⟩:=N.isList;obtain⟨⟨o,g,i,k⟩,c,e,M,d⟩:=m.isList;simp only at r w e d;subst r w e d;show PySem.richCompare_meets_room (op:=.Lt) ⟨_,z,rfl⟩ ⟨_,c,rfl⟩ PySem.F.slot_list_lt PySem.F.entry_list_lt (PySem.F.args_list_lt_2 _ _) (vo a b j f n M E g S k xs ys B l)
  ⟨z,c,show Value.bool (Aq xs ys)≠Value.notImplemented/\_ from⟨(λx=>nomatch x),⟨.bl (Aq xs ys),H,I,rfl,q⟩⟩⟩ D
end G
namespace J
noncomputable def e9:D->Option aN
 |.int i=>PB (.inl i)
 |.str x=>PB (.inr x)
 |_=>PC
def iU:List D->Option (List aN)
 |[]=>PB []
 |d::ds=>match e9 d,iU ds with
  |some k,PB ks=>PB (k::ks)
  |_,_=>PC
def DR:D->Option (aN ⊕ List aN)
 |.nd .tup ds=>(iU ds).map .inr
 |d=>(e9 d).map .inl
def oZ:List D->Option (List (aN ⊕ List aN))
 |[]=>PB []
 |d::ds=>match DR d,oZ ds with
  |some k,PB ks=>PB (k::ks)
  |_,_=>PC
noncomputable def DS:Nat->List (aN ⊕ List aN)->Bool
 |_,[]=>PD
 |m,.inl _::r=>m%2==0&&DS (m / 2) r
 |m,.inr _::r=>m%2==1&&DS (m / 2) r
def iV:D->Option DK
 |.nd .tup ds=>(oZ ds).map .inr
 |d=>(e9 d).map .inl
noncomputable def aR(ks:List DK)(k:DK):Option Nat:=ks.findIdx? λx=>decide (x=k)
section
variable {K:Mu} {H:Hp} {S:Pr}
theorem nh(h:e9 d=PB k)(r:Rp K H S d v):v=kV k:=by
 cases d<;>simp only[e9] at h<;>first|(cases h;done)|(cases h;first|show r.int|show r.str)
theorem o3:∀{ds:List D} {ks:List aN} {vs:List V},iU ds=PB ks->RpL K H S ds vs->vs=ks.map kV
 |[],ks,vs,h,r=>by cases h;show r.nil_inv
 |d::ds,ks,vs,h,r=>by
  obtain⟨y,e,rfl,a,c⟩:=r.cons_inv;unfold iU at h;split at h
  ·ext k b e1 e2;cases h;rw[nh e1 a,o3 e2 c];rfl
  ·cases h
theorem nj:∀{ds:List D} {ks:List (aN ⊕ List aN)} {vs:List V} {m:Nat},oZ ds=PB ks->RpL K H S ds vs->DS m ks=PD->TkIts H m ks vs
 |[],ks,vs,m,h,r,hm=>by cases h;show r.nil_inv
 |d::ds,ks,vs,m,h,r,hm=>by
  obtain⟨y,f,rfl,b,c⟩:=r.cons_inv;unfold oZ at h;split at h
  ·ext k j e1 e2;cases h
   cases k with
   |inl k=>
    simp only[DS,Mw,beq_iff_eq] at hm;show⟨f,?_,hm.1,nj e2 c hm.2⟩
    have:e9 d=PB k:=by
     unfold DR at e1;split at e1
     ·cases e:iU _<;>rw[e] at e1<;>cases e1
     ·cases e:e9 d with
      |none=>rw[e] at e1;cases e1
      |some z=>rw[e] at e1;cases e1;rfl
    rw[nh this b]
   |inr k=>
    simp only[DS,Mw,beq_iff_eq] at hm;unfold DR at e1;split at e1
    ·ext l
     cases e:iU l with
     |none=>rw[e] at e1;cases e1
     |some z=>
      rw[e] at e1;cases e1;obtain⟨a,o,n,rfl,_,g,q,i⟩:=b.nd;cases(show o=_ from q);rw[o3 e i] at g;show⟨a,f,rfl,hm.1,g,nj e2 c hm.2⟩
    ·cases e:e9 d<;>rw[e] at e1<;>cases e1
  ·cases h
theorem nk(h:iV d=PB k)(r:Rp K H S d v):(∃x,k=.inl x/\v=kV x)\/∃xs b,k=.inr xs/\v=.ref b/\∀m,DS m xs=PD->TkAt H m xs b:=by
 let f:∀{d:D},(e9 d).map Sum.inl=PB k->Rp K H S d v->(∃x,k=.inl x/\v=kV x):=λ{d} h r=>by
  cases e:e9 d with
  |none=>rw[e] at h;cases h
  |some x=>rw[e] at h;cases h;show⟨x,rfl,nh e r⟩
 unfold iV at h;split at h
 ·ext l
  cases e:oZ l with
  |none=>rw[e] at h;cases h
  |some i=>
   rw[e] at h;cases h;obtain⟨a,o,xs,rfl,_,g,q,c⟩:=r.nd;cases(show o=_ from q);show .inr ⟨i,a,rfl,rfl,λm j=>⟨xs,g,nj e c j⟩⟩
 ·show .inl (f h r)
end
theorem iW{κ:Type}[DecidableEq κ]:∀(kvs:List (κ×V)) (k:κ),gY kvs k=(kvs.findIdx? λkv=>decide (kv.1=k)).bind λi=>(kvs.map (·.2))[i]?
 |[],k=>rfl
 |(a,b)::r,k=>by
  let c:=iW r k;unfold gY at c⊢;rw[NO,Ng];by_cases h:a=k
  ·simp[h]
  ·simp only[h,decide_false];rw[c]
   cases e:r.findIdx? λkv=>decide (kv.1=k) with
   |none=>simp
   |some i=>simp
def g8(t:Nat):DK->Bool
 |.inl _=>t==0
 |.inr xs=>(match t with|0=>PF|m+1=>DS m xs)
theorem jV{K:Mu}{H:Hp}{S:Pr}{a:PL}{o:HO}{t:Nat}{ks:List DK}{xs:List V}{d:D}{k:DK}{v:V}(g:H a=PB o)(q:cW K o (.dic t ks) xs)(h:iV d=PB k)(r:Rp K H S d v)(hk:g8 t k=PD) :
  DGet H a v ((aR ks k).bind λi=>xs[i]?):=by
 rcases q with⟨rfl,c,rfl,e1,e2⟩|⟨m,rfl,c,l,rfl,e1,e2⟩
 ·rcases nk h r with⟨x,rfl,rfl⟩|⟨e,b,rfl,rfl,j⟩
  ·have:=DGet.k (k:=x) g;rw[iW] at this
   let e3:aR ks (.inl x)=c.findIdx? λf=>decide (f.1=x):=by
    unfold aR;rw[e1,N4];congr 1;funext p;simp[Sum.inl.injEq]
   rw[e3,e2];show this
  ·cases hk
 ·rcases nk h r with⟨x,rfl,rfl⟩|⟨e,b,rfl,rfl,j⟩
  ·cases hk
  ·have:=DGet.t (k:=e) g (j m hk);rw[iW] at this
   let e3:aR ks (.inr e)=c.findIdx? λf=>decide (f.1=e):=by
    unfold aR;rw[e1,N4];congr 1;funext p;simp[Sum.inr.injEq]
   rw[e3,e2];show this
theorem Ar{ks:List DK}{i:Nat}(h:aR ks k=PB i):i<ks.length:=by
 unfold aR at h;show(List.findIdx?_eq_some_iff_findIdx_eq.mp h).1
theorem sR{ks:List DK}{xs:List V}(q:cW K o (.dic t ks) xs):ks.length=xs.length:=by
 rcases q with⟨rfl,a,rfl,e1,e2⟩|⟨m,rfl,a,b,rfl,e1,e2⟩<;>rw[e1,e2,My,My]
theorem jC{ks:List DK}{xs:List V}(a:ks.length=xs.length):((aR ks k).bind λi=>xs[i]?).isSome=(aR ks k).isSome:=by
 cases e:aR ks k with
 |none=>rfl
 |some i=>
  have:=Ar e;rw[Nl,MF (by lia)];rfl
noncomputable def xo:D->Bool
 |.non=>PD
 |_=>PF
noncomputable def DT(b:Bool):D->Bool
 |.bl c=>c==b
 |_=>PF
def Mt:D->Bool
 |.nd (.dic 0 []) _=>PD
 |_=>PF
noncomputable def toInts:List D->Option (List Int)
 |[]=>PB []
 |.int b::r=>(toInts r).map (b::·)
 |_=>PC
theorem iX:∀{ds:List D} {bs:List Int},toInts ds=PB bs->ds=bs.map D.int
 |[],bs,h=>by cases h;rfl
 |d::r,bs,h=>by
  cases d<;>simp only[toInts] at h<;>try cases h
  ext b
  cases e:toInts r with
  |none=>rw[e] at h;cases h
  |some a=>rw[e] at h;cases h;rw[iX e];rfl
theorem RpL.toInts:∀{ns:List Int} {vs:List V},RpL K H S (ns.map D.int) vs->vs=ns.map V.int
 |[],_,h=>h.nil_inv
 |b::bs,_,h=>by
  obtain⟨y,a,rfl,r,t⟩:=h.cons_inv;rw[r.int,RpL.toInts t];rfl
def Kb(x y:D):Option Bool:=match x with
 |.int i=>(match y with|.int j=>PB (decide (i<j))|_=>PC)
 |.nd .lst as=>(match y with
  |.nd .lst bs=>(match toInts as with
   |some xs=>(match toInts bs with
    |some ys=>PB (G.Aq xs ys)
    |none=>PC)
   |none=>PC)
  |_=>PC)
 |_=>PC
def cY(op:Qd)(x y:D):Option Bool:=
 match op with
 |.Lt=>Kb x y
 |.LtE=>(match x,y with|.int i,.int j=>PB (decide (i<=j))|_,_=>PC)
 |.Gt=>(match x,y with|.int i,.int j=>PB (decide (j<i))|_,_=>PC)
 |.GtE=>(match x,y with|.int i,.int j=>PB (decide (j<=i))|_,_=>PC)
 |.Eq=>if d9 90 x=PD/\d9 90 y=PD then PB (gx x y) else PC
 |.NotEq=>if d9 90 x=PD/\d9 90 y=PD then PB (!gx x y) else PC
 |.In=>(match y with
  |.nd .lst ds=>if d9 90 x=PD/\g7 90 ds=PD then PB (ds.any λz=>gx z x) else PC
  |.nd (.dic t ks) _=>(match iV x with|some k=>if g8 t k=PD then PB (aR ks k).isSome else PC|none=>PC)
  |_=>PC)
 |.NotIn=>(match y with
  |.nd (.dic t ks) _=>(match iV x with|some k=>if g8 t k=PD then PB (!(aR ks k).isSome) else PC|none=>PC)
  |_=>PC)
 |.Is=>(match y with
  |.non=>PB (xo x)
  |.bl b=>PB (DT b x)
  |_=>PC)
 |.IsNot=>(match y with
  |.bl b=>PB (!DT b x)
  |_=>PC)
abbrev Nv:Pr:=λ_=>False
def DU(K:Mu)(op:Qd):R2:=λx y H Q=>∃dx q b,Rp K H Nv dx x/\Rp K H Nv q y/\cY op dx q=PB b/\Q (.bl b) H
theorem sT(x:D):∀ds:List D,((sO ds).any λz=>PyData.eqv z (py x))=ds.any λz=>gx z x
 |[]=>by simp[sO]
 |d::ds=>by simp only[sO,OL,sT x ds];rfl
theorem nq{X:Cx}(hu:X.A.units+100<cLine)(op:Qd):gq X (compareOp op) (DU X.K op):=by
 intro m s Y H x y v u Q I l z h;obtain⟨E,N,b,f,r,d,q⟩:=h;let hc:X.A.units+1<cLine:=by lia
 let w:∀{C:Bool},C=b->EP X m Y Q (.bool C) s:=λe=>⟨.bl b,H,I,by rw[e];rfl,q⟩
 let O:∀(C:Bool),N=.bl C->plainIs v u=PD/\(v==u)=DT C E:=λC e=>by
  subst e;let ey:=r.bl;subst ey;cases z
  cases E with
  |non=>have e:=f.non;subst e;cases l;show⟨rfl,rfl⟩
  |bl c=>have e:=f.bl;subst e;cases l;show⟨rfl,by cases c<;>cases C<;>rfl⟩
  |int i=>have e:=f.int;subst e;obtain⟨t,rfl⟩:=l;show⟨rfl,rfl⟩
  |str i=>have e:=f.str;subst e;obtain⟨t,rfl⟩:=l;show⟨rfl,rfl⟩
  |scr ns=>obtain⟨a,rfl,_⟩:=f.scr;cases l;show⟨rfl,rfl⟩
  |nd hd U=>obtain⟨a,o,L,rfl,_⟩:=f.nd;cases l;show⟨rfl,rfl⟩
 let R:N=.non->plainIs v u=PD/\(v==u)=xo E:=λe=>by
  subst e;let ey:=r.non;subst ey;cases z
  cases E with
  |non=>have e:=f.non;subst e;cases l;show⟨rfl,rfl⟩
  |bl c=>have e:=f.bl;subst e;cases l;show⟨rfl,by cases c<;>rfl⟩
  |int i=>have e:=f.int;subst e;obtain⟨t,rfl⟩:=l;show⟨rfl,rfl⟩
  |str i=>have e:=f.str;subst e;obtain⟨t,rfl⟩:=l;show⟨rfl,rfl⟩
  |scr ns=>obtain⟨a,rfl,_⟩:=f.scr;cases l;show⟨rfl,rfl⟩
  |nd hd U=>obtain⟨a,o,L,rfl,_⟩:=f.nd;cases l;show⟨rfl,rfl⟩
 cases op with
 |Lt=>
  replace d:Kb E N=PB b:=d
  cases E with
  |int i=>cases N with
   |int j=>cases d;obtain rfl:=f.int;obtain rfl:=r.int;show GE m s Y H _ _ v u Q I l z ⟨_,_,rfl,rfl,q⟩
   |_=>cases d
  |nd hd U=>cases hd with
   |lst=>cases N with
    |nd V he=>cases V with
     |lst=>
      dsimp only[Kb] at d;split at d
      ·ext L hx;split at d
       ·ext ys hy;cases d;rw[iX hx] at f;rw[iX hy] at r;obtain⟨a,o,us,rfl,n1,g1,q1,r1⟩:=f.nd;obtain⟨a',o',hh,rfl,hg,T,ha,W⟩:=r.nd;cases(show o=_ from q1);cases(show o'=_ from ha);obtain rfl:=r1.toInts;obtain rfl:=W.toInts;show G.DQ m s Y H _ _ v u Q I l z ⟨a,a',L,ys,rfl,rfl,.of g1,.of T,by lia,q⟩
       ·cases d
      ·cases d
     |_=>cases d
    |_=>cases d
   |_=>cases d
  |_=>cases d
 |LtE=>
  simp only[cY] at d;split at d
  ·cases d;obtain rfl:=f.int;obtain rfl:=r.int;show GF m s Y H _ _ v u Q I l z ⟨_,_,rfl,rfl,q⟩
  ·cases d
 |Gt=>
  simp only[cY] at d;split at d
  ·cases d;obtain rfl:=f.int;obtain rfl:=r.int;show GH m s Y H _ _ v u Q I l z ⟨_,_,rfl,rfl,q⟩
  ·cases d
 |GtE=>
  simp only[cY] at d;split at d
  ·cases d;obtain rfl:=f.int;obtain rfl:=r.int;show GI m s Y H _ _ v u Q I l z ⟨_,_,rfl,rfl,q⟩
  ·cases d
 |Eq=>
  simp only[cY] at d;split at d
  ·ext B;cases d;obtain⟨⟨as,F⟩,M,a2⟩:=de I B.1 f l;obtain⟨⟨bs,D⟩,b1,b2⟩:=de I B.2 r z;show SeqAt.compareEq_reads F D M b1 (by lia) (w rfl)
  ·cases d
 |NotEq=>
  simp only[cY] at d;split at d
  ·ext B;cases d;obtain⟨⟨as,F⟩,M,a2⟩:=de I B.1 f l;obtain⟨⟨bs,D⟩,b1,b2⟩:=de I B.2 r z;show SeqAt.compareNe_reads F D M b1 (by lia) (w rfl)
  ·cases d
 |In=>
  simp only[cY] at d;split at d
  ·ext U;split at d
   ·ext B;cases d;obtain⟨⟨as,F⟩,M,a2⟩:=de I B.1 f l;obtain⟨⟨bs,D⟩,b1,b2⟩:=de (n:=91) I (by simp only[d9,Mw];show⟨rfl,B.2⟩) r z;simp only[py,PyData.canLay0,PyData.depth] at D b1 b2;show SeqAt.in_list_reads D F b1 M (by lia) (w (sT _ _))
   ·cases d
  ·ext t ks vs;split at d
   ·ext k Z;split at d
    ·ext S;cases d;obtain⟨a,o,L,rfl,_,g,P,rl⟩:=r.nd;cases z;show J5 (by lia) I (jV g P Z f S) l λs3 I3=>⟨.bl _,H,I3,rfl,?_⟩;rw[jC (sR P)];show q
    ·cases d
   ·cases d
  ·cases d
 |NotIn=>
  simp only[cY] at d;split at d
  ·ext t ks vs;split at d
   ·ext k Z;split at d
    ·ext S;cases d;obtain⟨a,o,L,rfl,_,g,P,rl⟩:=r.nd;cases z;show Ae (by lia) I (jV g P Z f S) l λs3 I3=>⟨.bl _,H,I3,rfl,?_⟩;rw[jC (sR P)];show q
    ·cases d
   ·cases d
  ·cases d
 |Is=>
  simp only[cY] at d;split at d
  ·cases d;obtain⟨p,e⟩:=R rfl;show wpAny_is_plain p (w e)
  ·cases d;obtain⟨p,e⟩:=O _ rfl;show wpAny_is_plain p (w e)
  ·cases d
 |IsNot=>
  simp only[cY] at d;split at d
  ·cases d;obtain⟨p,e⟩:=O _ rfl;show wpAny_isNot_plain p (w (by rw[e]))
  ·cases d
noncomputable def vp:D->Option Bool
 |.non=>PB PF
 |.bl b=>PB b
 |.int i=>PB (i != 0)
 |.scr ns=>PB (!ns.isEmpty)
 |.nd .lst xs=>PB (!xs.isEmpty)
 |.nd .tup xs=>PB (!xs.isEmpty)
 |_=>PC
theorem RpL.empty{ds:List D}{vs:List V}(h:RpL K H S ds vs):vs.isEmpty=ds.isEmpty:=by
 have:=h.len
 cases vs<;>cases ds<;>simp_all
theorem xp(t:Rp K H S d v)(h:vp d=PB b):zY K v H b:=by
 cases d with
 |non=>obtain rfl:=t.non;cases h;rfl
 |bl k=>obtain rfl:=t.bl;cases h;rfl
 |int i=>obtain rfl:=t.int;cases h;rfl
 |str x=>cases h
 |scr ns=>
  obtain⟨a,rfl,g⟩:=t.scr;cases h
  show .inl ⟨_,g,by cases ns<;>rfl⟩
 |nd f j=>
  obtain⟨a,o,e,rfl,_,g,q,r⟩:=t.nd
  cases f with
  |lst=>cases h;cases(show o=_ from q);show .inl ⟨e,.of g,by rw[r.empty]⟩
  |tup=>cases h;cases(show o=_ from q);show .inr (.inl ⟨e,.of g,by rw[r.empty]⟩)
  |dic t l=>cases h
  |obj c ns=>cases h
noncomputable def Ow.ch:Ow->Nat->Ow
 |.fz,_=>.fz
 |.own es r,i=>es.getD i r
def o5:Kd->Nat->Kd
 |.sh,_=>.sh
 |.fr k,i=>(match k.ch i with|.fz=>.sh|c=>.fr c)
 |.bo j k,i=>(match k.ch i with|.fz=>.sh|c=>.bo j c)
section
variable {K:Mu} {H H' H0:Hp} {S:Pr} {g:Gh}
theorem TrL.len:∀{ds:List D} {es:List Ow} {r:Ow} {xs:List V} {F:Pr},TrL K H S ds es r xs F->xs.length=ds.length
 |[],_,_,_,_,h=>by unfold TrL at h;rw[h.1];rfl
 |d::ds,es,r,xs,F,h=>by
  unfold TrL at h;obtain⟨y,c,b,e,rfl,_,_,_,a⟩:=h;rw[Nh,Nh,TrL.len a]
theorem TrL.get:∀{ds:List D} {es:List Ow} {r:Ow} {xs:List V} {F:Pr} {i:Nat} {d:D},TrL K H S ds es r xs F->ds[i]?=PB d->∃x a,xs[i]?=PB x/\(∀b,a b->F b)/\Tr K H S d (es.getD i r) x a
 |[],_,_,_,_,_,_,h,e=>by simp at e
 |d::ds,es,r,xs,F,0,d',h,e=>by
  unfold TrL at h;obtain⟨y,l,g,k,rfl,c,_,j,f⟩:=h;simp at e;subst e
  show⟨y,g,rfl,λb z=>(c b).mpr (.inl z),by cases es<;>simpa using j⟩
 |d::ds,es,r,xs,F,i+1,d',h,e=>by
  unfold TrL at h;obtain⟨y,l,g,k,rfl,c,_,j,f⟩:=h;obtain⟨x,a,e1,e2,e3⟩:=TrL.get f (by simpa using e)
  show⟨x,a,by simpa using e1,λb z=>(c b).mpr (.inr (e2 b z)),by cases es<;>simpa using e3⟩
theorem VR.ch{ds:List D}(h:VR K g H0 H kd (.nd hd ds) v):∃a o xs,v=.ref a/\H a=PB o/\cW K o hd xs/\xs.length=ds.length/\∀(i:Nat) d,ds[i]?=PB d->∃x,xs[i]?=PB x/\VR K g H0 H (o5 kd i) d x:=by
 obtain⟨F,L,m⟩:=h
 let p:∀{I:Pr},(∀b,g b≠PC->I b)->Rp K H I (.nd hd ds) v->∃a o xs,v=.ref a/\H a=PB o/\cW K o hd xs/\xs.length=ds.length/\∀(i:Nat) d,ds[i]?=PB d->∃x,xs[i]?=PB x/\VR K g H0 H .sh d x:=λC r=>by
  obtain⟨a,o,xs,e,n,f,l,q⟩:=r.nd;show⟨a,o,xs,e,f,l,q.len,λi d e=>?_⟩;obtain⟨x,e1,e2⟩:=q.getD e;show⟨x,e1,FY (e2.weak λb z=>C b z)⟩
 cases kd with
 |sh=>show p (λb z=>.inl z) m.2
 |fr k=>
  let m:Tr K H (Sx g F) _ k v F:=m
  cases k with
  |fz=>
   obtain⟨a,o,xs,e,f,l,q,E⟩:=p (λb z=>.inl z) m.fz_inv.2;show⟨a,o,xs,e,f,l,q,E⟩
  |own s r=>
   unfold Tr at m;obtain⟨a,o,xs,O,e,f,l,N,Q,w,t⟩:=m;show⟨a,o,xs,e,f,l,t.len,λi d e=>?_⟩;obtain⟨x,y,e1,e2,e3⟩:=t.get e;show⟨x,e1,?_⟩;let C:∀b o,H b=PB o->¬Sx g F b->¬Sx g y b:=λb o _ n z=>n (z.imp id λz=>(w b).mpr (.inr (e2 b z)))
   change VR K g H0 H (match s.getD i r with|.fz=>.sh|c=>.fr c) d x
   cases u:s.getD i r with
   |fz=>
    rw[u] at e3;show FY (e3.fz_inv.2.weak λb z=>.inl z)
   |own B R=>
    rw[u] at e3;show⟨y,λb z=>L b ((w b).mpr (.inr (e2 b z))),e3.go (λ_ _ _ h=>h) C⟩
 |bo j k=>
  obtain⟨P,S,M,A⟩:=m
  cases k with
  |fz=>
   obtain⟨a,o,xs,e,f,l,q,E⟩:=p (λb z=>.inl z) A.fz_inv.2;show⟨a,o,xs,e,f,l,q,E⟩
  |own s r=>
   unfold Tr at A;obtain⟨a,o,xs,O,e,f,l,N,Q,w,t⟩:=A;show⟨a,o,xs,e,f,l,t.len,λi d e=>?_⟩;obtain⟨x,y,e1,e2,e3⟩:=t.get e;show⟨x,e1,?_⟩
   change VR K g H0 H (match s.getD i r with|.fz=>.sh|c=>.bo j c) d x
   cases u:s.getD i r with
   |fz=>
    rw[u] at e3;show FY (e3.fz_inv.2.weak λb z=>.inl z)
   |own B R=>
    rw[u] at e3;show⟨F,L,P,y,λb z=>M b ((w b).mpr (.inr (e2 b z))),e3⟩
end
structure Cz where
 sc:P1
 N:List Str
 fn:Str->Bool
abbrev Fn:=List D->Option KD
structure Tab where
 fn:Str->Option Fn
 fm:Str->Option (Mu->Sp)
 cst:Str->Option D
 cf:Str->Option (List Str)
noncomputable def a8(x:Str):List Str->Option Nat
 |[]=>PC
 |y::r=>if x=y then PB 0 else(a8 x r).map (·+1)
theorem aT:∀{N:List Str} {i:Nat},a8 x N=PB i->N[i]?=PB x
 |[],_,h=>by cases h
 |y::r,i,h=>by
  unfold a8 at h;split at h
  ·ext e;cases h;simp[e]
  ·cases q:a8 x r with
   |none=>rw[q] at h;cases h
   |some j=>
    rw[q] at h;cases h;simpa using aT q
noncomputable def DV(q:P1)(x:Str):Bool:=q.names.lookup x==PB .local||q.names.lookup x==PB .cell||q.names.lookup x==PB .free
noncomputable def lK(c:Cz)(x:Str):Bool:=c.sc.names.lookup x==PB .local||(c.fn x&&c.sc.names.lookup x==PB .cell)
noncomputable def gE(scope:P1)(x:Str):Bool:=scope.names.lookup x==PB .cell
noncomputable def ql(x:Str):Bool:=x.cps.toList.contains 46
noncomputable def mC(x:Str):Str:=⟨(x.cps.toList.takeWhile (· != 46)).toArray⟩
noncomputable def mM(x:Str):Str:=⟨((x.cps.toList.dropWhile (· != 46)).drop 1).toArray⟩
noncomputable def FZ(c m:Str):List D->Bool
 |.nd (.obj c' ns) _::_=>decide (c'=c)&&!ns.contains m
 |_=>PF
def iY(q:P1)(x:Str):Bool:=q.names.lookup x==PB .globalImplicit&&!ql x
theorem Kc{x:Str}(h:iY sc x=PD):ql x=PF:=by
 simp only[iY,Mw,NF] at h;show h.2
theorem nr(h:DV sc x=PD):Gs sc x:=by
 simp only[DV,NE,beq_iff_eq] at h;rcases h with(h|h)|h
 ·show .inl h
 ·show .inr (.inl h)
 ·show .inr (.inr h)
noncomputable def nu(x:Str):Bool:=!(x==("__debug__":Str))&&!(x==("__classdict__":Str))
def ny(K:Mu)(B:Fn):Sp:=λvs H Q _=>∃ds g q d,RpL K H (Sg g) ds vs/\MuOk H (Sg g)/\B ds=PB (q,d)/\∀v H',Same H H'->VR K g H H' q d v->Q v H'
noncomputable def aG:List Str:=["len","isinstance","int","bool","list","all","range","enumerate","str","sum","min","max","abs","tuple","zip","dict","sorted","reversed","any","set","repr"]
def qT(C:PL)(sp q:Sp):Prop:=∀vs H Q,sp vs H Q E0->∀a dx,H a=PC->H dx=PC->dx≠a->q (.ref a::vs) (upd (upd H dx (.own a)) a (.ins C dx [])) (λv H2=>v=.non/\Q (.ref a) H2) E0
def g9(X:Cx)(x:Str)(B:Fn):Prop:=if ql x=PD then
 ∃C k f fd ps,Nk X.K P0 (mC x)=PB (PB (.ref C))/\Cls X.K C/\oH X.K C (mM x) f/\FnOk X.prog X.w X.K X.mg X.base iQ k f fd ps (ny X.K B)/\Room k X.A/\Binds X.K fd ps []/\∀ds r,B ds=PB r->FZ (mC x) (mM x) ds=PD else
 (∃k f fd ps,FnOk X.prog X.w X.K X.mg X.base iQ k f fd ps (ny X.K B)/\Room k X.A/\X.mg x=PB (.ref f)/\Nr X.K (.ref f)=PD/\Binds X.K fd ps []/\(x==("__debug__":Str))=PF)\/
 (∃C k f fd ps q,Mk X.K C f/\FnOk X.prog X.w X.K X.mg X.base iQ k f fd ps q/\Room (k+1) X.A/\X.mg x=PB (.ref C)/\Binds X.K fd ps []/\(x==("__debug__":Str))=PF/\qT C (ny X.K B) q)
def Me(sp:Sp)(t:TA):TE:=λY H Q=>t Y H λvs H1=>sp vs H1 Q E0
theorem Hc{X:Cx}{t:TA}(m:∀(Y:L2.St) (H:Hp) (Q R:List V->Hp->Prop),t Y H Q->(∀vs H1,Q vs H1->R vs H1)->t Y H R)(h:g9 X x B)(u:ql x=PF)(l:Gl X x)(n:PA X (e::es) t)(o:PU (e::es) X.env=(PF,eval e X.env)::PU es X.env)(d:(backTo pos (PU es X.env)).any (·.1)=PF) :
  PE X (.Call (.Name x p) (e::es) [] pos) (Me (ny X.K B) t):=by
 intro b s Y H Q I q;unfold g9 at h;rw[if_neg (by rw[u];show M4)] at h;rcases h with⟨k,f,w,N,F,i,j,hk,g,c⟩|⟨C,k,f,w,N,v,M,F,i,j,g,c,D⟩
 ·show sC (E:=E0) F i l j hk g .nil oO n c o d b s Y H Q I (m _ _ _ _ q λvs H1 z=>by rw[Nj];show z)
 ·show z5 (E:=E0) M F i l j g .nil oO n c o d b s Y H Q I (m _ _ _ _ q λvs H1 z a A L y r=>by rw[Nj];show D vs H1 Q z a A L y r)
structure B6(X:Cx)(U:Tab):Prop where
 fn:∀x B,U.fn x=PB B->g9 X x B
 cf:∀c fs C,U.cf c=PB fs->Nk X.K P0 c=PB (PB (.ref C))->Cls X.K C/\∀a∈fs,NoAttr X.K C a
 fm:∀x sp,U.fm x=PB sp->∃k f fd ps,FnOk X.prog X.w X.K X.mg X.base iQ k f fd ps (sp X.K)/\Room k X.A/\X.mg x=PB (.ref f)/\Nr X.K (.ref f)=PD/\Binds X.K fd ps []/\(x==("__debug__":Str))=PF
 bl:∀x∈aG,X.mg x=PC
 units:X.A.units+100<cLine
 gd:X.A.guards=PB []
 cst:∀x d,U.cst x=PB d->∃u v,X.mg x=PB u/\RelV v u/\(∀H S,Rp X.K H S d v)/\(x==("__debug__":Str))=PF
structure ao(X:Cx)(U:Tab)(c:Cz):Prop where
 sc:X.env.scope=c.sc
 N:X.N=c.N
 fn:∀x,c.fn x=PD->X.fn x=PD
 calm:X.calm=PD
 nd:c.N.Nodup
 tab:B6 X U
section
variable {X:Cx} {U:Tab} {c:Cz}
theorem dG(O:ao X U c)(h:iY c.sc x=PD):Gl X x:=by
 change X.env.scope.names.lookup x=_;rw[O.sc];simp only[iY,Mw,beq_iff_eq] at h;show h.1
theorem iZ(O:ao X U c){x:Str}(h:lK c x=PD):BW X.env.scope x/\(X.fn x=PD\/X.env.scope.names.lookup x=PB .local):=by
 simp only[lK,NE,Mw,beq_iff_eq] at h;rw[O.sc];rcases h with h|h
 ·show⟨.inl h,.inr h⟩
 ·show⟨.inr h.2,.inl (O.fn x h.1)⟩
def eI(i:Nat)(o:Option (Option Sl)):Option KD:=match o with|some (PB s)=>PB (oW i s)|_=>PC
def f7(c:Cz)(x:Str):Option Nat:=match a8 x c.N with|some i=>if DV c.sc x&&nu x then PB i else PC|none=>PC
theorem hJ(O:ao X U c){i:Nat}(a:f7 c x=PB i)(pos:Pos):SndE X (λZ=>eI i Z[i]?) (.Name x pos):=by
 intro Z l d h g Y H Q f q;unfold f7 at a;split at a
 ·ext j k;split at a
  ·ext b;cases a;simp only[Mw,nu,NF] at b;dsimp only[eI] at h;split at h
   ·ext m e;cases h;obtain⟨v,e1,e2⟩:=f.get e;show am (qp (i:=i) (by rw[O.N];show aT k) (by rw[O.sc];show nr b.1) b.2.1 b.2.2) ⟨v,e1,q v H (Same.refl H) e2⟩
   ·cases h
  ·cases a
 ·cases a
theorem He(i:Int)(j:Nat)(pos:Pos):SndE X (λ_=>PB (.sh,.int i)) (.Constant (.int i) j pos):=by
 intro Z a d h g Y H Q b q;cases h;show am C9 (q _ H (Same.refl H) oY)
theorem Ke(i:Bool)(j:Nat)(pos:Pos):SndE X (λ_=>PB (.sh,.bl i)) (.Constant (.bool i) j pos):=by
 intro Z a d h g Y H Q b q;cases h;show am Gu (q _ H (Same.refl H) B5)
theorem Hf(j:Nat)(pos:Pos):SndE X (λ_=>PB (.sh,.non)) (.Constant .none j pos):=by
 intro Z a d h g Y H Q b q;cases h;show am Da (q _ H (Same.refl H) DP)
theorem Hg(x:Str)(j:Nat)(pos:Pos):SndE X (λ_=>PB (.sh,.str x)) (.Constant (.str x) j pos):=by
 intro Z a d h g Y H Q b q;cases h;show am Db (q _ H (Same.refl H) Ha)
theorem Hh(O:ao X U c)(f:iY c.sc x=PD)(e:U.cst x=PB d)(pos:Pos):SndE X (λ_=>PB (.sh,d)) (.Name x pos):=by
 intro Z l m h g Y H Q k q;cases h;obtain⟨u,v,j,i,a,b⟩:=O.tab.cst x d e;show am (zK (dG O f) j i b) (q v H (Same.refl H) (FY (a H _)))
theorem two{c fb:Ro->Option KD}(k:SndE X c a)(e:SndE X fb b)(j:c Z=PB (ka,da))(f:fb Z=PB (kb,db)){R:V->V->Hp->Prop}(d:SE X.K g Z Y H)(q:∀x y H',Same H H'->VR X.K g H H' ka da x->VR X.K g H H' kb db y->R x y H'):wE X a Y H λx H1=>wE X b Y H1 λy H2=>R x y H2:=
 k Z ka da j g Y H _ d λx H1 s1 i=>e Z kb db f g Y H1 _ (d.same s1) λy H2 s2 h=>q x y H2 (s1.trans s2) (i.same s2) (h.older s1)
def As(op:P2)(a b:Option KD):Option KD:=match a,b with
 |some x,PB y=>ed op x y
 |_,_=>PC
theorem Hj{c fb:Ro->Option KD}(o:SndE X c a)(f:SndE X fb b):SndE X (λZ=>As op (c Z) (fb Z)) (.BinOp a op b pos):=by
 intro Z l d h g Y H Q e q;dsimp only[As] at h;split at h
 ·ext x y n j;show am (B0 (xn op) aw aw) (two o f n j e λt u p s i k=>⟨g,H,x,y,l,d,e.mu,s,i,k,h,λv m s2 r=>q v m (s.trans s2) (r.older s)⟩)
 ·cases h
def nA(op:Qd)(a b:Option KD):Option Bool:=match a,b with
 |some (_,x),PB (_,y)=>cY op x y
 |_,_=>PC
noncomputable def bV(o:Option Bool):Option KD:=o.map λb=>(.sh,.bl b)
theorem Hk{f fb:Ro->Option KD}{a b:PK}{op:Qd}(O:ao X U c)(o:Qa op b=PF)(t:SndE X f a)(k:SndE X fb b):SndE X (λZ=>bV (nA op (f Z) (fb Z))) (.Compare a [op] [b] pos):=by
 intro Z w d h g Y H Q n q
 cases e:nA op (f Z) (fb Z) with
 |none=>simp only[e,bV] at h;cases h
 |some r=>
  simp only[e,bV] at h;cases h;unfold nA at e;split at e
  ·ext z x A y p l;show am (zW (nq O.tab.units op) aw aw o) (two t k p l n λu v m s i j=>⟨x,y,r,i.rd,j.rd,e,q _ m s B5⟩)
  ·cases e
theorem bR{h fb:Ro->Option KD}{a b:PK}{op:Qd}(O:ao X U c)(m:Qa op b=PF)(o:SndE X h a)(i:SndE X fb b):SndT X (λZ=>nA op (h Z) (fb Z)) (.Compare a [op] [b] pos):=by
 intro Z r d g Y H Q l q;dsimp only[nA] at d;split at d
 ·ext u x v y n j;show xj (zX (nq O.tab.units op) aw aw m) (two o i n j l λp t k s e f=>⟨x,y,r,e.rd,f.rd,d,r,rfl,q k s⟩)
 ·cases d
def i0(op q:Qd)(a b z:Option KD):Option Bool:=match a,b with
 |some (_,x),PB (_,y)=>(match cY op x y with
  |some PD=>(match z with|some (_,z)=>cY q y z|none=>PC)
  |some PF=>PB PF
  |none=>PC)
 |_,_=>PC
theorem qU{n fb m:Ro->Option KD}(p:SndE X n a)(k:SndE X fb b)(t:SndE X m e)(h:i0 op op' (n Z) (fb Z) (m Z)=PB r){Q:VK}(f:SE X.K g Z Y H)(q:∀H',Same H H'->Q (.bl r) H') :
  wF (DU X.K op) (DU X.K op') (wE X a) (wE X b) (wE X e) Y H Q:=by
 unfold i0 at h;split at h
 ·ext D x E y o l;split at h
  ·ext j;split at h
   ·ext u z B;show two p k o l f λv w H' s d c=>⟨x,y,PD,d.rd,c.rd,j,PD,rfl,?_⟩;show ve (t Z u z B g Y H' _ (f.same s) λC A s2 i=>⟨y,z,r,(c.same s2).rd,i.rd,h,q A (s.trans s2)⟩)
   ·cases h
  ·ext j;cases h;show two p k o l f λv w H' s d c=>⟨x,y,PF,d.rd,c.rd,j,PF,rfl,vd (q H' s)⟩
  ·cases h
 ·cases h
theorem At{i fb f:Ro->Option KD}(O:ao X U c)(o:Qa op' e=PF)(p:SndE X i a)(k:SndE X fb b)(l:SndE X f e):SndE X (λZ=>bV (i0 op op' (i Z) (fb Z) (f Z))) (.Compare a [op,op'] [b,e] pos):=by
 intro Z t d h g Y H Q n q
 cases j:i0 op op' (i Z) (fb Z) (f Z) with
 |none=>simp only[j,bV] at h;cases h
 |some r=>
  simp only[j,bV] at h;cases h;show am (wH (nq O.tab.units op) (nq O.tab.units op') aw aw aw o) (qU p k l j n (Q:=Q) λm s=>q _ m s B5)
def eJ(a:Option KD):Option Bool:=match a with|some (_,d)=>vp d|none=>PC
theorem Hl{i:Ro->Option KD}(y:SndE X i a):SndE X (λZ=>bV ((eJ (i Z)).map (!·))) (.UnaryOp .Not a pos):=by
 intro Z z d h g Y H Q n q
 cases e:eJ (i Z) with
 |none=>simp only[e,bV] at h;cases h
 |some b=>
  simp only[e,bV] at h;cases h;unfold eJ at e;split at e
  ·ext k d e1;intro c s I;show PyProof.Rows.UnaryOp_ (aY (y Z _ _ e1 g Y H (λv f=>zY X.K v f b/\Q (.bl (!b)) f) n (λv f s t=>⟨xp t.rd e,q _ f s B5⟩) c s I) λv s1 ⟨x,w,p,l,r,m⟩=>?_);show PyProof.Rows.not_of (aY (wJ c s1 Y w x v (λk j=>Q (.bl (!k)) j) p l ⟨b,r,m⟩) λk s2 ⟨j,u,o⟩=>⟨.bl (!k),j,u,rfl,o⟩)
  ·cases e
theorem eU{c:Ro->Option Bool}(i:SndT X c a):SndT X (λZ=>(c Z).map (!·)) (.UnaryOp .Not a pos):=by
 intro Z r h g Y H Q f q
 cases e:c Z with
 |none=>simp only[e] at h;cases h
 |some b=>
  simp only[e] at h;cases h;show xj (Dd iS) (i Z b e g Y H _ f λd s=>q d s)
theorem xq{c:Ro->Option KD}{a:PK}(m:SndE X c a)(j:∀b,isTrue a X.env b=(do let v <- b;standAt a.pos;holding [v] (truthy v))):SndT X (λZ=>eJ (c Z)) a:=by
 intro Z r h g Y H Q i q;dsimp only[eJ] at h;split at h
 ·ext k d e;show xj (wK aw j) (m Z _ _ e g Y H _ i λv f s l=>⟨r,xp l.rd h,q f s⟩)
 ·cases h
noncomputable def Jn(t:Option Bool)(a b:Option KD):Option KD:=match t with|some PD=>a|some PF=>b|none=>PC
theorem Kf{ft:Ro->Option Bool}{j fb:Ro->Option KD}(l:SndT X ft t)(n:SndE X j a)(m:SndE X fb b):SndE X (λZ=>Jn (ft Z) (j Z) (fb Z)) (.IfExp t a b pos):=by
 intro Z k d h g Y H Q c q;dsimp only[Jn] at h;split at h
 ·ext e;show am (oC iS aw aw) (l Z _ e g Y H _ c λi s1=>ve (n Z k d h g Y i Q (c.same s1) λv f s2 r=>q v f (s1.trans s2) (r.older s1)))
 ·ext e;show am (oC iS aw aw) (l Z _ e g Y H _ c λi s1=>vd (m Z k d h g Y i Q (c.same s1) λv f s2 r=>q v f (s1.trans s2) (r.older s1)))
 ·cases h
noncomputable def ah:PK->Bool
 |.Starred ..=>PF
 |_=>PD
theorem aj(h:ah e=PD):PU (e::es) env=(PF,eval e env)::PU es env:=by
 cases e<;>first|rfl|cases h
theorem bx{es:List PK}(h:es.all ah=PD):(backTo pos (PU es env)).any (·.1)=PF:=by
  let f:∀es:List PK,es.all ah=PD->∀p∈PU es env,p.1=PF:=by
    intro es
    induction es with
    |nil=>intro _ p b;cases b
    |cons e es i=>
      intro h p b;simp only[NC,Mw] at h;rw[aj h.1] at b;rcases MD.mp b with rfl|b
      · rfl
      · show i h.2 p b
  let c:=f es h
  cases e:PU es env with
  |nil=>rfl
  |cons p r=>
    rw[e] at c
    let g:∀q∈backTo pos (p::r),q.1=PF:=by
      intro q a;unfold backTo at a
      first
        |show c q a
        | (simp only[Nd,MD] at a
           first
             |(obtain⟨z,d,rfl⟩:=a;show c z (by simpa using d))
             | (rcases a with rfl|a
                · show c p (by simp)
                · first
                    |show c q (by simp[a])
                    |(obtain⟨z,d,rfl⟩:=a;show c z (by simp[d]))))
    rw[Pm];intro q a;rw[g q a];decide
noncomputable def cG(a:Option KD)(r:Option (List KD)):Option (List KD):=match a,r with|some x,PB xs=>PB (x::xs)|_,_=>PC
theorem jW:kF X (λ_=>PB []) []:=by
 intro Z a h g Y H Q b q;cases h;show kB dQ (q [] H (Same.refl H) .nil)
theorem fR{b:Ro->Option KD}{fr:Ro->Option (List KD)}(r:ah e=PD)(u:SndE X b e)(n:kF X fr es):kF X (λZ=>cG (b Z) (fr Z)) (e::es):=by
 intro Z j h g Y H Q c q;dsimp only[cG] at h;split at h
 ·ext x l e1 e2;cases h;obtain⟨k,d⟩:=x;show kB (bw aw cX (aj r)) (u Z k d e1 g Y H _ c λv t s1 i=>?_);obtain⟨p,a,f⟩:=i;show n Z l e2 (g.plus p) Y t _ (c.plus s1 a f.dom) λo s s2 m=>q (v::o) s (s1.trans s2) (.cons s1 s2 a f m)
 ·cases h
theorem VRs.two(h:VRs K g H0 H [(k,d),(k',d')] vs):∃v f,vs=[v,f]/\VR K g H0 H k d v/\VR K g H0 H k' d' f:=by
 obtain⟨F,j,y,s,c,q,rfl,m,r,l,z,t,i,u,rfl,a,p,o,rfl,n⟩:=h;let e:∀b,F b↔c b\/i b:=λb=>(m b).trans ⟨λz=>z.imp id λz=>((a b).mp z).elim id λz=>absurd z (n b),λz=>z.imp id λz=>(a b).mpr (.inl z)⟩;show⟨y,z,rfl,⟨c,λb z=>j b ((e b).mpr (.inl z)),l.go (λ_ _ h=>h) λb _ _ z=>(e b).mpr (.inl z)⟩,⟨i,λb z=>j b ((e b).mpr (.inr z)),o.go (λ_ _ h=>h) λb _ _ z=>(e b).mpr (.inr z)⟩⟩
end
mutual
noncomputable def Ow.le:Ow->Ow->Bool
 |.fz,_=>PD
 |.own es r,.own es' r'=>Ow.les es es'&&Ow.le r r'
 |.own _ _,.fz=>PF
noncomputable def Ow.les:List Ow->List Ow->Bool
 |[],[]=>PD
 |a::as,b::bs=>Ow.le a b&&Ow.les as bs
 |_,_=>PF
end
theorem Ow.les_hd:∀{es c:List Ow} {r r':Ow},Ow.les es c=PD->Ow.le r r'=PD->(es.headD r).le (c.headD r')=PD/\Ow.les es.tail c.tail=PD
 |[],[],_,_,_,h=>⟨h,rfl⟩
 |a::as,b::bs,_,_,h,_=>by rw[Ow.les,Mw] at h;show h
 |[],_::_,_,_,h,_=>by simp[Ow.les] at h
 |_::_,[],_,_,h,_=>by simp[Ow.les] at h
section
variable {K:Mu} {H:Hp} {S:Pr}
mutual
theorem Tr.ofIm:∀{d:D} {k:Ow} {v:V},qQ d=PD->Rp K H S d v->Tr K H S d k v (λ_=>False)
 |.non,_,_,_,h=>by unfold Tr;show⟨λ_ z=>z,h⟩
 |.bl _,_,_,_,h=>by unfold Tr;show⟨λ_ z=>z,h⟩
 |.int _,_,_,_,h=>by unfold Tr;show⟨λ_ z=>z,h⟩
 |.str _,_,_,_,h=>by unfold Tr;show⟨λ_ z=>z,h⟩
 |.scr _,_,_,i,_=>by simp[qQ] at i
 |.nd hd ds,.fz,_,_,h=>by unfold Tr;show⟨λ_ z=>z,h⟩
 |.nd hd ds,.own es r,v,i,h=>by
  rw[qQ,Mw] at i;let c:hd.mu=PF:=by simpa using i.1
  unfold Rp at h;unfold Tr;obtain⟨a,o,f,e,n,g,q,t⟩:=h;show⟨a,o,f,λ_=>False,e,g,q,λ_ z=>z,λ_=>n,λb=>⟨λz=>z.elim,λz=>z.elim (λz=>by rw[c] at z;cases z.1) id⟩,TrL.ofIm i.2 t⟩
theorem TrL.ofIm:∀{ds:List D} {es:List Ow} {r:Ow} {vs:List V},Ak ds=PD->RpL K H S ds vs->TrL K H S ds es r vs (λ_=>False)
 |[],_,_,_,_,h=>by unfold TrL;show⟨h.nil_inv,λ_ z=>z⟩
 |d::ds,es,r,vs,i,h=>by
  rw[Ak,Mw] at i;obtain⟨y,a,rfl,e,c⟩:=h.cons_inv;unfold TrL;show⟨y,a,_,_,rfl,λb=>⟨λz=>z.elim,λz=>z.elim id id⟩,λ_ z=>z.elim,Tr.ofIm i.1 e,TrL.ofIm i.2 c⟩
end
theorem Tr.leaf{S':Pr}(hd:∀h ds,d≠.nd h ds)(h:Tr K H S d c v F)(f:∀b,S' b->H b=PC\/S b):Tr K H S' d k v (λ_=>False):=by
 cases d with
 |nd a ds=>show absurd rfl (hd a ds)
 |_=>
  unfold Tr at h⊢;show⟨λ_ z=>z,h.2.go λb o n e=>⟨e,λz=>(f b z).elim (λq=>by rw[e] at q;cases q) n⟩⟩
mutual
theorem Tr.part:∀{d:D} {k c:Ow} {v:V} {F:Pr},k.le c=PD->Tr K H S d c v F->∃F2:Pr,(∀b,F2 b->F b)/\∀S':Pr,(∀b,S' b->H b=PC\/(S b/\(F b->F2 b)))->Tr K H S' d k v F2
 |.non,_,_,_,_,_,t=>⟨_,λ_ z=>z.elim,λS' i=>t.leaf (λ_ _ e=>nomatch e) λb z=>(i b z).imp id And.left⟩
 |.bl _,_,_,_,_,_,t=>⟨_,λ_ z=>z.elim,λS' i=>t.leaf (λ_ _ e=>nomatch e) λb z=>(i b z).imp id And.left⟩
 |.int _,_,_,_,_,_,t=>⟨_,λ_ z=>z.elim,λS' i=>t.leaf (λ_ _ e=>nomatch e) λb z=>(i b z).imp id And.left⟩
 |.str _,_,_,_,_,_,t=>⟨_,λ_ z=>z.elim,λS' i=>t.leaf (λ_ _ e=>nomatch e) λb z=>(i b z).imp id And.left⟩
 |.scr _,_,_,_,_,_,t=>⟨_,λ_ z=>z.elim,λS' i=>t.leaf (λ_ _ e=>nomatch e) λb z=>(i b z).imp id And.left⟩
 |.nd hd ds,.fz,c,v,F,_,t=>by
  show⟨λ_=>False,λ_ z=>z.elim,λS' i=>.fz ?_⟩;let r:Rp K H (λb=>S' b/\H b≠PC) (.nd hd ds) v:=t.rp λb z=>(i b z.1).elim (λq=>absurd q z.2) λq=>⟨q.1,q.2⟩;show r.go λb o n e=>⟨e,λz=>n ⟨z,by rw[e];show λh=>by cases h⟩⟩
 |.nd hd ds,.own es r,.fz,_,_,l,_=>by simp[Ow.le] at l
 |.nd hd ds,.own es r,.own es' r',v,F,l,t=>by
  rw[Ow.le,Mw] at l;unfold Tr at t;obtain⟨a,o,u,B,e,g,q,p,A,m,y⟩:=t;obtain⟨G,s,x⟩:=TrL.part l.1 l.2 y;show⟨λb=>(hd.mu=PD/\b=a)\/G b,λb z=>(m b).mpr (z.imp id (s b)),λS' i=>?_⟩;unfold Tr;show⟨a,o,u,G,e,g,q,λj z=>p j (s a z),λj z=>(i a z).elim (λq=>by rw[g] at q;cases q) λq=>A j q.1,λb=>Iff.rfl,x S' λb z=>(i b z).imp id λq=>⟨q.1,λf=>?_⟩⟩;show(q.2 ((m b).mpr (.inr f))).elim (λw=>absurd f (by rw[w.2];show p w.1)) id
theorem TrL.part:∀{ds:List D} {es a:List Ow} {r r':Ow} {vs:List V} {F:Pr},Ow.les es a=PD->r.le r'=PD->TrL K H S ds a r' vs F->∃F2:Pr,(∀b,F2 b->F b)/\∀S':Pr,(∀b,S' b->H b=PC\/(S b/\(F b->F2 b)))->TrL K H S' ds es r vs F2
 |[],_,_,_,_,_,_,_,_,t=>⟨λ_=>False,λ_ z=>z.elim,λS' _=>by unfold TrL at t⊢;show⟨t.1,λ_ z=>z⟩⟩
 |d::ds,es,a,r,r',vs,F,l1,l2,t=>by
  unfold TrL at t;obtain⟨y,p,v,F2,e,c,h,s,u⟩:=t;let i:=Ow.les_hd (r:=r) (r':=r') l1 l2;obtain⟨l,g,o⟩:=Tr.part i.1 s;obtain⟨j,b1,b2⟩:=TrL.part i.2 l2 u;show⟨λb=>l b\/j b,λb z=>(c b).mpr (z.imp (g b) (b1 b)),λS' k=>?_⟩;unfold TrL;show⟨y,p,l,j,e,λb=>Iff.rfl,λb m n=>h b (g b m) (b1 b n),o S' λb z=>(k b z).imp id λq=>⟨q.1,λf=>?_⟩,b2 S' λb z=>(k b z).imp id λq=>⟨q.1,λf=>?_⟩⟩
  ·show(q.2 ((c b).mpr (.inl f))).elim id λw=>absurd (b1 b w) (h b f)
  ·show(q.2 ((c b).mpr (.inr f))).elim (λw=>absurd f (h b (g b w))) id
end
end
def bM(k:Ow)(p:KD):Bool:=match k with
 |.fz=>qR p.1 p.2
 |k=>(match p.1 with|.fr c=>k.le c|_=>PF)||qQ p.2
def o6:List Ow->Ow->List KD->Bool
 |_,_,[]=>PD
 |es,r,p::ps=>bM (es.headD r) p&&o6 es.tail r ps
section
variable {K:Mu} {H H' H0:Hp} {g:Gh} {Ft F:Pr}
theorem VR1.fit{p:KD}(h:bM k p=PD)(m:MuOk H (Sx g Ft))(hd:∀b,F b->g b=PC)(t:∀b,F b->Ft b)(r:VR1 K H g Ft p.1 p.2 v F):∃F2:Pr,(∀b,F2 b->F b)/\∀S':Pr,(∀b,S' b->H b=PC\/g b≠PC\/F2 b\/(Ft b/\¬F b))->Tr K H S' p.2 k v F2:=by
 obtain⟨s,d⟩:=p
 cases k with
 |fz=>
  show⟨λ_=>False,λb z=>z.elim,λS' a=>.fz ?_⟩
  let j:Rp K H (λb=>S' b/\H b≠PC) d v:=by
   cases s with
   |sh=>
    show r.2.weak λb z=>?_;rcases a b z.1 with q|q|q|q
    ·show absurd q z.2
    ·show .inl q
    ·show q.elim
    ·show .inr q.1
   |fr c=>
    show Tr.rp (λb z=>?_) r;rcases a b z.1 with q|q|q|q
    ·show absurd q z.2
    ·show⟨.inl q,λu=>q (hd b u)⟩
    ·show q.elim
    ·show⟨.inr q.1,q.2⟩
   |bo i c=>
    show r.rd.im (λb z=>?_) h;rcases a b z.1 with q|q|q|q
    ·show absurd q z.2
    ·show m b (.inl q)
    ·show q.elim
    ·show m b (.inr q.1)
  show j.go λb o n e=>⟨e,λz=>n ⟨z,by rw[e];show λh=>by cases h⟩⟩
 |own x y=>
  rcases NE _ _▸(show(_||_)=PD from h) with h|h
  ·cases s with
   |sh=>cases h
   |bo i c=>cases h
   |fr c=>
    obtain⟨F2,l,w⟩:=Tr.part h r;show⟨F2,l,λS' a=>w S' λb z=>?_⟩;rcases a b z with q|q|q|q
    ·show .inl q
    ·show .inr ⟨.inl q,λf=>absurd (hd b f) q⟩
    ·show .inr ⟨.inr (t b (l b q)),λ_=>q⟩
    ·show .inr ⟨.inr q.1,λf=>absurd f q.2⟩
  ·show⟨λ_=>False,λb z=>z.elim,λS' a=>.ofIm h ?_⟩
   let j:Rp K H (λb=>S' b/\H b≠PC) d v:=by
    show r.rd.im (λb z=>?_) h;rcases a b z.1 with q|q|q|q
    ·show absurd q z.2
    ·show m b (.inl q)
    ·show q.elim
    ·show m b (.inr q.1)
   show j.go λb o n e=>⟨e,λz=>n ⟨z,by rw[e];show λh=>by cases h⟩⟩
theorem VRL.fit:∀{kds:List KD} {es:List Ow} {r:Ow} {vs:List V} {F:Pr},o6 es r kds=PD->MuOk H (Sx g Ft)->(∀b,F b->g b=PC)->(∀b,F b->Ft b)->VRL K H g Ft kds vs F->
  ∃e:Pr,(∀b,e b->F b)/\∀c:Pr,(∀b,c b->H b=PC\/g b≠PC\/e b\/(Ft b/\¬F b))->TrL K H c (kds.map (·.2)) es r vs e
 |[],es,r,vs,F,_,_,_,_,h=>⟨λ_=>False,λb z=>z.elim,λc i=>by unfold Oq TrL;show⟨h.1,λb z=>z⟩⟩
 |p::ps,es,r,vs,F,hf,m,hd,hs,h=>by
  obtain⟨y,k,v,e,rfl,a,f,u,o⟩:=h;unfold o6 at hf;rw[Mw] at hf;obtain⟨l,d,t⟩:=VR1.fit hf.1 m (λb z=>hd b ((a b).mpr (.inl z))) (λb z=>hs b ((a b).mpr (.inl z))) u;obtain⟨j,b1,b2⟩:=VRL.fit hf.2 m (λb z=>hd b ((a b).mpr (.inr z))) (λb z=>hs b ((a b).mpr (.inr z))) o;show⟨λb=>l b\/j b,λb z=>(a b).mpr (z.imp (d b) (b1 b)),λc i=>?_⟩;change TrL K H c (p.2::ps.map (·.2)) es r (y::k) _;unfold TrL;show⟨y,k,l,j,rfl,λb=>Iff.rfl,λb n s=>f b (d b n) (b1 b s),t c λb z=>?_,b2 c λb z=>?_⟩
  ·rcases i b z with q|q|(q|q)|q
   ·show .inl q
   ·show .inr (.inl q)
   ·show .inr (.inr (.inl q))
   ·show .inr (.inr (.inr ⟨hs b ((a b).mpr (.inr (b1 b q))),λz=>f b z (b1 b q)⟩))
   ·show .inr (.inr (.inr ⟨q.1,λz=>q.2 ((a b).mpr (.inl z))⟩))
  ·rcases i b z with q|q|(q|q)|q
   ·show .inl q
   ·show .inr (.inl q)
   ·show .inr (.inr (.inr ⟨hs b ((a b).mpr (.inl (d b q))),λz=>f b (d b q) z⟩))
   ·show .inr (.inr (.inl q))
   ·show .inr (.inr (.inr ⟨q.1,λz=>q.2 ((a b).mpr (.inr z))⟩))
theorem VRs.node{kds:List KD}{hd:Hd}(w:o6 es r kds=PD)(m:MuOk H0 (Sg g))(s:Same H0 H)(h:VRs K g H0 H kds vs)(c:H p=PC)(y:cW K o hd vs)(l:hd.mu=PD) :
  VR K g H0 (upd H p o) (.fr (.own es r)) (.nd hd (kds.map (·.2))) (.ref p):=by
 obtain⟨F,t,d⟩:=h
 let f:∀b,F b->g b=PC:=λb z=>by
  cases e:g b with
  |none=>rfl
  |some i=>
   obtain⟨o,q,_⟩:=m b (by rw[Sg,e];show λh=>by cases h);rw[t b z] at q;cases q
 let x:MuOk H (Sx g F):=λb z=>z.elim (λz=>m.same s b z) (λz=>d.dom b z);obtain⟨a,k,v⟩:=d.fit w x f λb z=>z
 let u:¬a p:=λz=>by
  obtain⟨o,q,_⟩:=d.dom p (k p z);rw[c] at q;cases q
 show⟨λb=>b=p\/a b,λb z=>z.elim (λz=>z▸s.free c) λz=>t b (k b z),?_⟩;change Tr _ _ _ _ _ _ _;unfold Tr;show⟨p,o,vs,a,rfl,ak,y,λ_=>u,λh=>by (rw[l] at h;cases h),λb=>⟨λz=>z.imp (λz=>⟨l,z⟩) id,λz=>z.imp (λz=>z.2) id⟩,?_⟩;show(v (λb=>g b≠PC\/a b) λb z=>.inr (z.imp id λz=>.inl z)).go (λb j _ e=>ae c b j e) λb j e n z=>?_;rcases z with z|z|z
 ·show n (.inl z)
 ·subst z;rw[c] at e;cases e
 ·show n (.inr z)
theorem VRs.tupO{kds:List KD}(v:o6 es r kds=PD)(m:MuOk H0 (Sg g))(s:Same H0 H)(h:VRs K g H0 H kds vs)(d:H p=PC) :
  VR K g H0 (upd H p (.tup vs)) (.fr (.own es r)) (.tup (kds.map (·.2))) (.ref p):=by
 obtain⟨F,l,c⟩:=h
 let f:∀b,F b->g b=PC:=λb z=>by
  cases e:g b with
  |none=>rfl
  |some i=>
   obtain⟨o,q,_⟩:=m b (by rw[Sg,e];show λh=>by cases h);rw[l b z] at q;cases q
 let w:MuOk H (Sx g F):=λb z=>z.elim (λz=>m.same s b z) (λz=>c.dom b z);obtain⟨a,k,u⟩:=c.fit v w f λb z=>z
 let t:¬a p:=λz=>by
  obtain⟨o,q,_⟩:=c.dom p (k p z);rw[d] at q;cases q
 show⟨a,λb z=>l b (k b z),?_⟩;change Tr _ _ _ _ _ _ _;unfold Tr
 show⟨p,_,vs,a,rfl,ak,rfl,(λh=>nomatch h),λ_ z=>?_,λb=>⟨λz=>.inr z,λz=>z.elim (λz=>nomatch z.1) id⟩,?_⟩
 ·rcases z with z|z
  ·obtain⟨o,q,_⟩:=m.same s p z;rw[d] at q;cases q
  ·show t z
 ·show(u (λb=>g b≠PC\/a b) λb z=>.inr (z.imp id λz=>.inl z)).go (λb j _ e=>ae d b j e) λb j e n z=>n z
end
def qV(k:Ow)(a:Option (List KD)):Option KD:=match a with
 |some kds=>(match k with|.own es r=>if o6 es r kds=PD/\kds.length<=100000 then PB (.fr (.own es r),.lst (kds.map (·.2))) else PC|.fz=>PC)
 |none=>PC
def i4(k:Ow)(a:Option (List KD)):Option KD:=match a with
 |some kds=>(match k with
  |.own es r=>if o6 es r kds=PD/\kds.length<=100000 then PB (.fr (.own es r),.tup (kds.map (·.2))) else PC
  |.fz=>if(kds.all λp=>qR p.1 p.2)=PD/\kds.length<=100000 then PB (.sh,.tup (kds.map (·.2))) else PC)
 |none=>PC
section
variable {X:Cx} {U:Tab} {c:Cz}
theorem VRs.len{kds:List KD}{vs:List V}(h:VRs K g H0 H kds vs):vs.length=kds.length:=by
 have:=h.rd.len;rw[My] at this;show this
theorem Hm{f:Ro->Option (List KD)}(l:kF X f es):SndE X (λZ=>qV k (f Z)) (.List es pos):=by
 intro Z n d h g Y H Q i q;dsimp only[qV] at h;split at h
 ·ext a e;split at h
  ·split at h
   ·ext c;cases h;show am (DA cX) (l Z a e g Y H _ i λm o s1 b=>⟨by rw[b.len];show aL c.2,λp j=>?_⟩);show q _ _ (s1.trans (ae j)) (b.node c.1 i.mu s1 j rfl rfl)
   ·cases h
  ·cases h
 ·cases h
theorem Hn{f:Ro->Option (List KD)}(l:kF X f es):SndE X (λZ=>i4 k (f Z)) (.Tuple es n pos):=by
 intro Z r d h g Y H Q i q;dsimp only[i4] at h;split at h
 ·ext b e;split at h
  ·split at h
   ·ext c;cases h;show am (mZ cX) (l Z b e g Y H _ i λm o s1 a=>⟨by rw[a.len];show aL c.2,λp j=>?_⟩);show q _ _ (s1.trans (ae j)) (a.tupO c.1 i.mu s1 j)
   ·cases h
  ·split at h
   ·ext c;cases h;show am (mZ cX) (l Z b e g Y H _ i λm o s1 a=>⟨by rw[a.len];show aL c.2,λp j=>?_⟩);show q _ _ (s1.trans (ae j)) ((xk (i.mu.same s1) j (a.sh c.1 i.mu s1)).older s1)
   ·cases h
 ·cases h
noncomputable def cZ:PK->Bool
 |.Slice ..=>PF
 |_=>PD
theorem bW(h:cZ b=PD):sH b:=by
 intro o i
 cases b<;>first|rfl|cases h
def DW(z:Str)(i:Int):Option Str:=(L2.qk z.cps.toList i).map λc=>⟨#[c]⟩
def Jo(k:Kd)(xs:List D)(i:Int):Option KD:=match jL xs.length i with|some j=>(xs[j]?).map λd=>(o5 k j,d)|none=>PC
def Kg(k:Kd)(x:D)(i:Int):Option KD:=match x with
 |.nd hd xs=>(match hd with|.lst=>Jo k xs i|.tup=>Jo k xs i|_=>PC)
 |.scr ns=>(L2.qk ns i).map λd=>(.sh,.int d)
 |.str z=>if z.length<=100000 then(DW z i).map λd=>(.sh,.str d) else PC
 |_=>PC
noncomputable def DX(x:D):Option (Nat×List DK×List D):=match x with
 |.nd hd xs=>(match hd with|.dic t ks=>PB (t,ks,xs)|_=>PC)
 |_=>PC
def qW(k:Kd)(p:Nat×List DK×List D)(y:D):Option KD:=match iV y with
 |some q=>if g8 p.1 q=PD then(match aR p.2.1 q with|some j=>(p.2.2[j]?).map λd=>(o5 k j,d)|none=>PC) else PC
 |none=>PC
def DY(x y:KD):Option KD:=match DX x.2 with
 |some p=>qW x.1 p y.2
 |none=>(match y.2 with|.int i=>Kg x.1 x.2 i|_=>PC)
def xr(a b:Option KD):Option KD:=match a with
 |some x=>(match b with|some y=>DY x y|none=>PC)
 |none=>PC
def Au(f:Str)(a:Option KD):Option KD:=match a with
 |some (ka,.nd (.obj _ ns) xs)=>(match a8 f ns with|some j=>(xs[j]?).map λd=>(o5 ka j,d)|none=>PC)
 |_=>PC
theorem kH{v:V}:∀{ns:List Str} {us:List V} {j:Nat},a8 f ns=PB j->us[j]?=PB v->(ns.zip us).lookup f=PB v
 |[],_,_,h,_=>by cases h
 |_::_,[],_,_,e=>by simp at e
 |n::ns,u::us,j,h,e=>by
  unfold a8 at h;rw[N0,M0];split at h
  ·ext a;cases h;rw[a,beq_self_eq_true];simpa using e
  ·ext a;obtain⟨c,b,rfl⟩:=O2.mp h;rw[beq_eq_false_iff_ne.mpr a];show kH b (by simpa using e)
theorem Ho{i:Ro->Option KD}(k:attributeBase a f X.env (eval a X.env)=eval a X.env)(y:SndE X i a):SndE X (λZ=>Au f (i Z)) (.Attribute a f pos):=by
 intro Z K d h g Y H Q B q;dsimp only[Au] at h;split at h
 ·ext E c ns A u;split at h
  ·ext j b
   cases e:A[j]? with
   |none=>rw[e] at h;cases h
   |some F=>
    rw[e] at h;cases h;show am (wP aw k) (y Z _ _ u g Y H _ B λx z s t=>?_);obtain⟨p,o,L,rfl,n,l,I,r⟩:=t.ch;obtain⟨C,D,_,⟨m,w⟩,rfl,_⟩:=l;obtain⟨v,e1,e2⟩:=r j _ e;show⟨p,C,D,_,v,rfl,n,m,w f (MH (aT b)),kH b e1,q v z s e2⟩
  ·cases h
 ·cases h
theorem Av{α β:Type}(f:α->β)(xs:List α)(i:Int):L2.qk (xs.map f) i=(L2.qk xs i).map f:=by
 unfold L2.qk;rw[My]
 cases jL xs.length i with
 |none=>rfl
 |some j=>simp
theorem xt{α β:Type}{o:Option α}{g:α->β}{b:β}(h:o.map g=PB b):∃a,o=PB a/\b=g a:=by
 cases o with
 |none=>cases h
 |some a=>cases h;show⟨a,rfl,rfl⟩
theorem xu{xs:List D}{i:Int}{r:KD}(h:Jo k xs i=PB r):∃j,jL xs.length i=PB j/\xs[j]?=PB r.2/\r.1=o5 k j:=by
 unfold Jo at h
 cases e:jL xs.length i with
 |none=>rw[e] at h;cases h
 |some j=>
  rw[e] at h;obtain⟨d,e1,e2⟩:=xt h;show⟨j,rfl,by rw[e1,e2],by rw[e2]⟩
theorem Aw{p:Nat×List DK×List D}{r:KD}(h:qW k p y=PB r):∃q j,iV y=PB q/\g8 p.1 q=PD/\aR p.2.1 q=PB j/\p.2.2[j]?=PB r.2/\r.1=o5 k j:=by
 unfold qW at h
 cases e:iV y with
 |none=>rw[e] at h;cases h
 |some q=>
  rw[e] at h;by_cases a:g8 p.1 q=PD
  ·dsimp only at h;rw[if_pos a] at h
   cases e1:aR p.2.1 q with
   |none=>rw[e1] at h;cases h
   |some j=>
    rw[e1] at h;obtain⟨d,e2,e3⟩:=xt h;show⟨q,j,rfl,a,e1,by rw[e2,e3],by rw[e3]⟩
  ·dsimp only at h;rw[if_neg a] at h;cases h
theorem Ax{p:Nat×List DK×List D}(h:DX x=PB p):x=.nd (.dic p.1 p.2.1) p.2.2:=by
 cases x with
 |nd a c=>cases a with
  |dic t b=>cases h;rfl
  |_=>cases h
 |_=>cases h
theorem sU{x y r:KD}(h:DY x y=PB r):(∃i,y.2=.int i/\Kg x.1 x.2 i=PB r)\/∃p,x.2=.nd (.dic p.1 p.2.1) p.2.2/\qW x.1 p y.2=PB r:=by
 unfold DY at h
 cases e:DX x.2 with
 |some p=>rw[e] at h;show .inr ⟨p,Ax e,h⟩
 |none=>
  rw[e] at h;obtain⟨b,a⟩:=y
  cases a with
  |int i=>show .inl ⟨i,rfl,h⟩
  |_=>cases h
theorem sV{Q:VK}(h:Kg k dx i=PB (kd,d))(b:VR K g H0 H2 k dx vx)(q:∀v,VR K g H0 H2 kd d v->Q v H2):LJ K vx (.int i) H2 Q:=by
 cases dx with
 |nd t w=>cases t with
  |lst=>
   obtain⟨j,r,e,rfl⟩:=xu h;obtain⟨p,o,n,rfl,a,f,l,m⟩:=b.ch;cases(show o=_ from f);obtain⟨v,e1,e2⟩:=m j _ e;show .inl ⟨p,n,i,v,rfl,rfl,.of a,by unfold L2.qk;rw[l,r];show e1,q v e2⟩
  |tup=>
   obtain⟨j,r,e,rfl⟩:=xu h;obtain⟨p,o,n,rfl,a,f,l,m⟩:=b.ch;cases(show o=_ from f);obtain⟨v,e1,e2⟩:=m j _ e;show .inr (.inl ⟨p,n,i,v,rfl,rfl,.of a,by unfold L2.qk;rw[l,r];show e1,q v e2⟩)
  |_=>cases h
 |scr ns=>
  obtain⟨s,e,u⟩:=xt (show(L2.qk ns i).map _=PB (kd,d) from h);cases u;obtain⟨p,rfl,a⟩:=b.rd.scr;show .inl ⟨p,_,i,.int s,rfl,rfl,a,by rw[Av,e];rfl,q _ oY⟩
 |str z=>
  by_cases c:z.length<=100000
  ·let h:(DW z i).map _=PB (kd,d):=(if_pos c).symm.trans h;unfold DW at h
   cases e:L2.qk z.cps.toList i with
   |none=>rw[e] at h;cases h
   |some s=>
    rw[e] at h;cases h;obtain rfl:=b.rd.str;show .inr (.inr ⟨z,i,s,rfl,rfl,aL c,e,q _ Ha⟩)
  ·cases(if_neg c).symm.trans h
 |_=>cases h
theorem o8{p:Nat×List DK×List D}{Q:VK}(h:qW k p dy=PB (kd,d))(n:VR K g H0 H2 k (.nd (.dic p.1 p.2.1) p.2.2) vx)(r:VR K g H0 H2 ky dy vy)(q:∀v,VR K g H0 H2 kd d v->Q v H2):∃b v,vx=.ref b/\DGet H2 b vy (PB v)/\Q v H2:=by
 obtain⟨t,j,s,i,c,e,rfl⟩:=Aw h;obtain⟨b,o,w,rfl,l,f,u,m⟩:=n.ch;obtain⟨v,e1,e2⟩:=m j _ e;let a:=jV l f s r.rd i;rw[c,Nl,e1] at a;show⟨b,v,rfl,a,q v e2⟩
theorem Kh(O:ao X U c){k fb:Ro->Option KD}(z:SndE X k a)(t:SndE X fb b)(w:cZ b=PD):SndE X (λZ=>xr (k Z) (fb Z)) (.Subscript a b pos):=by
 intro Z F d h g Y H Q u q;dsimp only[xr] at h
 cases f:k Z with
 |none=>rw[f] at h;cases h
 |some x=>cases j:fb Z with
  |none=>rw[f,j] at h;cases h
  |some y=>
   rw[f,j] at h;obtain⟨E,D⟩:=x;obtain⟨I,B⟩:=y;rcases sU h with⟨i,e,l⟩|⟨p,e,l⟩
   ·cases(show B=_ from e);show am (sI m6 aw aw (bW w)) (two z t f j u λA C m s n o=>?_);obtain rfl:=o.rd.int;show sV l n λv r=>q v m s r
   ·cases(show D=_ from e);show am (m9 (by have:=O.tab.units;lia) aw aw (bW w)) (two z t f j u λA C m s n o=>o8 l n o λv r=>q v m s r)
def f8(xs:List D)(lo hi:Option Int):List D:=(xs.drop (HT.ca xs.length 0 lo)).take (HT.ca xs.length xs.length hi-HT.ca xs.length 0 lo)
theorem RpL.cut(h:RpL K H S ds vs)(lo hi:Option Int):RpL K H S (f8 ds lo hi) (oK vs lo hi):=by
 unfold f8 oK;rw[h.len];show(h.drop _).take _
def wO(X:Cx)(e:Option PK):TO:=λY H Q=>∃t,PO X e t/\t Y H Q
theorem qX:PO X e (wO X e):=λa s Y H Q I h=>let ⟨t,p,q⟩:=h;p a s Y H Q I q
def vq(X:Cx)(f:Ro->Option (Option Int))(e:Option PK):Prop:=∀Z o,f Z=PB o->∀g Y H Q,SE X.K g Z Y H->(∀H',Same H H'->Q o H')->wO X e Y H Q
noncomputable def Ay(a:Option KD):Option (Option Int):=match a with|some (_,.int i)=>PB (PB i)|_=>PC
theorem DZ:vq X (λ_=>PB PC) PC:=λZ o h g Y H Q a q=>by cases h;show⟨_,z8,q H (Same.refl H)⟩
theorem D0{f:Ro->Option KD}(a:SndE X f e):vq X (λZ=>Ay (f Z)) (PB e):=λZ o h g Y H Q d q=>by
 dsimp only[Ay] at h;split at h
 ·ext k i c;cases h;show⟨_,z9 aw,a Z _ _ c g Y H _ d λv b s r=>⟨i,r.rd.int,q b s⟩⟩
 ·cases h
def F5(a:Option KD)(lo hi:Option (Option Int)):Option KD:=match a,lo,hi with
 |some (ka,.nd .lst xs),PB l,PB u=>if dF ka xs=PD then PB (.fr bQ,.lst (f8 xs l u)) else PC
 |some (_,.scr ns),PB l,PB u=>PB (.fr bQ,.lst (f8 (ns.map .int) l u))
 |some (ka,.nd .tup xs),PB l,PB u=>if dF ka xs=PD then PB (.sh,.tup (f8 xs l u)) else PC
 |_,_,_=>PC
theorem Ki{M:Ro->Option KD}{N I:Ro->Option (Option Int)}(F:SndE X M a)(E:vq X N lo)(C:vq X I hi):SndE X (λZ=>F5 (M Z) (N Z) (I Z)) (.Subscript a (.Slice lo hi PC p2) pos):=by
 intro Z O d h g Y H Q f q;dsimp only[F5] at h;split at h
 ·ext K j l u t y m;split at h
  ·ext hk;cases h;show am (km sJ aw qX qX) (F Z _ _ t g Y H _ f λx A s1 k=>E Z _ y g Y A _ (f.same s1) λs s2=>C Z _ m g Y s _ ((f.same s1).same s2) λB c=>?_);obtain⟨p,o,w,rfl,i,D,r⟩:=((k.same s2).same c).items hk f.mu ((s1.trans s2).trans c);cases(show o=_ from D);show⟨p,w,rfl,.of i,λL b=>q _ _ (((s1.trans s2).trans c).trans (ae b)) ((lJ b (r.cut l u)).older ((s1.trans s2).trans c))⟩
  ·cases h
 ·ext K ns l u t y m;cases h;show am (km sJ aw qX qX) (F Z _ _ t g Y H _ f λx A s1 k=>E Z _ y g Y A _ (f.same s1) λs s2=>C Z _ m g Y s _ ((f.same s1).same s2) λB c=>?_);obtain⟨p,rfl,i⟩:=((k.same s2).same c).rd.scr;show⟨p,_,rfl,i,λL b=>q _ _ (((s1.trans s2).trans c).trans (ae b)) ((lJ b ((RpL.ints ns).cut l u)).older ((s1.trans s2).trans c))⟩
 ·ext K j l u t y m;split at h
  ·ext hk;cases h;show am (km (sl_tup.or Ad) aw qX qX) (F Z _ _ t g Y H _ f λx A s1 k=>E Z _ y g Y A _ (f.same s1) λs s2=>C Z _ m g Y s _ ((f.same s1).same s2) λB c=>?_);obtain⟨p,o,w,rfl,i,D,r⟩:=((k.same s2).same c).items hk f.mu ((s1.trans s2).trans c);cases(show o=_ from D);by_cases v:HT.ca j.length 0 l=0/\HT.ca j.length j.length u=j.length
   ·show .inr ⟨p,w,rfl,.of i,by rw[r.len];show v.1,by rw[r.len];show v.2,q _ B ((s1.trans s2).trans c) (FY ?_)⟩;let e:f8 j l u=j:=by unfold f8;rw[v.1,v.2,O5,Pf,Nx]
    rw[e];unfold Rp;show⟨p,_,w,rfl,λz=>?_,i,rfl,r⟩;obtain⟨o,e,n⟩:=(f.mu.same ((s1.trans s2).trans c)) p z;rw[i] at e;cases e;show n _ rfl
   ·show .inl ⟨p,w,rfl,.of i,by rw[r.len];show v,λL b=>q _ _ (((s1.trans s2).trans c).trans (ae b)) ((xk (f.mu.same ((s1.trans s2).trans c)) b (r.cut l u)).older ((s1.trans s2).trans c))⟩
  ·cases h
 ·cases h
theorem RpL.pick{ds:List D}{us:List V}(r:RpL K H S ds us):∀a:List Nat,RpL K H S (a.filterMap λi=>ds[i]?) (a.filterMap λi=>us[i]?)
 |[]=>.nil
 |i::a=>by
  let b:=RpL.pick r a;by_cases h:i<ds.length
  ·obtain⟨u,e1,e2⟩:=r.getD (MF h);rw[Nf,Nf,MF h,e1];show .cons e2 b
  ·rw[Nf,Nf,Np (by lia),Np (by rw[r.len];lia)];show b
def Hq(x:KD)(l:Option Int)(d:D):Option KD:=match x.2 with
 |.nd hd xs=>(match hd with
  |.lst=>(match d with|.int k=>if dF x.1 xs=PD/\1<=k then PB (.fr bQ,.lst (G.cw xs l (PB k))) else PC|_=>PC)
  |_=>PC)
 |_=>PC
def xv(a:Option KD)(lo:Option (Option Int))(b:Option KD):Option KD:=match a with
 |some x=>(match lo with|some l=>(match b with|some y=>Hq x l y.2|none=>PC)|none=>PC)
 |none=>PC
theorem Hr{m fs:Ro->Option KD}{r:Ro->Option (Option Int)}{a st:PK}{lo:Option PK}{p2 pos:Pos}(P:SndE X m a)(M:vq X r lo)(R:SndE X fs st):SndE X (λZ=>xv (m Z) (r Z) (fs Z)) (.Subscript a (.Slice lo PC (PB st) p2) pos):=by
 intro Z u d h g Y H Q f q;dsimp only at h
 cases c:m Z with
 |none=>rw[c] at h;cases h
 |some x=>cases i:r Z with
  |none=>rw[c,i] at h;cases h
  |some l=>cases j:fs Z with
   |none=>rw[c,i,j] at h;cases h
   |some y=>
    rw[c,i,j] at h;let h:Hq x l y.2=PB (u,d):=h;obtain⟨E,S⟩:=x;obtain⟨W,F⟩:=y
    cases S with
    |nd T n=>cases T with
     |lst=>cases F with
      |int k=>
       obtain⟨hk,e⟩:=vm (show(if dF E n=PD/\1<=k then PB (Kd.fr bQ,D.lst (G.cw n l (PB k))) else PC)=PB (u,d) from h)
       cases e;show am (G.DO aw qX aw) (P Z _ _ c g Y H _ f λv U s1 L=>M Z _ i g Y U _ (f.same s1) λN s2=>R Z _ _ j g Y N _ ((f.same s1).same s2) λw A s O=>?_);let s13:=(s1.trans s2).trans s;obtain⟨p,o,z,rfl,I,B,t⟩:=((L.same s2).same s).items hk.1 f.mu s13;cases(show o=_ from B);obtain rfl:=O.rd.int
       let C:RpL X.K A (Sg g) (G.cw n l (PB k)) (G.cw z l (PB k)):=by
        unfold G.cw;rw[t.len];show t.pick _
       show⟨p,z,k,rfl,rfl,by lia,.of I,λV b=>q _ _ (s13.trans (ae b)) ((lJ b C).older s13)⟩
      |_=>cases h
     |_=>cases h
    |_=>cases h
end
end J
namespace G
open PyProof.Rows
def Ri(xs:Array Nat):Prop:=xs.toList.Pairwise (· < ·)
structure Gd(led:Bool)(t:SetTable):Prop where
 ri:Ri t.place
 nod:t.dummies=#[]
 led:t.led=led
def ns(es:List (Int×PH)):List Int:=es.map λe=>numOf e.2
def addI(q:List Int)(k:Int):List Int:=if k∈q then q else q++[k]
end G
namespace J
section
variable {X:Cx}
theorem lL(M:X.calm=PD):gT X (.builtin "all") (λxs H Q=>∃(p:PL) (bs:List Bool),xs=[.ref p]/\SqL X.K H p (bs.map V.bl)/\Q (.bl (bs.all id)) H):=by
 intro y s Y H xs W Q I r h;obtain⟨p,bs,rfl,N,q⟩:=h;obtain⟨u,rfl,D⟩:=ki r;cases D;obtain⟨a,j,l,O⟩:=I.list N;let f:=j.length;let C:X.A.in1.handled=PC:=I.ok.hd M
 let k:p≠s.heap.objs.size:=by
  obtain⟨o,n,e,_⟩:=l;show MM (MC e)
 show call_all_walk (Qf l.isList ?_)
 let L:(s.heap.push { cls:=.type "list_iterator",data:=.fields #[.ref p,.int 0 0] }).IsList p a.toArray:=by
  obtain⟨o,e,r⟩:=l.isList;show⟨o,Mx _ e,r⟩
 show⟨s.heap.objs.size,_,_,_,_,_,λi=>(bs[i]?).getD PF,rfl,Walks.list C s.heap.objs.size p k a.toArray,⟨⟨_,ML _ rfl,rfl,rfl⟩,L⟩,λi v P S U F w=>?_,λR T hk=>?_⟩
 ·let c:a[i]?=PB v:=by simpa using F
  cases g:bs[i]? with
  |none=>
   let m:(bs.map V.bl)[i]?=PC:=by rw[MA,g];rfl
   rw[j.none_of m] at c;cases c
  |some b=>
   let m:(bs.map V.bl)[i]?=PB (.bl b):=by rw[MA,g];rfl
   obtain⟨u,e1,e2⟩:=j.get m;rw[c] at e1;cases e1;cases e2;simp only[g,Option.getD_some] at w;show P9 w
 ·let e:((Na a.toArray.size).all λi=>(bs[i]?).getD PF)=bs.all id:=by
   let E:a.toArray.size=bs.length:=by rw[MB,<- f,My]
   rw[E,Py];simp only[NI,NV,id];constructor
   ·intro h x B;obtain⟨i,d,rfl⟩:=Pb.mp B;have:=h i d;rw[MF d] at this;show this
   ·intro h i d;rw[MF d];show h _ (OR d)
  rw[e];show⟨.bl (bs.all id),H,I.kept λb o t=>hk b o (λz=>?_) (Mx _ t),rfl,q⟩;have:b=s.heap.objs.size:=by simpa using z
  show absurd (this▸MC t) (Ny _)
theorem o9:gT X (.builtin "isinstance") (λxs H Q=>∃x T t b,xs=[x,.ty T]/\qD X.K H x t/\NX X.K t (.type T)=PB b/\Q (.bl b) H):=by
 intro a s Y H xs j Q I r h;obtain⟨x,T,t,b,rfl,f,e,q⟩:=h;obtain⟨u,i,rfl,c,d⟩:=GK r;cases d;show u7 I c f e λg=>⟨.bl b,H,I.tok _,rfl,q⟩
theorem vt:gT X (.type "int") (λxs H Q=>∃b:Bool,xs=[.bl b]/\Q (.int (if b then 1 else 0)) H):=by
 intro a s Y H xs d Q I r h;obtain⟨b,rfl,q⟩:=h;obtain⟨u,rfl,c⟩:=ki r;cases c;show call_int_bool ⟨.int _,H,I.tok _,⟨_,rfl⟩,q⟩
end
noncomputable def Az:D->Option Nat
 |.nd .lst ds=>PB ds.length
 |.nd .tup ds=>PB ds.length
 |.scr ns=>PB ns.length
 |_=>PC
noncomputable def c4:List D->Option (List Bool)
 |[]=>PB []
 |.bl b::r=>(c4 r).map (b::·)
 |_=>PC
theorem kI:∀{ds:List D} {bs:List Bool},c4 ds=PB bs->ds=bs.map D.bl
 |[],bs,h=>by cases h;rfl
 |d::r,bs,h=>by
  cases d<;>simp only[c4] at h<;>try cases h
  ext b
  cases e:c4 r with
  |none=>rw[e] at h;cases h
  |some a=>rw[e] at h;cases h;rw[kI e];rfl
theorem jD:∀ns:List Bool,c4 (ns.map D.bl)=PB ns
 |[]=>rfl
 |n::ns=>by simp[c4,jD ns]
theorem RpL.bools:∀{bs:List Bool} {vs:List V},RpL K H S (bs.map D.bl) vs->vs=bs.map V.bl
 |[],_,h=>h.nil_inv
 |b::bs,_,h=>by
  obtain⟨y,a,rfl,r,t⟩:=h.cons_inv;rw[r.bl,RpL.bools t];rfl
def xw(kds:List KD):Option KD:=match kds with|[(_,d)]=>(Az d).map λn=>(.sh,.int n)|_=>PC
def D2(kds:List KD):Option KD:=match kds with|[(_,.nd .lst ds)]=>(c4 ds).map λbs=>(.sh,.bl (bs.all id))|_=>PC
def xx(kds:List KD):Option KD:=match kds with
 |[(k,.nd .lst ds)]=>if dF k ds=PD then PB (.fr bQ,.lst ds) else PC
 |[(k,.nd .tup ds)]=>if dF k ds=PD then PB (.fr bQ,.lst ds) else PC
 |[(_,.scr ns)]=>PB (.fr bQ,.lst (ns.map D.int))
 |_=>PC
noncomputable def D3:Kd->Kd
 |.fr (.own es (.own es' r))=>.fr (.own es (.own es' r))
 |_=>.sh
def qY(kds:List KD):Option KD:=match kds with
 |[(k,.nd .lst ds)]=>if dF k ds=PD then PB (D3 k,.tup ds) else PC
 |_=>PC
def Mf(kds:List KD):Option KD:=match kds with|[(_,.int i)]=>if i.natAbs.log2<1920 then PB (.sh,.str (toString i)) else PC|_=>PC
noncomputable def D4(kds:List KD):Option KD:=match kds with|[(_,.int i)]=>PB (.sh,.int (if i<0 then -i else i))|_=>PC
noncomputable def D5(kds:List KD):Option KD:=match kds with|[(_,.bl b)]=>PB (.sh,.int (if b then 1 else 0))|_=>PC
theorem Hs{H:Hp}{hd:Hd}(c:hd.mu=PD)(d:cW K o hd xs)(a:H p=PC)(r:RpL K H (Sg g) ds xs):VR K g H (upd H p o) (.fr bQ) (.nd hd ds) (.ref p):=by
 show⟨λb=>b=p,λb z=>z▸a,?_⟩;change Tr K _ _ _ _ _ _;unfold Tr;show⟨p,_,xs,λ_=>False,rfl,ak,d,λ_ z=>z,(λh=>by rw[c] at h;cases h),λb=>⟨λz=>.inl ⟨c,z⟩,λz=>z.elim (λz=>z.2) λz=>z.elim⟩,.ofFz (r.go λb o n e=>⟨ae a b o e,λz=>z.elim n λz=>?_⟩)⟩;subst z;rw[a] at e;cases e
def eK(x:Str):List KD->Option KD:=
 if x="len" then xw else if x="all" then D2 else if x="any" then(λ_=>PC) else if x="list" then xx else if x="tuple" then qY else if x="str" then(λ_=>PC) else if x="sum" then(λ_=>PC)
 else if x="min" then(λ_=>PC) else if x="max" then(λ_=>PC) else if x="abs" then D4 else if x="int" then D5 else if x="dict" then(λ_=>PC) else if x="repr" then(λ_=>PC) else λ_=>PC
def qZ(x:Str)(a:Option (List KD)):Option KD:=match a with|some kds=>eK x kds|none=>PC
def LK(X:Cx)(kds:List KD)(q:Kd)(d:D)(Q:VK)(vs:List V)(H1:Hp):Prop:=∃g H0,MuOk H0 (Sg g)/\Same H0 H1/\VRs X.K g H0 H1 kds vs/\∀v H',Same H1 H'->VR X.K g H0 H' q d v->Q v H'
def StrictOk(X:Cx)(f:List KD->Option KD)(es:List PK)(q:PK):Prop:=∀kds B d,f kds=PB (B,d)->∀Y H Q,wA X es Y H (LK X kds B d Q)->wE X q Y H Q
theorem cj{H:Hp}{Q d:List V->Hp->Prop}(h:wA X es Y H Q)(k:∀vs H,Q vs H->d vs H):wA X es Y H d:=λb a s I=>aY (h b a s I) λf g ⟨vs,c,e,r,q⟩=>⟨vs,c,e,r,k vs c q⟩
theorem jX{H:Hp}{Q c:VK}(h:wE X e Y H Q)(k:∀v H,Q v H->c v H):wE X e Y H c:=λa s I=>aY (h a s I) λu f ⟨v,b,d,r,q⟩=>⟨v,b,d,r,k v b q⟩
theorem StrictOk.snd{c:Ro->Option (List KD)}(h:StrictOk X f es node)(m:kF X c es):SndE X (λZ=>(c Z).bind f) node:=by
 intro Z l d b g Y H Q i q;dsimp only at b
 cases e:c Z with
 |none=>rw[e] at b;cases b
 |some a=>
  rw[e] at b;show h a l d b Y H Q (m Z a e g Y H _ i λn o s1 j=>⟨g,H,i.mu,s1,j,λv k s r=>q v k (s1.trans s) r⟩)
def ff(X:Cx)(x:Str)(f:List KD->Option KD):Prop:=∀(e:PK) (es:List PK) (p pos:Pos),Gl X x->ah e=PD->es.all ah=PD->StrictOk X f (e::es) (.Call (.Name x p) (e::es) [] pos)
section
variable {X:Cx} {U:Tab} {c:Cz}
theorem Ht(O:ao X U c):ff X "len" xw:=by
 intro e I p z u w x A N d h Y H Q B;unfold xw at h;split at h
 ·ext F l
  cases b:Az l with
  |none=>rw[b] at h;cases h
  |some n=>
   rw[b] at h;cases h;show am (gU (m8) u (O.tab.bl _ (by simp[aG])) PySem.boot_len cX (by decide) (by decide) (aj w) (bx x)) (cj B λD f ⟨g,L,m,s1,y,q⟩=>?_);obtain⟨v,rfl,r⟩:=y.one;let t:=r.rd
   cases l with
   |scr ns=>
    obtain⟨a,rfl,i⟩:=t.scr;cases b;show⟨a,_,rfl,.inl i,q _ f (Same.refl f) (by rw[My];show oY)⟩
   |nd C K=>
    obtain⟨a,o,s,rfl,_,i,j,k⟩:=t.nd
    cases C with
    |lst=>cases b;cases(show o=_ from j);show⟨a,s,rfl,.inl (.of i),q _ f (Same.refl f) (by rw[k.len];show oY)⟩
    |tup=>cases b;cases(show o=_ from j);show⟨a,s,rfl,.inr (.of i),q _ f (Same.refl f) (by rw[k.len];show oY)⟩
    |dic M E=>cases b
    |obj c ns=>cases b
   |_=>cases b
 ·cases h
theorem Hu(O:ao X U c):ff X "all" D2:=by
 intro e C p w j k s x E d h Y H Q z;unfold D2 at h;split at h
 ·ext B t
  cases b:c4 t with
  |none=>rw[b] at h;cases h
  |some y=>
   rw[b] at h;cases h;show am (gU (lL O.calm) j (O.tab.bl _ (by simp[aG])) PyProof.Rows.boot_all cX (by decide) (by decide) (aj k) (bx s)) (cj z λA i ⟨g,D,m,s1,u,q⟩=>?_);obtain⟨v,rfl,r⟩:=u.one;obtain⟨a,o,F,rfl,_,n,l,f⟩:=r.rd.nd;cases(show o=_ from l);rw[kI b] at f;show⟨a,y,rfl,.of (by rw[n,f.bools]),q _ i (Same.refl i) B5⟩
 ·cases h
theorem D6(O:ao X U c):ff X "list" xx:=by
 intro e E p C j k t D F d h Y H Q u;unfold xx at h;split at h
 ·ext y B;split at h
  ·ext hk;cases h;show am (dY eE j (O.tab.bl _ (by simp[aG])) PyProof.Rows.boot_list cX (by decide) (by decide) (aj k) (bx t)) (cj u λx A ⟨g,z,m,s1,i,q⟩=>?_);obtain⟨v,rfl,r⟩:=i.one;obtain⟨a,o,w,rfl,f,n,s⟩:=r.items hk m s1;cases(show o=_ from n);show⟨a,w,rfl,.inl (.of f),λl b=>q _ _ (ae b) ((lJ b s).older s1)⟩
  ·cases h
 ·ext y B;split at h
  ·ext hk;cases h;show am (dY eE j (O.tab.bl _ (by simp[aG])) PyProof.Rows.boot_list cX (by decide) (by decide) (aj k) (bx t)) (cj u λx A ⟨g,z,m,s1,i,q⟩=>?_);obtain⟨v,rfl,r⟩:=i.one;obtain⟨a,o,w,rfl,f,n,s⟩:=r.items hk m s1;cases(show o=_ from n);show⟨a,w,rfl,.inr (.of f),λl b=>q _ _ (ae b) ((lJ b s).older s1)⟩
  ·cases h
 ·ext y ns;cases h;show am (dY eE j (O.tab.bl _ (by simp[aG])) PyProof.Rows.boot_list cX (by decide) (by decide) (aj k) (bx t)) (cj u λx A ⟨g,z,m,s1,i,q⟩=>?_);obtain⟨v,rfl,r⟩:=i.one;obtain⟨a,rfl,f⟩:=r.rd.scr;show⟨a,_,rfl,.inl f,λl b=>q _ _ (ae b) ((lJ b (RpL.ints ns)).older s1)⟩
 ·cases h
theorem xy{H0 H1:Hp}(m:MuOk H0 (Sg g))(s1:Same H0 H1)(h:VR K g H0 H1 (.fr (.own es r)) (.nd .lst ds) v) :
  ∃a k,v=.ref a/\H1 a=PB (.lst k)/\∀l,H1 l=PC->VR K g H0 (upd H1 l (.tup k)) (.fr (.own es r)) (.tup ds) (.ref l):=by
 obtain⟨F,s,c⟩:=h;let c:Tr K H1 (Sx g F) (.nd .lst ds) (.own es r) v F:=c;unfold Tr at c;obtain⟨a,o,d,j,rfl,q,p,u,w,i,t⟩:=c;cases(show o=_ from p);show⟨a,d,rfl,q,λl f=>⟨j,λb z=>s b ((i b).mpr (.inr z)),?_⟩⟩;change Tr K _ _ (.nd .tup ds) (.own es r) _ _;unfold Tr
 show⟨l,.tup d,d,j,rfl,ak,rfl,(λh=>nomatch h),λ_ z=>?_,λb=>⟨.inr,λz=>z.elim (λz=>nomatch z.1) id⟩,t.go (λb o _ e=>ae f b o e) λb o _ n z=>n (z.imp id λz=>(i b).mpr (.inr z))⟩
 rcases z with z|z
 ·obtain⟨o,e,_⟩:=m.same s1 l z;rw[f] at e;cases e
 ·obtain⟨o,e,_⟩:=t.dom l z;rw[f] at e;cases e
theorem AA(O:ao X U c):ff X "tuple" qY:=by
 intro e C p w j k t x F d h Y H Q y;unfold qY at h;split at h
 ·ext B D;split at h
  ·ext hk;cases h;show am (dY lI j (O.tab.bl _ (by simp[aG])) PyProof.Rows.boot_tuple cX (by decide) (by decide) (aj k) (bx t)) (cj y λA I ⟨g,E,m,s1,u,q⟩=>?_);obtain⟨v,rfl,r⟩:=u.one;unfold D3 at q;split at q
   ·obtain⟨a,i,rfl,f,z⟩:=xy m s1 r;show⟨a,i,rfl,.inl ⟨.of f,λl b=>q _ _ (ae b) (z l b)⟩⟩
   obtain⟨a,o,i,rfl,f,n,s⟩:=r.items hk m s1;cases(show o=_ from n);show⟨a,i,rfl,.inl ⟨.of f,λl b=>q _ _ (ae b) ((xk (m.same s1) b s).older s1)⟩⟩
  ·cases h
 ·cases h
theorem xz{e:PK}{env:Env}{cp:Pos}(h:ah e=PD):((backTo cp (PU [e] env)).all (λx=>!x.1)&&(backToKw cp (keywordEach [] env)).all (λx=>x.1.isSome)
      && decide ([e].length+([]:List Keyword).length+(if([]:List Keyword).isEmpty then 0 else 1)<30))=PD:=by
  rw[aj h];rfl
noncomputable def ee:PK->Bool
 |.Name x _=>!(x==("super":Str))
 |.Subscript ..=>PD
 |.Attribute ..=>PD
 |_=>PF
theorem dH{b:PK}{m:Str}{env:Env}{w:Sem PH}(h:ee b=PD):attributeBase b m env w=w:=by
 cases b with
 |Name x p=>
  unfold attributeBase;let h:(x==("super":Str))=PF:=by simpa[ee] using h
  simp[h]
 |Subscript a b p=>rfl
 |Attribute a b p=>rfl
 |_=>cases h
inductive Kj (X:Cx) (Z:Ro):List (Option Expr)->List Expr->List aN->List KD->Prop
 |nil:Kj X Z [] [] [] []
 |cons {k v:PK} {kD:D} {x:aN} {kv:Kd} {d:D} {f:Ro->Option KD} {ks:List (Option PK)} {vs:List PK} {xs:List aN} {kds:List KD}:SndE X (λ_=>PB (.sh,kD)) k->e9 kD=PB x->SndE X f v->f Z=PB (kv,d)->qR kv d=PD->Kj X Z ks vs xs kds->Kj X Z (PB k::ks) (v::vs) (x::xs) ((kv,d)::kds)
theorem Hv(O:ao X U c):ff X "abs" D4:=by
 intro e x p f k l o j u d h Y H Q n;unfold D4 at h;split at h
 ·ext w i;cases h;show am (gU wL k (O.tab.bl _ (by simp[aG])) PyProof.Rows.boot_abs cX (by decide) (by decide) (aj l) (bx o)) (cj n λt a ⟨g,s,m,s1,b,q⟩=>?_);obtain⟨v,rfl,r⟩:=b.one;obtain rfl:=r.rd.int;show⟨i,rfl,q _ a (Same.refl a) oY⟩
 ·cases h
theorem Hw(O:ao X U c):ff X "int" D5:=by
 intro e x p i k l o j u d h Y H Q n;unfold D5 at h;split at h
 ·ext w b;cases h;show am (dY vt k (O.tab.bl _ (by simp[aG])) PyProof.Rows.boot_int cX (by decide) (by decide) (aj l) (bx o)) (cj n λt a ⟨g,s,m,s1,f,q⟩=>?_);obtain⟨v,rfl,r⟩:=f.one;obtain rfl:=r.rd.bl;show⟨b,rfl,q _ a (Same.refl a) oY⟩
 ·cases h
theorem ef:ff X x (λ_=>PC):=λe g p a c i j b f d h=>by cases h
theorem i5{x y:Str}(h1:x=y->ff X x f)(h2:ff X x g):ff X x (if x=y then f else g):=by
 by_cases h:x=y
 ·rw[if_pos h];show h1 h
 ·rw[if_neg h];show h2
theorem pb(O:ao X U c)(x:Str):ff X x (eK x):=by
 unfold eK;show i5 (λh=>?_) ?_
 ·first|show ef|(subst h;show Ht O)
 show i5 (λh=>?_) ?_
 ·first|show ef|(subst h;show Hu O)
 show i5 (λh=>?_) ?_
 ·first|show ef|(subst h;show b_any O)
 show i5 (λh=>?_) ?_
 ·first|show ef|(subst h;show D6 O)
 show i5 (λh=>?_) ?_
 ·first|show ef|(subst h;show AA O)
 show i5 (λh=>?_) ?_
 ·first|show ef|(subst h;show b_str O)
 show i5 (λh=>?_) ?_
 ·first|show ef|(subst h;show b_sum O)
 show i5 (λh=>?_) ?_
 ·first|show ef|(subst h;show b_min O)
 show i5 (λh=>?_) ?_
 ·first|show ef|(subst h;show b_max O)
 show i5 (λh=>?_) ?_
 ·first|show ef|(subst h;show Hv O)
 show i5 (λh=>?_) ?_
 ·first|show ef|(subst h;show Hw O)
 show i5 (λh=>?_) ?_
 ·first|show ef|(subst h;show b_dict O)
 show i5 (λh=>?_) ?_
 ·first|show ef|(subst h;show b_repr O)
 ·intro e i p a f j k b g d h;cases h
theorem Hx(O:ao X U c){es:List PK}{a:Ro->Option (List KD)}(b:kF X a (e::es))(d:iY c.sc x=PD)(f:ah e=PD)(g:es.all ah=PD):SndE X (λZ=>qZ x (a Z)) (.Call (.Name x p) (e::es) [] pos):=by
 have:=(pb O x e es p pos (dG O d) f g).snd b
 rw[show(λZ=>qZ x (a Z))=λZ=>(a Z).bind (eK x) by funext Z;unfold qZ;cases a Z<;>rfl]
 show this
end
inductive Src where
 |non|l (a:PL) (ds:List D)|t (a:PL) (ds:List D)|two (s u:Src)|ob (a:PL) (u:HO) (xs:List V) (ds:List D)
def Src.P(K:Mu):Src->Gh->Hp->Prop
 |.non,_,_=>True
 |.l a ds,g,H=>∃xs,SqL K H a xs/\RpL K H (Sg g) ds xs
 |.ob a u xs ds,g,H=>H a=PB u/\RpL K H (Sg g) ds xs
 |.t a ds,g,H=>∃xs,SqT K H a xs/\RpL K H (Sg g) ds xs
 |.two s u,g,H=>s.P K g H/\u.P K g H
def Src.isL(b:PL):Src->Prop
 |.non=>False
 |.l a _=>a=b
 |.ob a ..=>a=b
 |.t _ _=>False
 |.two s u=>s.isL b\/u.isL b
def Src.isT(b:PL):Src->Prop
 |.non=>False
 |.l _ _=>False
 |.ob ..=>False
 |.t a _=>a=b
 |.two s u=>s.isT b\/u.isT b
def Src.from(g:Gh)(H:Hp)(bs:List Nat):Src->Prop
 |.non=>True
 |.l a _=>g a=PC\/∃i∈bs,g a=PB (PB i)
 |.ob a ..=>g a=PC\/∃i∈bs,g a=PB (PB i)
 |.t a _=>g a=PC
 |.two s u=>s.from g H bs/\u.from g H bs
theorem Src.from.from_l{g:Gh}{bs:List Nat}{b:PL}:∀{s:Src},s.from g H bs->s.isL b->g b=PC\/∃i∈bs,g b=PB (PB i)
 |.l a _,h,e=>by cases(show a=b from e);show h
 |.ob a ..,h,e=>by cases(show a=b from e);show h
 |.two s u,h,e=>by
  rcases(show s.isL b\/u.isL b from e) with e|e
  ·show Src.from.from_l (show s.from g H bs/\u.from g H bs from h).1 e
  ·show Src.from.from_l (show s.from g H bs/\u.from g H bs from h).2 e
 |.non,_,e=>e.elim
 |.t _ _,_,e=>e.elim
theorem Src.from.from_t{g:Gh}{bs:List Nat}{b:PL}:∀{s:Src},s.from g H bs->s.isT b->g b=PC
 |.t a _,h,e=>by cases(show a=b from e);show h
 |.two s u,h,e=>by
  rcases(show s.isT b\/u.isT b from e) with e|e
  ·show Src.from.from_t (show s.from g H bs/\u.from g H bs from h).1 e
  ·show Src.from.from_t (show s.from g H bs/\u.from g H bs from h).2 e
 |.non,_,e=>e.elim
 |.l _ _,_,e=>e.elim
 |.ob ..,_,e=>e.elim
theorem Src.from.from_H{bs:List Nat}:∀{s:Src},s.from g H bs->s.from g H' bs
 |.t a _,h=>h
 |.l a _,h=>h
 |.ob ..,h=>h
 |.non,_=>trivial
 |.two s u,h=>⟨Src.from.from_H (show s.from g H bs/\u.from g H bs from h).1,Src.from.from_H (show s.from g H bs/\u.from g H bs from h).2⟩
theorem Src.from.from_mono{bs b:List Nat}(k:∀i∈bs,i∈b):∀{s:Src},s.from g H bs->s.from g H b
 |.t a _,h=>h
 |.l a _,h=>Or.imp_right (λ⟨i,c,d⟩=>⟨i,k i c,d⟩) h
 |.ob ..,h=>Or.imp_right (λ⟨i,c,d⟩=>⟨i,k i c,d⟩) h
 |.non,_=>trivial
 |.two s u,h=>⟨Src.from.from_mono k (show s.from g H bs/\u.from g H bs from h).1,Src.from.from_mono k (show s.from g H bs/\u.from g H bs from h).2⟩
section
variable {K:Mu} {H H':Hp} {g g':Gh}
theorem xA(k:∀o,H a=PB o->H' a=PB o)(h:SqL K H a xs):SqL K H' a xs:=by
 rcases h with(h|⟨o,h⟩)|h
 ·show .inl (.inl (k _ h))
 ·show .inl (.inr ⟨o,k _ h⟩)
 ·show .inr h
theorem xB(k:∀o,H a=PB o->H' a=PB o)(h:SqT K H a xs):SqT K H' a xs:=by
 rcases h with(h|⟨o,h⟩)|h
 ·show .inl (.inl (k _ h))
 ·show .inl (.inr ⟨o,k _ h⟩)
 ·show .inr h
theorem Src.mono(d:∀b o,H b=PB o->¬Sg g b->¬Sg g' b):∀{s:Src},(∀b o,(¬Sg g b\/s.isL b)->H b=PB o->H' b=PB o)->(∀a,s.isT a->g a=PC)->s.P K g H->s.P K g' H'
 |.non,_,_,_=>trivial
 |.l a ds,k,ht,h=>by
  obtain⟨c,i,f⟩:=h;show⟨c,xA (λo e=>k a o (.inr rfl) e) i,f.go λb o n e=>⟨k b o (.inl n) e,d b o e n⟩⟩
 |.ob a u c ds,k,ht,h=>⟨k a _ (.inr rfl) (show H a=PB u/\RpL K H (Sg g) ds c from h).1,(show H a=PB u/\RpL K H (Sg g) ds c from h).2.go λb o n e=>⟨k b o (.inl n) e,d b o e n⟩⟩
 |.t a ds,k,ht,h=>by
  obtain⟨c,i,f⟩:=h;show⟨c,xB (λo e=>k a o (.inl (by rw[Sg,ht a rfl];simp)) e) i,f.go λb o n e=>⟨k b o (.inl n) e,d b o e n⟩⟩
 |.two s u,k,ht,h=>⟨Src.mono d (λb o z=>k b o (z.imp id .inl)) (λa z=>ht a (.inl z)) (show s.P K g H/\u.P K g H from h).1,Src.mono d (λb o z=>k b o (z.imp id .inr)) (λa z=>ht a (.inr z)) (show s.P K g H/\u.P K g H from h).2⟩
end
def i6(K:Mu)(J:It)(s:Src)(ds:List D):Prop:=∀(i:Nat) (g:Gh) (H:Hp),s.P K g H->MuOk H (Sg g)->
 (ds.length<=i->J.stop i H)/\∀d,ds[i]?=PB d->J.go i H/\∀x H',J.yld i H x H'->Same H H'/\Rp K H' (Sg g) d x
section
variable {K:Mu}
theorem D7:i6 K (FV K a) (.l a ds) ds:=by
 rintro i g H ⟨c,b,r⟩ m
 show⟨λf=>⟨c,b,by rw[r.len];show f⟩,λd h=>?_⟩;obtain⟨x,e1,e2⟩:=r.getD h;show⟨⟨c,x,b,e1⟩,λy j e=>?_⟩;obtain⟨rfl,e⟩:=e;have:=e c b;rw[e1] at this;cases this;show⟨Same.refl _,e2⟩
theorem Kl:i6 K (JP K a) (.t a ds) ds:=by
 rintro i g H ⟨c,b,r⟩ m
 show⟨λf=>⟨c,b,by rw[r.len];show f⟩,λd h=>?_⟩;obtain⟨x,e1,e2⟩:=r.getD h;show⟨⟨c,x,b,e1⟩,λy j e=>?_⟩;obtain⟨rfl,e⟩:=e;have:=e c b;rw[e1] at this;cases this;show⟨Same.refl _,e2⟩
theorem D8{ds:List D}:i6 K (G.Jm K a) (.l a ds) (ds.mapIdx λi d=>D.tup [.int i,d]):=by
 rintro i g H ⟨f,e,r⟩ m
 show⟨λj=>⟨f,e,by rw[r.len];simpa using j⟩,λd b=>?_⟩;rw[List.getElem?_mapIdx] at b
 cases q:ds[i]? with
 |none=>rw[q] at b;cases b
 |some n=>
  rw[q] at b;cases b;obtain⟨x,e1,e2⟩:=r.getD q;show⟨⟨f,x,e,e1⟩,λy k h=>?_⟩;obtain⟨p,v,c,rfl,rfl,h⟩:=h;have:=h f e;rw[e1] at this;cases this;show⟨ae c,?_⟩;unfold Rp;show⟨p,_,_,rfl,λz=>?_,ak,rfl,.cons (by unfold Rp;rfl) (.cons (e2.same (ae c)) .nil)⟩;obtain⟨o,q,_⟩:=m p z;rw[c] at q;cases q
theorem Hy(lo:Int)(n:Nat):i6 K (Gz lo n) .non ((Na n).map λ(k:Nat)=>D.int (lo+(k:Int))):=by
 rintro i g H _ m
 show⟨λe=>(by let c:n<=i:=(by simpa using e);show c),λd b=>?_⟩;rw[MA] at b
 cases q:(Na n)[i]? with
 |none=>rw[q] at b;cases b
 |some j=>
  rw[q] at b;cases b
  let a:i<n:=by
   have:=(Mv.mp q).1;simpa using this
  let f:j=i:=by
   rw[No a] at q;cases q;rfl
  subst f;show⟨a,λx l h=>?_⟩;obtain⟨rfl,rfl⟩:=h;show⟨Same.refl _,by unfold Rp;rfl⟩
end
def SndI(X:Cx)(f:Ro->Option (List Nat×List D))(tg iter:PK):Prop:=∀Z bs ds,f Z=PB (bs,ds)->∀g Y H R,SE X.K g Z Y H->
 (∀J s H1,Same H H1->i6 X.K J s ds->s.P X.K g H1->s.from g H bs->R J H1)->wI X tg iter Y H R
noncomputable def q0:Kd->List Nat
 |.bo i _=>[i]
 |_=>[]
def hR(a:Option KD):Option (List Nat×List D):=match a with
 |some (k,.nd .lst ds)=>if dF k ds=PD then PB (q0 k,ds) else PC
 |some (_,.scr ns)=>PB ([],ns.map D.int)
 |_=>PC
def q5(a:Option KD):Option (List Nat×List D):=match a with
 |some (k,.nd .tup ds)=>if dF k ds=PD then PB ([],ds) else PC
 |a=>hR a
def vA(a:Option KD):Option (List Nat×List D):=(hR a).map λp=>(p.1,p.2.mapIdx λi d=>D.tup [.int i,d])
def kJ(xs ys:List D):List D:=List.zipWith (λx y=>D.tup [x,y]) xs ys
def q8(a b:Option KD):Option (List Nat×List D):=match hR a with
 |some (bs,xs)=>(match hR b with|some (bs',ys)=>PB (bs++bs',kJ xs ys)|none=>PC)
 |none=>PC
noncomputable def fU(i j:Int):Bool:=decide (-(2^62)<=i)&&decide (i<2^62)&&decide (-(2^62)<=j)&&decide (j<2^62)&&decide (j-i<=100000)
noncomputable def dR(i j:Int):List D:=(Na (j-i).toNat).map λ(k:Nat)=>D.int (i+(k:Int))
def q9(a b:Option KD):Option (List Nat×List D):=match a,b with
 |some (_,.int i),PB (_,.int j)=>if fU i j then PB ([],dR i j) else PC
 |_,_=>PC
noncomputable def mq:PK->Bool
 |.Tuple ..=>PD
 |_=>PF
section
variable {X:Cx} {U:Tab} {c:Cz}
theorem VR.scrK{g:Gh}{ns:List Int}(h:VR K g H H1 k (.scr ns) v):∃a,v=.ref a/\((g a=PC/\Rd H1 a (.lst (ns.map V.int)))\/G5 K a (ns.map V.int)):=by
 let c:∀{S:Pr},(∀b,g b≠PC->S b)->Rp K H1 S (.scr ns) v->∃a,v=.ref a/\((g a=PC/\Rd H1 a (.lst (ns.map V.int)))\/G5 K a (ns.map V.int)):=λj r=>by
  unfold Rp at r;obtain⟨a,e,r⟩:=r;show⟨a,e,r.imp (λr=>⟨?_,r.2⟩) id⟩
  cases q:g a with
  |none=>rfl
  |some i=>show absurd (j a (by rw[q];simp)) r.1
 obtain⟨F,m,d⟩:=h
 cases k with
 |sh=>show c (λb z=>.inl z) d.2
 |fr k=>have d:Tr _ _ _ _ _ _ _:=d;unfold Tr at d;show c (λb z=>.inl z) d.2
 |bo i k=>obtain⟨_,l,_,f⟩:=d;unfold Tr at f;show c (λb z=>.inl z) f.2
theorem Km{g:Gh}{hd:Hd}(u:hd.mu=PD)(m:MuOk H (Sg g))(s1:Same H H1)(h:VR K g H H1 k (.nd hd ds) (.ref a)):g a=PC\/∃i∈q0 k,g a=PB (PB i):=by
 let o:∀{S:Pr},(∀b,g b≠PC->S b)->¬S a->g a=PC:=λt n=>by
  cases q:g a with
  |none=>rfl
  |some i=>show absurd (t a (by rw[q];simp)) n
 cases k with
 |sh=>
  left;obtain⟨F,v,s,e⟩:=h;obtain⟨l,j,c,e1,d,_⟩:=e.nd;cases e1;show o (λb z=>.inl z) d
 |fr k=>
  left;obtain⟨l,j,c,e1,d,_⟩:=(h.sh rfl m s1).nd;cases e1;show o (λb z=>z) d
 |bo i k=>
  obtain⟨F,v,s,x,e,f⟩:=h
  cases k with
  |fz=>
   left;obtain⟨l,j,c,e1,d,_⟩:=f.fz_inv.2.nd;cases e1;show o (λb z=>.inl z) d
  |own y r=>
   right;unfold Tr at f;obtain⟨l,j,c,w,e1,_,_,_,_,p,_⟩:=f;cases e1;show⟨i,MY.mpr rfl,e a ((p a).mpr (.inl ⟨u,rfl⟩))⟩
theorem hUq{ds:List D}(m:MuOk H (Sg g))(s1:Same H H1)(h:VR K g H H1 k d v)(e:hR (PB (k,d))=PB (bs,ds)) :
  ∃a s,v=.ref a/\(∃w,SqL K H1 a w)/\i6 K (FV K a) s ds/\i6 K (G.Jm K a) s (ds.mapIdx λi d=>D.tup [.int i,d])/\s.P K g H1/\s.from g H bs:=by
 unfold hR at e;split at e
 ·ext x u j;cases j;split at e
  ·ext hk;cases e;obtain⟨a,o,r,rfl,p,f,y⟩:=h.items hk m s1;cases(show o=_ from f);show⟨a,.l a ds,rfl,⟨r,.of p⟩,D7,D8,⟨r,.of p,y⟩,Km rfl m s1 h⟩
  ·cases e
 ·ext x ns j;cases j;cases e;obtain⟨a,rfl,q⟩:=h.scrK;rcases q with⟨f,t⟩|q
  ·show⟨a,.l a _,rfl,⟨_,.inl t⟩,D7,D8,⟨_,.inl t,RpL.ints ns⟩,.inl f⟩
  ·show⟨a,.non,rfl,⟨_,.inr q⟩,λi b c _ n=>D7 i b c ⟨_,.inr q,RpL.ints ns⟩ n,λi b c _ n=>D8 i b c ⟨_,.inr q,RpL.ints ns⟩ n,trivial,trivial⟩
 ·cases e
theorem Hz{m:Ro->Option KD}{tg e:PK}(w:SndE X m e):SndI X (λZ=>q5 (m Z)) tg e:=by
 intro Z K y h g Y H R c q;dsimp only at h
 cases f:m Z with
 |none=>rw[f] at h;cases h
 |some L=>
  obtain⟨k,d⟩:=L;rw[f] at h;by_cases u:∃x,d=.str x
  ·obtain⟨x,rfl⟩:=u;cases h
  by_cases z:∃b,d=.tup b
  ·obtain⟨b,rfl⟩:=z;simp only[q5] at h;split at h
   ·ext hk;cases h;show kC (Do aw) (w Z k _ f g Y H _ c λv r s1 l=>?_);obtain⟨a,o,p,rfl,j,D,E⟩:=l.items hk c.mu s1;cases(show o=_ from D);show⟨a,rfl,⟨p,.of j⟩,q _ (.t a y) r s1 Kl ⟨p,.of j,E⟩ ?_⟩
    cases A:g a with
    |none=>show A
    |some i=>
     obtain⟨o,e1,n⟩:=c.mu.same s1 a (by rw[Sg,A];simp);rw[j] at e1;cases e1;show absurd rfl (n p)
   ·cases h
  ·let F:hR (PB (k,d))=PB (K,y):=by
    cases d with
    |nd N b=>cases N with
     |tup=>show absurd ⟨b,rfl⟩ z
     |_=>show h
    |str x=>show absurd ⟨x,rfl⟩ u
    |_=>show h
   show kC (zS aw) (w Z k d f g Y H _ c λv r s1 l=>?_);obtain⟨a,s,rfl,M,I,_,B,C⟩:=hUq c.mu s1 l F;show⟨a,rfl,M,q _ s r s1 I B C⟩
theorem HA(O:ao X U c){i:Ro->Option KD}{tg e:PK}(t:iY c.sc "enumerate" = PD)(j:ah e=PD)(B:mq tg=PD)(u:SndE X i e):SndI X (λZ=>vA (i Z)) tg (.Call (.Name "enumerate" p) [e] [] pos):=by
 intro Z K F h g Y H R l q;dsimp only at h
 cases b:i Z with
 |none=>rw[b] at h;cases h
 |some z=>
  obtain⟨k,d⟩:=z;rw[b] at h;unfold vA at h
  cases f:hR (PB (k,d)) with
  |none=>rw[f] at h;cases h
  |some r=>
   obtain⟨o,x⟩:=r;rw[f] at h;cases h
   cases tg with
   |Tuple E D I=>
    show kC (G.Ah (dG O t) (O.tab.bl _ (by simp[aG])) (bw aw dQ (aj j)) (aj j)) (u Z _ _ b g Y H _ l λv C s1 w=>?_);obtain⟨a,s,rfl,A,_,y,m,n⟩:=hUq l.mu s1 w f;show⟨a,rfl,A,q _ s C s1 y m n⟩
   |_=>show absurd B (by simp[mq])
theorem D9(O:ao X U c){b:Ro->Option KD}{tg e:PK}(k:iY c.sc "range" = PD)(d:ah e=PD)(o:SndE X b e):SndI X (λZ=>q9 (PB (.sh,.int 0)) (b Z)) tg (.Call (.Name "range" p) [e] [] pos):=by
 intro Z s r h g Y H R l q;dsimp only[q9] at h;split at h
 ·ext u i t j e1 m;cases e1;split at h
  ·ext a;simp only[fU,Mw,decide_eq_true_eq] at a;cases h;show kC (u0 (dG O k) (O.tab.bl _ (by simp[aG])) (bw aw dQ (aj d)) (aj d)) (o Z _ _ m g Y H _ l λv n s1 f=>?_);obtain rfl:=f.rd.int;show⟨j,rfl,a.1.1.2,a.1.2,q _ .non n s1 ?_ trivial trivial⟩;unfold dR;rw[Int.sub_zero];show Hy 0 _
  ·cases h
 ·cases h
theorem Ea(O:ao X U c){d fb:Ro->Option KD}(m:iY c.sc "range" = PD)(f:ah e=PD)(a:ah e2=PD)(u:SndE X d e)(k:SndE X fb e2):SndI X (λZ=>q9 (d Z) (fb Z)) tg (.Call (.Name "range" p) [e,e2] [] pos):=by
 intro Z w v h g Y H R n q;dsimp only[q9] at h;split at h
 ·ext A i z j s l;split at h
  ·ext b;simp only[fU,Mw,decide_eq_true_eq] at b;cases h;show kC (u3 (dG O m) (O.tab.bl _ (by simp[aG])) (bw aw (bw aw dQ (aj a)) (aj f)) (by rw[aj f,aj a];rfl) (aj a)) ?_;show two u k s l n λx y t s1 o r=>?_;obtain rfl:=o.rd.int;obtain rfl:=r.rd.int;show⟨i,j,rfl,⟨b.1.1.1.1,b.1.1.1.2,b.1.1.2,b.1.2⟩,q _ .non t s1 (Hy i _) trivial trivial⟩
  ·cases h
 ·cases h
theorem Eb(h1:i6 K (FV K a) s xs)(h2:i6 K (FV K b) u ys):i6 K (G.J7 K a b) (.two s u) (kJ xs ys):=by
 intro i g H k m;let k:s.P K g H/\u.P K g H:=k;obtain⟨s1,A⟩:=h1 i g H k.1 m;obtain⟨s2,t⟩:=h2 i g H k.2 m
 let E:∃c,SqL K H a c/\(xs.length<=i->c.length<=i):=by
  by_cases e:xs.length<=i
  ·obtain⟨c,e1,e2⟩:=s1 e;show⟨c,e1,λ_=>e2⟩
  ·obtain⟨⟨c,x,e1,_⟩,_⟩:=A _ (MF (Pq e));show⟨c,e1,λz=>absurd z e⟩
 let U:∃c,SqL K H b c/\(ys.length<=i->c.length<=i):=by
  by_cases e:ys.length<=i
  ·obtain⟨c,e1,e2⟩:=s2 e;show⟨c,e1,λ_=>e2⟩
  ·obtain⟨⟨c,x,e1,_⟩,_⟩:=t _ (MF (Pq e));show⟨c,e1,λz=>absurd z e⟩
 obtain⟨c,B,L⟩:=E;obtain⟨F,b1,b2⟩:=U;show⟨λe=>⟨c,F,B,b1,?_⟩,λd h=>?_⟩
 ·unfold kJ at e;rw[List.length_zipWith] at e;by_cases C:xs.length<=i
  ·show .inl (L C)
  ·show .inr (b2 (by lia))
 ·unfold kJ at h;rw[O6] at h
  cases j:xs[i]? with
  |none=>rw[j] at h;simp at h
  |some x=>
   cases n:ys[i]? with
   |none=>rw[j,n] at h;simp at h
   |some y=>
    rw[j,n] at h;simp only[Option.some.injEq] at h;subst h;obtain⟨⟨l,I,e1,e2⟩,S⟩:=A x j;obtain⟨⟨r,R,e3,e4⟩,N⟩:=t y n;show⟨⟨l,r,I,R,e1,e3,e2,e4⟩,λz V T=>?_⟩;obtain⟨p,v,w,f,rfl,rfl,M,O⟩:=T;let Q:=(S v H ⟨rfl,M⟩).2;let D:=(N w H ⟨rfl,O⟩).2;show⟨ae f,?_⟩;unfold Rp;show⟨p,_,_,rfl,λz=>?_,ak,rfl,.cons (Q.same (ae f)) (.cons (D.same (ae f)) .nil)⟩;obtain⟨o,q,_⟩:=m p z;rw[f] at q;cases q
theorem HB(O:ao X U c){m fb:Ro->Option KD}(A:iY c.sc "zip" = PD)(r:ah e=PD)(f:ah e2=PD)(T:mq tg=PD)(F:SndE X m e)(t:SndE X fb e2):SndI X (λZ=>q8 (m Z) (fb Z)) tg (.Call (.Name "zip" p) [e,e2] [] pos):=by
 intro Z bs ds h g Y H R o q;dsimp only[q8] at h
 cases j:m Z with
 |none=>rw[j] at h;cases h
 |some Q=>
  obtain⟨k,d⟩:=Q
  cases l:fb Z with
  |none=>
   rw[j,l] at h;split at h
   ·cases h
   ·cases h
  |some n=>
   obtain⟨k2,W⟩:=n;rw[j,l] at h;split at h
   ·ext N xs S;split at h
    ·ext E ys L;cases h
     cases tg with
     |Tuple es kk tp=>
      show kC (G.DN (dG O A) (O.tab.bl _ (by simp[aG])) (bw aw (bw aw dQ (aj f)) (aj r)) (by rw[aj r,aj f];rfl) (aj f)) ?_;show two F t j l o λx y V s1 C D=>?_;obtain⟨a,s,rfl,M,P,_,I,v⟩:=hUq o.mu s1 C S;obtain⟨b,u,rfl,B,K,_,w,f2⟩:=hUq o.mu s1 D L;show⟨a,b,rfl,M,B,q _ (.two s u) V s1 (Eb P K) ⟨I,w⟩ ⟨v.from_mono λi z=>N7 _ z,f2.from_mono λi z=>MJ _ z⟩⟩
     |_=>show absurd T (by simp[mq])
    ·cases h
   ·cases h
noncomputable def HC:D->Option String
 |.bl _=>PB "bool"
 |.int _=>PB "int"
 |.nd .lst _=>PB "list"
 |.nd .tup _=>PB "tuple"
 |_=>PC
def nB(T:Str)(d:D):Option Bool:=match HC d with
 |some t=>if T="int" then PB (t=="int" || t=="bool") else if T="bool" then PB (t=="bool") else if T="list" then PB (t=="list") else if T="tuple" then PB (t=="tuple") else PC
 |none=>PC
theorem HD{t:String}(h:Rp K H S d v)(e:HC d=PB t):qD K H v (.type t):=by
 cases d with
 |bl b=>obtain rfl:=h.bl;cases e;show .bl b
 |int b=>obtain rfl:=h.int;cases e;show .int b
 |nd f i=>
  cases f with
  |lst=>
   obtain⟨a,o,c,rfl,_,g,q,r⟩:=h.nd;cases e;cases(show o=_ from q);show .lst g
  |tup=>
   obtain⟨a,o,c,rfl,_,g,q,r⟩:=h.nd;cases e;cases(show o=_ from q);show .tup g
  |_=>cases e
 |_=>cases e
noncomputable def eh:List Str:=["int","bool","list","tuple"]
noncomputable def rc:List String:=["bool","int","list","tuple"]
theorem AB{p:String->Prop}(b:p "bool")(c:p "int")(e:p "list")(f:p "tuple"):∀t∈rc,p t:=by
 intro t a;simp only[rc,MD,MS,or_false] at a
 rcases a with rfl|rfl|rfl|rfl<;>assumption
theorem AC{t:String}(a:HC d=PB t):t∈rc:=by
 cases d with
 |nd b c=>cases b with
  |lst=>cases a;show .tail _ (.tail _ (.head _))
  |tup=>cases a;show .tail _ (.tail _ (.tail _ (.head _)))
  |_=>cases a
 |bl _=>cases a;show .head _
 |int _=>cases a;show .tail _ (.head _)
 |_=>cases a
theorem Ec:∀t∈rc,NX K (.type t) (.type "int")=PB (t=="int" || t=="bool"):=AB (by with_unfolding_all rfl) (by with_unfolding_all rfl) (by with_unfolding_all rfl) (by with_unfolding_all rfl)
theorem AD:∀t∈rc,NX K (.type t) (.type "bool")=PB (t=="bool"):=AB (by with_unfolding_all rfl) (by with_unfolding_all rfl) (by with_unfolding_all rfl) (by with_unfolding_all rfl)
theorem AE:∀t∈rc,NX K (.type t) (.type "list")=PB (t=="list"):=AB (by with_unfolding_all rfl) (by with_unfolding_all rfl) (by with_unfolding_all rfl) (by with_unfolding_all rfl)
theorem xC:∀t∈rc,NX K (.type t) (.type "tuple")=PB (t=="tuple"):=AB (by with_unfolding_all rfl) (by with_unfolding_all rfl) (by with_unfolding_all rfl) (by with_unfolding_all rfl)
theorem AF(h:nB T d=PB b):∃t f,HC d=PB t/\T∈eh/\bootBuiltins T=PB (.type f)/\NX K (.type t) (.type f)=PB b:=by
 unfold nB at h
 cases c:HC d with
 |none=>rw[c] at h;cases h
 |some t=>
  rw[c] at h;let a:=AC c;dsimp only at h;by_cases e:T="int"
  ·subst e;rw[if_pos rfl] at h;show⟨t,"int",rfl,by simp[eh],by rfl,(Ec t a).trans h⟩
  by_cases e1:T="bool"
  ·subst e1;rw[if_neg (by decide),if_pos rfl] at h;show⟨t,"bool",rfl,by simp[eh],by rfl,(AD t a).trans h⟩
  by_cases e2:T="list"
  ·subst e2;rw[if_neg (by decide),if_neg (by decide),if_pos rfl] at h;show⟨t,"list",rfl,by simp[eh],by rfl,(AE t a).trans h⟩
  by_cases e3:T="tuple"
  ·subst e3;rw[if_neg (by decide),if_neg (by decide),if_neg (by decide),if_pos rfl] at h;show⟨t,"tuple",rfl,by simp[eh],by rfl,(xC t a).trans h⟩
  rw[if_neg e,if_neg e1,if_neg e2,if_neg e3] at h;cases h
def vB(T:Str)(a:Option KD):Option KD:=match a with|some (_,d)=>bV (nB T d)|none=>PC
theorem HE(O:ao X U c){j:Ro->Option KD}(s:iY c.sc "isinstance" = PD)(f:iY c.sc T=PD)(l:ah a=PD)(A:SndE X j a):SndE X (λZ=>vB T (j Z)) (.Call (.Name "isinstance" p) [a,.Name T p2] [] pos):=by
 intro Z B d h g Y H Q u q;dsimp only[vB] at h;split at h
 ·ext C x w
  cases e:nB T x with
  |none=>rw[e] at h;cases h
  |some b=>
   rw[e] at h;cases h;obtain⟨t,m,y,k,o,r⟩:=AF (K:=X.K) e
   let i:T∈aG/\T≠"__name__"/\(T==("__debug__":Str))=PF:=by
    simp only[eh,MD,MS,or_false] at k
    rcases k with rfl|rfl|rfl|rfl|rfl|rfl<;>show⟨by simp[aG],by decide,by decide⟩
   show am (gU o9 (dG O s) (O.tab.bl _ (by simp[aG])) PyProof.Rows.boot_isinstance (bw aw (bw (zL (v:=.ty m) (dG O f) (O.tab.bl _ i.1) o rfl i.2.1 i.2.2) dQ (aj rfl)) (aj l)) (by decide) (by decide) (aj l) (bx rfl)) ?_;show A Z _ _ w g Y H _ u λv z s1 n=>⟨v,m,_,b,rfl,HD n.rd y,r,q _ z s1 B5⟩
 ·cases h
end
mutual
def i7:D->Ow->Bool
 |.nd _ ds,.own es r=>fj ds es r
 |d,_=>qQ d
def fj:List D->List Ow->Ow->Bool
 |[],_,_=>PD
 |d::ds,es,r=>i7 d (es.headD r)&&fj ds es.tail r
end
section
variable {K:Mu} {H H' H0:Hp} {S S':Pr} {g:Gh}
mutual
theorem Tr.clean(m:MuOk H S'):∀{d:D} {k:Ow} {v:V} {F:Pr},i7 d k=PD->Tr K H S d k v F->Tr K H S' d k v F
 |.non,_,_,_,c,h=>by unfold Tr at h⊢;show⟨h.1,h.2.im m rfl⟩
 |.bl _,_,_,_,c,h=>by unfold Tr at h⊢;show⟨h.1,h.2.im m rfl⟩
 |.int _,_,_,_,c,h=>by unfold Tr at h⊢;show⟨h.1,h.2.im m rfl⟩
 |.str _,_,_,_,c,h=>by unfold Tr at h⊢;show⟨h.1,h.2.im m rfl⟩
 |.scr ns,k,_,_,c,h=>by simp[i7,qQ] at c
 |.nd hd ds,.fz,_,_,c,h=>by
  let c:qQ (.nd hd ds)=PD:=by simpa[i7] using c
  unfold Tr at h⊢;show⟨h.1,h.2.im m c⟩
 |.nd hd ds,.own es r,v,F,c,h=>by
  let c:fj ds es r=PD:=by simpa[i7] using c
  unfold Tr at h⊢;obtain⟨a,o,j,p,e,b,f,l,u,i,t⟩:=h;show⟨a,o,j,p,e,b,f,l,λq z=>?_,i,TrL.clean m c t⟩;obtain⟨s,g,n⟩:=m a z;rw[b] at g;cases g
  cases hd with
  |tup=>show n _ f
  |_=>show absurd q (by simp[Hd.mu])
theorem TrL.clean(m:MuOk H S'):∀{ds:List D} {es:List Ow} {r:Ow} {vs:List V} {F:Pr},fj ds es r=PD->TrL K H S ds es r vs F->TrL K H S' ds es r vs F
 |[],_,_,_,_,_,h=>by unfold TrL at h⊢;show h
 |d::ds,es,r,vs,F,c,h=>by
  simp only[fj,Mw] at c;unfold TrL at h⊢;obtain⟨y,f,a,i,e,b,j,k,g⟩:=h;show⟨y,f,a,i,e,b,j,Tr.clean m c.1 k,TrL.clean m c.2 g⟩
end
def kK:Kd->D->Bool
 |.sh,d=>qQ d
 |.fr k,d=>i7 d k
 |.bo _ _,_=>PF
theorem VR.clean(c:kK kd d=PD)(m:MuOk H0 (Sg g))(s:Same H0 H)(h:VR K g' H0 H kd d v):VR K g H0 H kd d v:=by
 obtain⟨F,f,a⟩:=h;let e:MuOk H (Sx g F):=λb z=>z.elim (λz=>m.same s b z) λz=>a.dom b z;show⟨F,f,?_⟩
 cases kd with
 |sh=>show⟨a.1,a.2.im e c⟩
 |fr k=>show Tr.clean e c a
 |bo i k=>cases c
end
noncomputable def bE:Kd->Bool
 |.bo _ _=>PD
 |_=>PF
def AG(B:Fn)(kds:List KD):Option KD:=
 match B (kds.map (·.2)) with
 |some (kd,d)=>if(kds.all λp=>qR p.1 p.2)=PD then(if bE kd=PD then PC else PB (kd,d)) else if kK kd d=PD then PB (kd,d) else PC
 |none=>PC
def xD(B:Option Fn)(a:Option (List KD)):Option KD:=match B,a with|some B,PB kds=>AG B kds|_,_=>PC
section
variable {X:Cx} {U:Tab} {c:Cz}
theorem sW(K:Mu)(h:AG B kds=PB (kd,d)){Q:VK}(m:MuOk H0 (Sg g))(s:Same H0 H)(r:VRs K g H0 H kds vs)(q:∀v H',Same H H'->VR K g H0 H' kd d v->Q v H'):ny K B vs H Q E:=by
 unfold AG at h;split at h
 ·ext j p i;split at h
  ·ext l;split at h
   ·cases h
   ·cases h;show⟨_,g,_,_,r.sh l m s,m.same s,i,λv f s2 c=>q v f s2 (c.older s)⟩
  ·split at h
   ·ext k;cases h;show⟨_,λ_=>PC,_,_,r.rd.go (λb o n e=>⟨e,λz=>z rfl⟩),λa z=>absurd rfl z,i,λv f s2 c=>q v f s2 ((c.clean k (m.same s) s2).older s)⟩
   ·cases h
 ·cases h
theorem Kn(O:ao X U c){es:List PK}{a:Ro->Option (List KD)}(o:kF X a (e::es))(b:iY c.sc x=PD)(m:ah e=PD)(s:es.all ah=PD):SndE X (λZ=>xD (U.fn x) (a Z)) (.Call (.Name x p) (e::es) [] pos):=by
 intro Z w d h g Y H Q f q;dsimp only[xD] at h;split at h
 ·ext B k n j;show am (Hc (t:=wA X (e::es)) (λ_ _ _ _=>cj) (O.tab.fn x B n) (Kc b) (dG O b) cX (aj m) (bx s)) (o Z _ j g Y H _ f λu y s1 i=>?_);show sW X.K h f.mu s1 i λv r s2 l=>q v r (s1.trans s2) l
 ·cases h
theorem sX:∀{es:List PK} {env:Env} {cp:Pos},es.all ah=PD->(backTo cp (PU es env)).all (λx=>!x.1)=PD
 |[],_,_,_=>rfl
 |e::es,env,cp,h=>by
  rw[NC,Mw] at h;let b:=sX (env:=env) (cp:=cp) h.2;let c:=aj (es:=es) (env:=env) h.1;rw[c];let a:backTo cp ((PF,eval e env)::PU es env)=(backTo cp [(PF,eval e env)])++backTo cp (PU es env):=by unfold backTo;simp
  rw[a,List.all_append,b,Bool.and_true];rfl
theorem sY{ap pos:Pos}(c:attributeBase o m env (eval o env)=eval o env)(n:(e::es).all ah=PD)(g:(ap.endLine==pos.line)=PD)(a:(e::es).length<30) :
  eval (.Call (.Attribute o m ap) (e::es) [] pos) env=(do
   let b <- eval o env
   standAt ap.atName
   let (f,first) <- holding [b] (getMethod b m (do return (<- importBound o env).getD PD))
   callWith pos f first (backTo pos (PU (e::es) env)) (backToKw pos (keywordEach [] env))):=by
 let h:methodCallForm ((e::es).length+([]:List Keyword).length) (backTo pos (PU (e::es) env)) (backToKw pos (keywordEach [] env))=PD:=by
  change((backTo pos (PU (e::es) env)).all (λx=>!x.1)&&(backToKw pos (keywordEach [] env)).all (λx=>x.1.isSome)&&decide ((e::es).length+([]:List Keyword).length+(if([]:List Keyword).isEmpty then 0 else 1)<30))=PD
  rw[sX n];have:(backToKw pos (keywordEach [] env)).all (λx=>x.1.isSome)=PD:=rfl;rw[this];simpa using a
 let d:methodCallPos PD o env ap pos=pure pos:=by unfold methodCallPos;simp[g]
 rw[arm_eval_Call,c];unfold methodCall;rw[h];unfold calleeOf;simp only[d,if_true,pure_bind]
theorem rf{m:Str}:∀{ns:List Str} {xs:List V},ns.contains m=PF->(ns.zip xs).lookup m=PC
 |[],_,_=>rfl
 |n::ns,[],_=>rfl
 |n::ns,x::xs,h=>by
  simp only[List.contains_cons,N9] at h;change Nz m ((n,x)::ns.zip xs)=PC;rw[M0,h.1];show rf h.2
theorem B7(O:ao X U c){es:List PK}{ap pos:Pos}{W:Ro->Option KD}{V:Ro->Option (List KD)}(hM:ql y=PD)(ho:SndE X W o)(ha:kF X V (e::es))(hb:ee o=PD)(hl:(ap.endLine==pos.line)=PD)(P:ah e=PD)(S:es.all ah=PD)(I:(e::es).length<30) :
  SndE X (λZ=>xD (U.fn y) (cG (W Z) (V Z))) (.Call (.Attribute o (mM y) ap) (e::es) [] pos):=by
 intro Z kd d h g Y H Q A q;dsimp only[xD] at h;split at h
 ·ext B hc hB m;let p:=O.tab.fn y B hB;unfold g9 at p;rw[if_pos hM] at p;obtain⟨C,k,f,fd,ps,hn,cl,mt,F,hr,D,u⟩:=p;unfold cG at m;split at m
  ·ext x w e1 e2;cases m;obtain⟨k0,n⟩:=x
   let hq:∃r,B (((k0,n)::w).map (·.2))=PB r:=by
    cases z:B (((k0,n)::w).map (·.2)) with
    |none=>unfold AG at h;rw[z] at h;cases h
    |some r=>show⟨r,rfl⟩
   obtain⟨r0,M⟩:=hq;let i:=u _ _ M
   let s:∃j ns b,n=.nd (.obj j ns) b/\j=mC y/\ns.contains (mM y)=PF:=by
    rw[MQ] at i
    cases n with
    |nd hd b=>
     cases hd with
     |obj j ns=>
      let i:(decide (j=mC y)&&!ns.contains (mM y))=PD:=i;rw[Mw,decide_eq_true_eq,NF] at i;show⟨j,ns,b,rfl,i.1,i.2⟩
     |_=>cases(show PF=PD from i)
    |_=>cases(show PF=PD from i)
   obtain⟨j,ns,b,rfl,rfl,L⟩:=s;show am (sD (E:=E0) (ta:=wE X o) (t:=wA X (e::es)) aw cl mt F hr D .nil oO cX (aj P) (bx S) (sY (dH hb) (by rw[NC,P,S];rfl) hl I)) (ho Z _ _ e1 g Y H _ A λv H1 s1 T=>?_);obtain⟨a,ob,hf,rfl,_,ga,hk,_⟩:=T.rd.nd;obtain⟨C',dx,l,_,rfl,_⟩:=hk;rw[hn] at l;cases l;obtain⟨F1,N,R⟩:=T;show⟨a,dx,_,rfl,ga,rf L,ha Z w e2 (g.plus F1) Y H1 _ (A.plus s1 N R.dom) λvs H2 s2 r2=>?_⟩;rw[Nj];show sW X.K h A.mu (s1.trans s2) (.cons s1 s2 N R r2) λv2 H3 s3 r3=>q v2 H3 ((s1.trans s2).trans s3) r3
  ·cases m
 ·cases h
end
inductive IT where
 |nm (i:Nat)
 |tp (ts:List IT)
mutual
noncomputable def pc:IT->D->Option (List (Nat×D))
 |.nm i,d=>PB [(i,d)]
 |.tp ts,.nd .tup ds=>rg ts ds
 |_,_=>PC
noncomputable def rg:List IT->List D->Option (List (Nat×D))
 |[],[]=>PB []
 |t::ts,d::ds=>match pc t d,rg ts ds with
  |some a,PB b=>PB (a++b)
  |_,_=>PC
 |_,_=>PC
end
noncomputable def F6(d:D):Sl:=⟨PF,.fz,d⟩
def setAll:List (Nat×D)->Ro->Ro
 |[],Z=>Z
 |(i,d)::r,Z=>setAll r (Z.set i (PB (F6 d)))
noncomputable def xE(f:PK->Option IT):List PK->Option (List IT)
 |[]=>PB []
 |e::es=>match f e,xE f es with
  |some a,PB b=>PB (a::b)
  |_,_=>PC
def nC(c:Cz):Nat->PK->Option IT
 |0,_=>PC
 |n+1,e=>match e with
  |.Name x _=>if lK c x then(a8 x c.N).map .nm else PC
  |.Tuple es _ _=>if es.all ah then(xE (nC c n) es).map .tp else PC
  |_=>PC
theorem SE.set{Z:Ro}{Y:L2.St}(h:SE K g Z Y H)(i:Nat)(r:Rp K H (Sg g) d v):SE K g (Z.set i (PB (F6 d))) (Y.set i (PB v)) H:=by
 show⟨λj f e=>?_,h.mu,by simp[h.len]⟩;by_cases c:j=i
 ·subst c
  let a:j<Z.length:=by
   have:=(Mv.mp e).1;simpa using this
  rw[M9 a] at e;cases e;show⟨v,_,M9 (by rw[<- h.len];show a),λb z=>z.elim,.fz r⟩
 ·rw[M6 (Ne.symm c)] at e⊢;show h.slot j f e
theorem SE.pass{Z:Ro}{Y:L2.St}(h:SE K g Z Y H)(i:Nat)(n:∀a,Z[i]?≠PB (PB a)):SE K g Z (Y.set i (PB v)) H:=by
 show⟨λj a e=>?_,h.mu,by simp[h.len]⟩;let b:j≠i:=λz=>n a (z▸e);rw[M6 (Ne.symm b)];show h.slot j a e
noncomputable def hV:List (Nat×V)->L2.St->L2.St
 |[],Y=>Y
 |(i,v)::r,Y=>hV r (Y.set i (PB v))
theorem pe:∀(a b:List (Nat×V)) (Y:L2.St),hV (a++b) Y=hV b (hV a Y)
 |[],_,_=>rfl
 |(i,v)::a,b,Y=>pe a b _
section
variable {X:Cx} {U:Tab} {c:Cz}
def RpP(K:Mu)(H:Hp)(S:Pr):List (Nat×D)->List (Nat×V)->Prop
 |[],vs=>vs=[]
 |(i,d)::r,vs=>∃v q,vs=(i,v)::q/\Rp K H S d v/\RpP K H S r q
theorem RpP.app:∀{a b:List (Nat×D)} {x y:List (Nat×V)},RpP K H S a x->RpP K H S b y->RpP K H S (a++b) (x++y)
 |[],_,_,_,h,g=>by rw[(show _=[] from h)];show g
 |(i,d)::a,b,_,y,h,g=>by
  obtain⟨v,c,rfl,e,f⟩:=h;show⟨v,c++y,rfl,e,RpP.app f g⟩
mutual
def B8(K:Mu):IT->TG
 |.nm i=>gR i
 |.tp ts=>Gy K ts.length (pf K ts)
def pf(K:Mu):List IT->wy
 |[]=>Dj
 |t::ts=>wz (B8 K t) (pf K ts)
end
mutual
theorem hZq:∀{t:IT} {d:D} {ps:List (Nat×D)} {v:V} {Y:L2.St} {Q:L2.St->Hp->Prop},pc t d=PB ps->Rp K H S d v->(∀vs,RpP K H S ps vs->Q (hV vs Y) H)->B8 K t v Y H Q
 |.nm i,d,ps,v,Y,Q,ht,r,q=>by
  simp only[pc] at ht;cases ht;simp only[B8];show q [(i,v)] ⟨v,[],rfl,r,rfl⟩
 |.tp ts,d,ps,v,Y,Q,ht,r,q=>by
  cases d with
  |nd b k=>
   cases b with
   |tup=>
    simp only[pc] at ht;obtain⟨a,o,e,rfl,_,h,f,c⟩:=r.nd;cases(show o=_ from f);obtain⟨j,g⟩:=kM ht c q;simp only[B8];show⟨a,e,rfl,.of h,g,j⟩
   |_=>simp[pc] at ht
  |_=>simp[pc] at ht
theorem kM:∀{c:List IT} {ds:List D} {ps:List (Nat×D)} {vs:List V} {Y:L2.St} {Q:L2.St->Hp->Prop},rg c ds=PB ps->RpL K H S ds vs->(∀j,RpP K H S ps j->Q (hV j Y) H)->pf K c vs Y H Q/\vs.length=c.length
 |[],[],ps,vs,Y,Q,ht,r,q=>by
  simp only[rg] at ht;cases ht;simp only[pf];rw[r.nil_inv];show⟨⟨rfl,q [] rfl⟩,rfl⟩
 |t::c,d::ds,ps,vs,Y,Q,ht,r,q=>by
  simp only[rg] at ht;split at ht
  ·ext a b o h;cases ht;obtain⟨y,m,rfl,k,i⟩:=r.cons_inv;simp only[pf];let g:=(kM (Y:=Y) (Q:=λ_ _=>True) h i λ_ _=>trivial).2;show⟨⟨y,m,rfl,hZq o k λf n=>(kM h i λe l=>?_).1⟩,by simp[g]⟩;have:=q (f++e) (n.app l);rw[pe] at this;show this
  ·cases ht
 |[],_::_,ps,vs,Y,Q,ht,r,q=>by simp[rg] at ht
 |_::_,[],ps,vs,Y,Q,ht,r,q=>by simp[rg] at ht
end
theorem cN(h:ah e=PD):P5 (e::es) env=(PF,assign e env)::P5 es env:=by
 cases e<;>first|rfl|cases h
theorem ph(O:ao X U c):∀(n:Nat) {e:PK} {t:IT},nC c n e=PB t->PG X e (B8 X.K t)
 |0,e,t,h=>by cases h
 |n+1,e,t,h=>by
  let w:∀{e:PK} {t:IT},nC c n e=PB t->PG X e (B8 X.K t):=λh=>ph O n h
  let u:∀{d:List PK} {g:List IT},d.all ah=PD->xE (nC c n) d=PB g->Dh X d (pf X.K g)/\(P5 d X.env).length=g.length/\(P5 d X.env).findIdx? (·.1)=PC:=by
   intro d
   induction d with
   |nil=>intro g _ h;cases h;simp only[pf];show⟨sA,rfl,rfl⟩
   |cons e d q=>
    intro g f h;rw[NC,Mw] at f;unfold xE at h;split at h
    ·ext a b z v;cases h;obtain⟨s,r,j⟩:=q f.2 v;simp only[pf];show⟨oE (w z) s (by rw[cN f.1];rfl),by rw[cN f.1,Nh,r];rfl,?_⟩;rw[cN f.1,Ng];simp[j]
    ·cases h
  unfold nC at h;split at h
  ·ext x p;split at h
   ·ext y
    cases m:a8 x c.N with
    |none=>rw[m] at h;cases h
    |some i=>
     rw[m] at h;cases h;let l:=iZ O y;simp only[B8];show sw (i:=i) (by rw[O.N];show O.nd) (by rw[O.N];show aT m) l.1 l.2
   ·cases h
  ·ext d k p;split at h
   ·ext f
    cases o:xE (nC c n) d with
    |none=>rw[o] at h;cases h
    |some g=>
     rw[o] at h;cases h;obtain⟨s,r,j⟩:=u f o;simp only[B8];show wB O.calm s r j
   ·cases h
  ·cases h
theorem SE.setAll{H:Hp}:∀{ps:List (Nat×D)} {vs:List (Nat×V)} {Z:Ro} {Y:L2.St},RpP K H (Sg g) ps vs->SE K g Z Y H->SE K g (setAll ps Z) (hV vs Y) H
 |[],vs,Z,Y,h,se=>by rw[(show vs=[] from h)];show se
 |(i,d)::ps,vs,Z,Y,h,se=>by
  obtain⟨v,b,rfl,c,a⟩:=h;show SE.setAll (Z:=Z.set i (PB (F6 d))) (vs:=b) (Y:=Y.set i (PB v)) a (se.set i c)
noncomputable def bX(ps:List (Nat×D))(Z:Ro):Bool:=ps.all λp=>match Z[p.1]? with|some PC=>PD|_=>PF
theorem SE.passAll{H:Hp}:∀{ps:List (Nat×D)} {vs:List (Nat×V)} {Z:Ro} {Y:L2.St},RpP K H S ps vs->bX ps Z=PD->SE K g Z Y H->SE K g Z (hV vs Y) H/\∀(j:Nat) a,Z[j]?=PB (PB a)->(hV vs Y)[j]?=Y[j]?
 |[],vs,Z,Y,h,_,se=>by rw[(show vs=[] from h)];show⟨se,λ_ _ _=>rfl⟩
 |(i,d)::ps,vs,Z,Y,h,hn,se=>by
  obtain⟨v,l,rfl,m,k⟩:=h;simp only[bX,NC,Mw] at hn
  let b:∀a,Z[i]?≠PB (PB a):=λa e=>by
   have:=hn.1;rw[e] at this;cases this
  obtain⟨f,c⟩:=SE.passAll k (by simpa[bX] using hn.2) (se.pass i (v:=v) b);show⟨f,λj a e=>(c j a e).trans (M6 (λz=>b a (by rw[z];show e)))⟩
end
noncomputable def Gh.re(m:Nat->Option Nat)(g:Gh):Gh:=λb=>match g b with
 |some (PB i)=>PB (m i)
 |x=>x
section
variable {K:Mu} {H H':Hp} {g:Gh} {F F2:Pr} {m:Nat->Option Nat}
theorem jN(b:PL):Sg (g.re m) b↔Sg g b:=by
 unfold Gh.re Sg
 cases h:g b with
 |none=>simp[h]
 |some x=>cases x<;>simp[h]
theorem i8:(g.plus F).plus F2=g.plus (λb=>F b\/F2 b):=by
 funext b;unfold Gh.plus;by_cases c:F2 b
 ·simp[c]
 ·by_cases a:F b
  ·simp[a]
  ·simp[a,c]
theorem aS(h:F b):g.plus F b=PB PC:=by
 unfold Gh.plus;rw[if_pos h]
theorem SE.upd(h:SE K g Z Y H)(d:g p=PB PC)(k:∀xs,o≠.tup xs):SE K g Z Y (upd H p o):=by
 let f:∀b c,b≠p->H b=PB c->L2.upd H p o b=PB c:=λb c n e=>by rw[ag n];show e
 show⟨λi j e=>?_,λb z=>?_,h.len⟩
 ·obtain⟨v,F,e1,e2,e3⟩:=h.slot i j e;show⟨v,F,e1,e2,e3.go (λb c a e=>f b c (λz=>?_) e) λ_ _ _ n=>n⟩;subst z;rcases a with a|a
  ·show a (by rw[Sg,d];simp)
  ·rw[e2 b a] at d;cases d
 ·by_cases a:b=p
  ·show⟨o,by rw[a];show ak,k⟩
  ·obtain⟨c,e,n⟩:=h.mu b z;show⟨c,f b c a e,n⟩
noncomputable def aQ(Z:Ro)(cap:List (Option Nat)):Ro:=cap.map λo=>o.bind λi=>(Z[i]?).join
noncomputable def i9(cap:List (Option Nat))(i:Nat):Option Nat:=cap.findIdx? λo=>o==PB i
noncomputable def kN(cap:List (Option Nat)):Bool:=decide (cap.filterMap id).Nodup
theorem sZ:∀{cap:List (Option Nat)} {j i:Nat},(cap.filterMap id).Nodup->cap[j]?=PB (PB i)->i9 cap i=PB j
 |[],j,i,_,e=>by simp at e
 |o::cap,0,i,hn,e=>by
  simp at e;subst e;simp[i9,Ng]
 |o::cap,j+1,i,hn,e=>by
  let d:cap[j]?=PB (PB i):=by simpa using e
  let f:i∈cap.filterMap id:=OF.mpr ⟨PB i,MH d,rfl⟩
  let b:(o==PB i)=PF:=by
   cases o with
   |none=>rfl
   |some k=>
    simp only[Nf,id] at hn;have:=(MW.mp hn).1;simp only[beq_eq_false_iff_ne,ne_eq,Option.some.injEq];intro z;subst z;show this f
  let a:(cap.filterMap id).Nodup:=by
   cases o with
   |none=>simpa using hn
   |some k=>simp only[Nf,id] at hn;show(MW.mp hn).2
  let c:=sZ a d;unfold i9 at c⊢;rw[Ng,b,c];rfl
theorem SE.cap(h:SE K g Z Y H){cap:List (Option Nat)}(l:kN cap=PD):SE K (g.re (i9 cap)) (aQ Z cap) (cF Y cap) H:=by
 show⟨λj a e=>?_,λb z=>h.mu b ((jN b).mp z),by simp[aQ,cF]⟩;unfold aQ at e;unfold cF;rw[MA] at e⊢
 cases q:cap[j]? with
 |none=>rw[q] at e;cases e
 |some o=>
  rw[q] at e
  cases o with
  |none=>cases e
  |some i=>
   let c:(Z[i]?).join=PB a:=by simpa using e
   let e2:Z[i]?=PB (PB a):=by
    cases z:Z[i]? with
    |none=>rw[z] at c;cases c
    |some w=>rw[z] at c;have:w=PB a:=c;rw[this]
   obtain⟨v,F,k,f,d⟩:=h.slot i a e2;show⟨v,F,by simp[k],λb z=>?_,d.go (λ_ _ _ h=>h) λb o _ n z=>n ((jN b).mp z)⟩;unfold Gh.re;rw[f b z];change PB (i9 cap i)=_;rw[sZ (by simpa[kN] using l) q]
end
noncomputable def f9(scope q:P1):P1:=
 { scope with names:=scope.names.map λ(n,k)=>if(k==.free&&q.kind==.function&&q.names.lookup n==PB .cell) then(n,.cell) else(n,k) }
theorem AH{env:Env}(h:env.scope=sc):relabel scope env=f9 scope sc:=by
 subst h;rfl
def aA(c:Cz)(scope:P1):List (Option Nat):=scope.names.map λ(x,k)=>if k=.free then a8 x c.N else PC
noncomputable def ac(scope:P1):List Str:=scope.names.map (·.1)
def bc(c:Cz)(scope:P1):Bool:=
 scope.kind==.function&&decide (ac scope).Nodup&&kN (aA c scope)&&scope.names.all λ(x,k)=>(k != .free||c.sc.names.lookup x==PB .cell||c.sc.names.lookup x==PB .free)
theorem c5:∀{l:List (Str×P7)} {x:Str} {k:P7},(l.map (·.1)).Nodup->(x,k)∈l->l.lookup x=PB k
 |(y,j)::r,x,k,hn,a=>by
  rw[M0];rw[MQ,MW] at hn;rcases MD.mp a with e|a
  ·cases e;simp
  ·have:x≠y:=λz=>hn.1 (by rw[<- z];show Nd.mpr ⟨(x,k),a,rfl⟩);let e:(x==y)=PF:=by simpa using this
   rw[e];show c5 hn.2 a
theorem df(O:ao X U c)(h:bc c scope=PD):e6 X (ac scope) scope (aA c scope):=by
 simp only[bc,Mw,decide_eq_true_eq,NI,beq_iff_eq] at h;obtain⟨⟨⟨p,l⟩,_⟩,o⟩:=h;let hk:∀x,X.env.kindOf x=c.sc.names.lookup x:=λx=>by change X.env.scope.names.lookup x=_;rw[O.sc]
 let a:∀y∈scope.names,y.2=.free->X.env.kindOf y.1=PB .cell\/X.env.kindOf y.1=PB .free:=λy f e=>by
  have:=o y f;simp only[NE,bne_iff_ne,beq_iff_eq] at this;rw[hk];rcases this with(z|z)|z
  ·show absurd e z
  ·show .inl z
  ·show .inr z
 show⟨p,λy f e=>?_,λy f e=>?_,a,by simp[aA,ac],λj i x d g=>?_⟩
 ·obtain⟨x,k⟩:=y;let m:k=.cell:=e;subst m;show c5 l f
 ·obtain⟨x,k⟩:=y;let m:k=.local:=e;subst m;show c5 l f
 ·unfold ac at d;unfold aA at g;rw[MA] at d g
  cases q:scope.names[j]? with
  |none=>rw[q] at d;cases d
  |some y=>
   rw[q] at d g;obtain⟨y,k⟩:=y;cases d
   let b:(if k=.free then a8 y c.N else PC)=PB i:=by simpa using g
   split at b
   ·ext e;subst e;let n:=MH q;show⟨by rw[O.N];show aT b,c5 l n,a _ n rfl⟩
   ·cases b
theorem c6{c:Cz}(O:ao X U c)(h:bc c scope=PD)(C:PL)(s:PM)(H:Hp)(ex:List PL):ao (ai X (ac scope) scope C s H ex) U ⟨f9 scope c.sc,ac scope,gE scope⟩:=by
 simp only[bc,Mw,decide_eq_true_eq] at h;show⟨AH O.sc,rfl,λx z=>z,O.calm,h.1.1.2,⟨O.tab.fn,O.tab.cf,O.tab.fm,O.tab.bl,O.tab.units,O.tab.gd,O.tab.cst⟩⟩
def dS(tg:IT)(ft:Ro->Option Bool)(B:Ro->Option KD)(q:Ro)(d:D):Option (Option KD):=match pc tg d with
 |some ps=>if bX ps q=PD then(match ft (setAll ps q) with|some PD=>(B (setAll ps q)).map PB|some PF=>PB PC|none=>PC) else PC
 |none=>PC
def aP(r:Ow)(f:D->Option (Option KD)):List D->Option (List D)
 |[]=>PB []
 |d::ds=>match f d,aP r f ds with
  |some (PB kd),PB ys=>if bM r kd=PD then PB (kd.2::ys) else PC
  |some PC,PB ys=>PB ys
  |_,_=>PC
theorem ja:∀{a b:List D} {ys:List D},aP r f (a++b)=PB ys->∃x y,aP r f a=PB x/\aP r f b=PB y/\ys=x++y
 |[],b,ys,h=>⟨[],ys,rfl,h,rfl⟩
 |d::a,b,ys,h=>by
  rw[NJ] at h;unfold aP at h;split at h
  ·ext g i e1 e2;split at h
   ·ext j;cases h;obtain⟨x,y,c,e,rfl⟩:=ja e2;show⟨g.2::x,y,by simp[aP,e1,c,j],e,rfl⟩
   ·cases h
  ·ext i e1 e2;cases h;obtain⟨x,y,c,e,rfl⟩:=ja e2;show⟨x,y,by simp[aP,e1,c],e,rfl⟩
  ·cases h
theorem kO{a:List D}{d:D}{x:List D}(h:aP r f a=PB x){y:List D}(h1:aP r f [d]=PB y):aP r f (a++[d])=PB (x++y):=by
 induction a generalizing x with
 |nil=>cases h;show h1
 |cons e a b=>
  unfold aP at h;rw[NJ];unfold aP;split at h
  ·ext i c e1 e2;split at h
   ·ext g;cases h;rw[e1,b e2];simp[g]
   ·cases h
  ·ext c e1 e2;cases h;rw[e1,b e2]
  ·cases h
theorem rh{f:D->Option (Option KD)}{ds ys:List D}(h:aP r f ds=PB ys){i:Nat}(e:ds[i]?=PB d){x:List D}(c:aP r f (ds.take i)=PB x) :
  (f d=PB PC/\aP r f (ds.take (i+1))=PB x)\/∃b,f d=PB (PB b)/\bM r b=PD/\aP r f (ds.take (i+1))=PB (x++[b.2]):=by
 let l:ds=ds.take i++(d::ds.drop (i+1)):=by
  obtain⟨j,rfl⟩:=Mv.mp e;rw[<- Ni j,O7]
 let m:ds.take (i+1)=ds.take i++[d]:=by rw[Oj,e];rfl
 rw[l] at h;obtain⟨_,y,_,a,_⟩:=ja h;unfold aP at a;rw[m];split at a
 ·ext b k e1 e2;split at a
  ·ext g;show .inr ⟨b,e1,g,kO c (by simp[aP,e1,g])⟩
  ·cases a
 ·ext k e1 e2;show .inl ⟨e1,by simpa using kO c (y:=[]) (by simp[aP,e1])⟩
 ·cases a
def mr(r:Ow)(it:Option (List Nat×List D))(f:D->Option (Option KD)):Option KD:=match it with
 |some (_,ds)=>if ds.length<=100000 then(match aP r f ds with|some ys=>PB (.fr (.own [] r),.lst ys)|none=>PC) else PC
 |none=>PC
theorem jb:∀{ds ys:List D},aP r f ds=PB ys->ys.length<=ds.length
 |[],ys,h=>by cases h;show Mz _
 |d::ds,ys,h=>by
  unfold aP at h;split at h
  ·ext b a e1 e2;split at h
   ·cases h;have:=jb e2;simp;lia
   ·cases h
  ·ext a e1 e2;cases h;have:=jb e2;simp;lia
  ·cases h
section
variable {K:Mu} {H:Hp} {S:Pr}
theorem TrL.snoc:∀{ds:List D} {r:Ow} {us:List V} {F F2:Pr} {d:D} {v:V},TrL K H S ds [] r us F->Tr K H S d r v F2->(∀b,F b->¬F2 b)->TrL K H S (ds++[d]) [] r (us++[v]) (λb=>F b\/F2 b)
 |[],r,us,F,F2,d,v,h,t,dj=>by
  unfold TrL at h;obtain⟨rfl,l⟩:=h;unfold TrL;show⟨v,[],F2,λ_=>False,rfl,λb=>⟨λz=>.inl (z.elim (λz=>absurd z (l b)) id),λz=>z.elim .inr λz=>z.elim⟩,λ_ _ z=>z,t,?_⟩;unfold TrL;show⟨rfl,λ_ z=>z⟩
 |e::ds,r,us,F,F2,d,v,h,t,dj=>by
  unfold TrL at h;obtain⟨y,m,i,j,rfl,c,f,n,k⟩:=h;unfold TrL;show⟨y,m++[v],i,λb=>j b\/F2 b,rfl,λb=>?_,λb g a=>?_,n,TrL.snoc k t λb z=>dj b ((c b).mpr (.inr z))⟩
  ·change F b\/F2 b↔i b\/j b\/F2 b;rw[c b,or_assoc]
  ·rcases a with a|a
   ·show f b g a
   ·show dj b ((c b).mpr (.inl g)) a
end
def Ed(X:Cx)(ifs:List PK):TT:=λY H Q=>∀pins s,Inv X pins Y H s->PP (PQ X.prog X.w) X.A (forIn ifs PD λc r=>if r=PD then do let q <- isTrue c X.env (eval c X.env);pure (ForInStep.yield q) else pure (ForInStep.yield r)) (TP X pins Y Q) X.xe s
theorem rj{b:TT}(p:Ai X ifs b)(h:b Y H Q):Ed X ifs Y H Q:=λa s I=>p a s Y H Q I h
def jE(X:Cx)(f:Ro->Option Bool)(ifs:List PK):Prop:=∀Z b,f Z=PB b->∀g Y H Q,SE X.K g Z Y H->(∀H',Same H H'->Q b H')->Ed X ifs Y H Q
theorem B9:jE X (λ_=>PB PD) []:=λZ b h g Y H Q a q=>by cases h;show rj sM (q H (Same.refl H))
theorem HF{e:PK}(h:SndT X f e):jE X f [e]:=λZ b a g Y H Q c q=>rj (Aj iS) (h Z b a g Y H Q c q)
section
variable {X:Cx} {U:Tab} {c:Cz}
abbrev Ko(K:Mu)(f:List J.D->Option (List J.D))(r:Ow)(ds:List J.D)(g g':Gh)(Z:Ro)(H1:Hp)(D:PL):Nat->Nat->L2.St->Hp->Prop:=λi m Y' H'=>m=ds.length-i/\i<=ds.length/\∃(q:Pr) (us:List V) (B:List J.D),f (ds.take i)=PB B/\(∀b,q b->H1 b=PC/\b≠D)/\SE K (g'.plus λb=>b=D\/q b) Z Y' H'/\
  (∀b o,H1 b=PB o->H' b=PB o)/\H' D=PB (.lst us)/\TrL K H' (Sx g λb=>b=D\/q b) B [] r us q
theorem xF(O:ao X U c){fi:Ro->Option (List Nat×List D)}(hck:bc c scope=PD)(hi:SndI X fi tg iter)(ht:nC ⟨f9 scope c.sc,ac scope,gE scope⟩ n tg=PB t)(hn:∀C s H ex,jE (ai X (ac scope) scope C s H ex) ft ifs)(hz:∀C s H ex,SndE (ai X (ac scope) scope C s H ex) fe elt)(h:mr r (fi Z) (dS t ft fe (aQ Z (aA c scope)))=PB (kd,d)){Y:L2.St}{Q:VK}(se:SE X.K g Z Y H)(q:∀v H',Same H H'->VR X.K g H H' kd d v->Q v H') :
  iR (wI X tg iter) (λv Y H Q=>∀C s W ex,wG (ai X (ac scope) scope C s W ex) tg v Y H Q) (λY H Q=>∀C s W ex,Ed (ai X (ac scope) scope C s W ex) ifs Y H Q) (λY H Q=>∀C s W ex,wE (ai X (ac scope) scope C s W ex) elt Y H Q) (aA c scope) Y H Q:=by
 let hg:kN (aA c scope)=PD:=by
  simp only[bc,Mw] at hck;show hck.1.2
 unfold mr at h;split at h
 ·ext bs l hs;split at h
  ·ext hj;split at h
   ·ext ys hm;cases h;let CO:=c6 O hck;show hi Z bs l hs g Y H _ se λjj h2 H1 s1 jt sp sf D hD=>?_;let u:SE X.K (g.re (i9 (aA c scope))) (aQ Z (aA c scope)) (cF Y (aA c scope)) H1:=(se.same s1).cap hg;generalize hx:g.re (i9 (aA c scope))=g' at u;let gS:∀b,Sg g' b↔Sg g b:=λb=>by rw[<- hx];show jN b
    generalize hZ:aQ Z (aA c scope)=Zc at u hm;generalize hY:cF Y (aA c scope)=Yc at u;clear hZ hY
    show⟨Ko X.K (aP r (dS t ft fe Zc)) r l g g' Zc H1 D,
     ⟨l.length,by simp,M3 _,λ_=>False,[],[],by simp[aP],λb z=>z.elim,?_,λb o e=>ae hD _ _ e,ak,by unfold TrL;show⟨rfl,λ_ z=>z⟩⟩,?_⟩
    ·show u.plus (ae hD) (λb z=>z.elim (λz=>z▸hD) λz=>z.elim) λb z=>z.elim (λz=>⟨.lst [],z▸ak,λxs h=>by cases h⟩) λz=>z.elim
    rintro i m Y' H' ⟨rfl,h3,f,N,yi,F,j,ha,kk,gD,tr⟩
    let A:∀b,Sg (g'.plus λb=>b=D\/f b) b↔Sx g (λb=>b=D\/f b) b:=λb=>(al b).trans (or_congr (gS b) Iff.rfl);let L:∀b o,H1 b=PB o->¬(b=D\/f b):=λb o e z=>z.elim (λz=>by rw[z,hD] at e;cases e) λz=>by rw[(j b z).1] at e;cases e
    let hq:h2.P X.K (g'.plus λb=>b=D\/f b) H':=Src.mono (λb o e n z=>((A b).mp z).elim n (L b o e)) (λb o _ e=>kk b o e) (λa e=>sf.from_t e) sp;obtain⟨j1,j2⟩:=jt i _ H' hq ha.mu;by_cases E:i<l.length
    ·let hd:l[i]?=PB l[i]:=MF E;obtain⟨go,yl⟩:=j2 _ hd;show .inr ⟨go,λx H2 hy C s0 W ex=>?_⟩;obtain⟨s2,rx⟩:=yl x H2 hy;let st:=rh hm hd F
     let R:∃o,dS t ft fe Zc l[i]=PB o:=by
      rcases st with⟨e,_⟩|⟨kd,e,_⟩
      ·show⟨_,e⟩
      ·show⟨_,e⟩
     obtain⟨o0,w⟩:=R;let p:=w;unfold dS at p;split at p
     ·ext ps h1;split at p
      ·ext h0;show sN (ph (CO C s0 W ex) n ht) (hZq h1 rx λvs hl C1 hf hc hh=>?_);let t1:=SE.setAll hl (ha.same s2);obtain⟨t2,t3⟩:=SE.passAll hl h0 (ha.same s2);split at p
       ·ext hT
        -- the test holds
        show hn C1 hf hc hh _ PD hT _ _ _ _ t1 λH3 I=>ve λC2 hr hv hu=>?_
        cases V:fe (setAll ps Zc) with
        |none=>rw[V] at p;cases p
        |some ke=>
         rw[V] at p;cases p;obtain⟨ky,y⟩:=ke
         let B:bM r (ky,y)=PD/\aP r (dS t ft fe Zc) (l.take (i+1))=PB (yi++[y]):=by
          rcases st with⟨e,_⟩|⟨kd,e,e2,e3⟩
          ·rw[w] at e;cases e
          ·rw[w] at e;cases e;show⟨e2,e3⟩
         show hz C2 hr hv hu _ ky y V _ _ H3 _ (t1.same I) λvy H4 s4 r4=>?_;obtain⟨Fy,y1,y2⟩:=r4;let F7:Same H' H4:=(s2.trans I).trans s4;let T:SE X.K (g'.plus λb=>b=D\/f b) Zc (hV vs Y') H3:=t2.same I
         let ho:∀b,Fy b->(g'.plus λb=>b=D\/f b) b=PC:=λb z=>by
          cases e:(g'.plus λb=>b=D\/f b) b with
          |none=>rfl
          |some k=>
           obtain⟨o,q2,_⟩:=T.mu b (by rw[Sg,e];simp);rw[y1 b z] at q2;cases q2
         let mm:MuOk H4 (Sx (g'.plus λb=>b=D\/f b) Fy):=λb z=>z.elim (λz=>T.mu.same s4 b z) λz=>y2.dom b z;obtain⟨F2,a1,a2⟩:=VR1.fit B.1 mm ho (λb z=>z) y2;let hw:H4 D=PB (.lst N):=F7 _ _ gD;let M:¬F2 D:=λz=>by have:=y1 D (a1 D z);rw[(s2.trans I) _ _ gD] at this;cases this
         let S:∀b,F2 b->H' b=PC:=λb z=>(s2.trans I).free (y1 b (a1 b z))
         let hp:N.length<=i:=by
          rw[tr.len];show Nb (jb F) (by rw[M8];lia)
         let kD:∀b o,b≠D->H4 b=PB o->upd H4 D (.lst (N++[vy])) b=PB o:=λb o n e=>by rw[ag n];show e
         show⟨N,hw,Nw hp (MG E (aL hj)),l.length-(i+1),by lia,rfl,E,λb=>f b\/F2 b,N++[vy],yi++[y],B.2,λb z=>?_,?_,λb o e=>?_,ak,?_⟩
         ·rcases z with z|z
          ·show j b z
          ·show⟨?_,λe=>M (e▸z)⟩
           cases e:H1 b with
           |none=>rfl
           |some o=>have:=S b z;rw[kk b o e] at this;cases this
         ·let e1:(g'.plus λb=>b=D\/(f b\/F2 b))=(g'.plus λb=>b=D\/f b).plus F2:=by
           rw[i8];congr 1;funext b;show propext ⟨λz=>z.elim (λz=>.inl (.inl z)) λz=>z.elim (λz=>.inl (.inr z)) .inr,λz=>z.elim (λz=>z.elim .inl λz=>.inr (.inl z)) λz=>.inr (.inr z)⟩
          rw[e1];show SE.upd (T.plus s4 (λb z=>y1 b (a1 b z)) λb z=>y2.dom b (a1 b z)) ?_ (λxs h=>by cases h);rw[i8];show aS (.inl (.inl rfl))
         ·show kD b o (λz=>L b o e (.inl z)) (F7 _ _ (kk b o e))
         ·show TrL.snoc (tr.go (λb o hb e=>kD b o (λz=>?_) (F7 _ _ e)) λb o e n z=>?_) ((a2 (λb=>g b≠PC\/b=D\/f b\/F2 b) λb z=>?_).go (λb o hb e=>kD b o (λz=>?_) e) λb o e n z=>n z) λb z1 z2=>?_
          ·subst z;show hb.elim (λz=>z (.inr (.inl rfl))) λz=>(j b z).2 rfl
          ·rcases z with z|z|z|z
           ·show n (.inl z)
           ·show n (.inr (.inl z))
           ·show n (.inr (.inr z))
           ·rw[S b z] at e;cases e
          ·rcases z with z|z|z|z
           ·show .inr (.inl ((A b).mpr (.inl z)))
           ·show .inr (.inl ((A b).mpr (.inr (.inl z))))
           ·show .inr (.inl ((A b).mpr (.inr (.inr z))))
           ·show .inr (.inr (.inl z))
          ·subst z;show hb.elim (λz=>z (.inr (.inl rfl))) M
          ·obtain⟨o,e,_⟩:=tr.dom b z1;rw[S b z2] at e;cases e
       ·ext hT;cases p
        let B:aP r (dS t ft fe Zc) (l.take (i+1))=PB yi:=by
         rcases st with⟨_,e⟩|⟨kd,e,_⟩
         ·show e
         ·rw[w] at e;cases e
        show hn C1 hf hc hh _ PF hT _ _ _ _ t1 λH3 I=>vd ?_;let rm:=s2.trans I;show⟨l.length-(i+1),by lia,rfl,E,f,N,yi,B,j,t2.same I,λb o e=>rm _ _ (kk b o e),rm _ _ gD,tr.go (λb o _ e=>rm _ _ e) λ_ _ _ n=>n⟩
       ·cases p
      ·cases p
     ·cases p
    ·let e:i=l.length:=by lia
     subst e;rw[Nx,hm] at F;cases F;show .inl ⟨j1 (Mz _),q _ H' (λb o e=>kk b o (s1 _ _ e)) ⟨λb=>b=D\/f b,λb z=>s1.free (z.elim (λz=>z▸hD) λz=>(j b z).1),?_⟩⟩;change Tr _ _ _ _ _ _ _;unfold Tr
     show⟨D,_,N,f,rfl,gD,rfl,λ_ z=>(j D z).2 rfl,(λh=>nomatch h),λb=>⟨λz=>z.imp (λz=>⟨rfl,z⟩) id,λz=>z.imp (λz=>z.2) id⟩,tr⟩
   ·cases h
  ·cases h
 ·cases h
noncomputable def dh:PK->Bool
 |.Set ..=>PF
 |_=>PD
theorem c8(h:dh e=PD)(x:PH):foldedSetIterable e env x=pure x:=by
 cases e<;>first|rfl|cases h
theorem Ee(O:ao X U c){p:Ro->Option (List Nat×List D)}(hck:bc c scope=PD)(hns:dh iter=PD)(hi:SndI X p tg iter)(l:nC ⟨f9 scope c.sc,ac scope,gE scope⟩ n tg=PB t)(m:∀C s H ex,jE (ai X (ac scope) scope C s H ex) ft ifs)(o:∀C s H ex,SndE (ai X (ac scope) scope C s H ex) fe elt) :
  SndE X (λZ=>mr r (p Z) (dS t ft fe (aQ Z (aA c scope)))) (.ListComp elt [⟨tg,iter,ifs,0⟩] scope pos):=by
 intro Z x d h g Y H Q w q
 show am (oV O.calm (df O hck) vi
  (λC s e ex a f i j v u k I r b=>vj a f i j v u k I r (b C s e ex)) (λC s e ex a f i j k I b=>b C s e ex a f I) (λC s e ex a f i j k I b=>b C s e ex a f I) (c8 hns)) (xF O hck hi l m o h w q)
end
mutual
inductive IE where
 |var (i:Nat)
 |lit (d:D)
 |bin (op:P2) (a b:IE)
 |cmp (op:Qd) (a b:IE)
 |chain (op op':Qd) (a b d:IE)
 |not (a:IE)
 |bool (op:BoolOp) (es:ge)
 |ifx (t a b:IE)
 |lst (k:Ow) (es:ge)
 |tup (k:Ow) (es:ge)
 |dnew (t:Nat) (r:Ow)
 |ix (a b:IE)
 |sl (a:IE) (lo hi:IO)
 |stp (a:IE) (lo:IO) (st:IE)
 |isi (T:Str) (a:IE)
 |fld (f:Str) (a:IE)
 |fn (i:Nat) (es:ge)
 |blt (x:Str) (es:ge)
 |comp (r:Ow) (cap:List (Option Nat)) (tg:IT) (it:II) (ts:IO) (elt:IE)
inductive ge where
 |nil
 |cons (a:IE) (r:ge)
inductive IO where
 |non
 |som (a:IE)
inductive II where
 |e (a:IE)
 |rng (a b:IE)
 |enm (a:IE)
 |zp (a b:IE)
end
def Ca(t:Nat)(r:Ow):Option KD:=PB (.fr (.own [] r),.dic t [] [])
mutual
def aa(U:Nat->Option Fn):IE->Ro->Option KD
 |.var i,Z=>eI i Z[i]?
 |.lit d,_=>PB (.sh,d)
 |.bin op a b,Z=>As op (aa U a Z) (aa U b Z)
 |.cmp op a b,Z=>bV (nA op (aa U a Z) (aa U b Z))
 |.chain op op' a b d,Z=>bV (i0 op op' (aa U a Z) (aa U b Z) (aa U d Z))
 |.not a,Z=>bV ((eJ (aa U a Z)).map (!·))
 |.bool op es,Z=>lM U op es Z
 |.ifx t a b,Z=>Jn (aO U t Z) (aa U a Z) (aa U b Z)
 |.lst k es,Z=>qV k (aZ U es Z)
 |.tup k es,Z=>i4 k (aZ U es Z)
 |.dnew t r,_=>Ca t r
 |.ix a b,Z=>xr (aa U a Z) (aa U b Z)
 |.sl a lo hi,Z=>F5 (aa U a Z) (eY U lo Z) (eY U hi Z)
 |.stp a lo st,Z=>xv (aa U a Z) (eY U lo Z) (aa U st Z)
 |.isi T a,Z=>vB T (aa U a Z)
 |.fld f a,Z=>Au f (aa U a Z)
 |.fn i es,Z=>xD (U i) (aZ U es Z)
 |.blt x es,Z=>qZ x (aZ U es Z)
 |.comp r cap tg it ts elt,Z=>mr r (gf U it Z) (dS tg (di U ts) (aa U elt) (aQ Z cap))
def aO(U:Nat->Option Fn):IE->Ro->Option Bool
 |.cmp op a b,Z=>nA op (aa U a Z) (aa U b Z)
 |.chain op op' a b d,Z=>PC
 |.not a,Z=>(aO U a Z).map (!·)
 |.bool op es,Z=>gy U op es Z
 |.var i,Z=>eJ (eI i Z[i]?)
 |.ix a b,Z=>eJ (xr (aa U a Z) (aa U b Z))
 |.isi T a,Z=>eJ (vB T (aa U a Z))
 |.fn i es,Z=>eJ (xD (U i) (aZ U es Z))
 |.blt x es,Z=>eJ (qZ x (aZ U es Z))
 |_,_=>PC
def di(U:Nat->Option Fn):IO->Ro->Option Bool
 |.non,_=>PB PD
 |.som a,Z=>aO U a Z
def aZ(U:Nat->Option Fn):ge->Ro->Option (List KD)
 |.nil,_=>PB []
 |.cons a r,Z=>cG (aa U a Z) (aZ U r Z)
def lM(U:Nat->Option Fn)(op:BoolOp):ge->Ro->Option KD
 |.nil,_=>PC
 |.cons a r,Z=>match r with
  |.nil=>aa U a Z
  |.cons _ _=>(match aa U a Z with
   |some (_,.bl x)=>if(op==.And)=x then lM U op r Z else PB (.sh,.bl x)
   |_=>PC)
def gy(U:Nat->Option Fn)(op:BoolOp):ge->Ro->Option Bool
 |.nil,_=>PC
 |.cons a r,Z=>match r with
  |.nil=>aO U a Z
  |.cons _ _=>(match aO U a Z with
   |some x=>if(op==.And)=x then gy U op r Z else PB x
   |none=>PC)
def eY(U:Nat->Option Fn):IO->Ro->Option (Option Int)
 |.non,_=>PB PC
 |.som a,Z=>Ay (aa U a Z)
def gf(U:Nat->Option Fn):II->Ro->Option (List Nat×List D)
 |.e a,Z=>q5 (aa U a Z)
 |.rng a b,Z=>q9 (aa U a Z) (aa U b Z)
 |.enm a,Z=>vA (aa U a Z)
 |.zp a b,Z=>q8 (aa U a Z) (aa U b Z)
end
section
theorem AI:aa U (.var i) Z=eI i Z[i]?:=rfl
theorem tf:aa U (.lit d) Z=PB (.sh,d):=rfl
theorem AJ:aa U (.bin op a b) Z=As op (aa U a Z) (aa U b Z):=rfl
theorem AK:aa U (.cmp op a b) Z=bV (nA op (aa U a Z) (aa U b Z)):=rfl
theorem vC:aa U (.chain op op' a b d) Z=bV (i0 op op' (aa U a Z) (aa U b Z) (aa U d Z)):=rfl
theorem AL:aa U (.not a) Z=bV ((eJ (aa U a Z)).map (!·)):=rfl
theorem ia:aa U (.bool op es) Z=lM U op es Z:=rfl
theorem tj:aa U (.ifx t a b) Z=Jn (aO U t Z) (aa U a Z) (aa U b Z):=rfl
theorem AM:aa U (.lst k es) Z=qV k (aZ U es Z):=rfl
theorem AN:aa U (.tup k es) Z=i4 k (aZ U es Z):=rfl
theorem xG:aa U (.ix a b) Z=xr (aa U a Z) (aa U b Z):=rfl
theorem Ef:aa U (.sl a lo hi) Z=F5 (aa U a Z) (eY U lo Z) (eY U hi Z):=rfl
theorem AO:aa U (.stp a lo st) Z=xv (aa U a Z) (eY U lo Z) (aa U st Z):=rfl
theorem tq:aa U (.isi T a) Z=vB T (aa U a Z):=rfl
theorem AQ:aa U (.fld f a) Z=Au f (aa U a Z):=rfl
theorem xH{U:Nat->Option Fn}:aa U (.fn i es) Z=xD (U i) (aZ U es Z):=rfl
theorem tu:aa U (.blt x es) Z=qZ x (aZ U es Z):=rfl
theorem pi:aa U (.comp r cap tg it ts elt) Z=mr r (gf U it Z) (dS tg (di U ts) (aa U elt) (aQ Z cap)):=rfl
theorem pj:aO U (.cmp op a b) Z=nA op (aa U a Z) (aa U b Z):=rfl
theorem xI:aO U (.not a) Z=(aO U a Z).map (!·):=rfl
theorem fV:aO U (.bool op es) Z=gy U op es Z:=rfl
theorem xJ:aO U (.var i) Z=eJ (eI i Z[i]?):=rfl
theorem xK:aO U (.isi T a) Z=eJ (vB T (aa U a Z)):=rfl
theorem AR{U:Nat->Option Fn}:aO U (.fn i es) Z=eJ (xD (U i) (aZ U es Z)):=rfl
theorem xL:aO U (.blt x es) Z=eJ (qZ x (aZ U es Z)):=rfl
end
structure Nms where
 fns:List Str
 cs:List (Str×D)
 an:Nat->Nat->Option Ow:=λ_ _=>PC
 md:Nat->Nat->Option Bool:=λ_ _=>PC
 io:Nat->Option (List Bool):=λ_=>PC
 vw:Nat->Nat->List Nat:=λ_ _=>[]
 cls:List (Str×List Str):=[]
def cP(fns:Nms)(U:Nat->Option Fn)(fm:Str->Option (Mu->Sp)):Tab:=⟨λx=>(a8 x fns.fns).bind U,fm,λx=>fns.cs.lookup x,λx=>fns.cls.lookup x⟩
def dI(f:PK->Option IE):List PK->Option ge
 |[]=>PB .nil
 |e::es=>if ah e then(match f e,dI f es with|some a,PB r=>PB (.cons a r)|_,_=>PC) else PC
noncomputable def dq(f:PK->Option IE):List PK->Option ge
 |[]=>PB .nil
 |e::es=>match f e,dq f es with|some a,PB r=>PB (.cons a r)|_,_=>PC
def Eg(c:Cz)(f:PK->Option IE)(tg iter:PK):Option II:=
 match iter with
 |.Call (.Name x _) [a] [] _=>
  if x="range" then(if iY c.sc "range" && ah a then(f a).map (.rng (.lit (.int 0))) else PC)
  else if x="enumerate" then(if iY c.sc "enumerate" && ah a&&mq tg then(f a).map .enm else PC)
  else(f iter).map .e
 |.Call (.Name x _) [a,b] [] _=>
  if x="range" then(if iY c.sc "range" && ah a&&ah b then(match f a,f b with|some a,PB b=>PB (.rng a b)|_,_=>PC) else PC)
  else if x="zip" then(if iY c.sc "zip" && ah a&&ah b&&mq tg then(match f a,f b with|some a,PB b=>PB (.zp a b)|_,_=>PC) else PC)
  else(f iter).map .e
 |_=>(f iter).map .e
noncomputable def AS(f:PK->Option IE):Option PK->Option IO
 |none=>PB .non
 |some e=>(f e).map .som
noncomputable def rn(f:PK->Option IE):List PK->Option IO
 |[]=>PB .non
 |[e]=>(f e).map .som
 |_=>PC
def xM(fns:Nms)(c:Cz)(f:PK->Option IE)(x:Str)(es:List PK):Option IE:=
 if iY c.sc x&&es.all ah then(match dI f es with|some ies=>(match a8 x fns.fns with|some i=>(match fns.io i with|some _=>PC|none=>PB (.fn i ies))|none=>PB (.blt x ies))|none=>PC) else PC
noncomputable def Eh:IE->Bool
 |.var _|.ix ..|.isi ..|.fn ..|.blt ..=>PD
 |_=>PF
def jF(o:Option IE):Option IE:=match o with|some ie=>if Eh ie then PB ie else PC|none=>PC
def Nms.kL(fns:Nms)(p:Pos):Ow:=(fns.an p.line p.col).getD bQ
noncomputable def Nms.kT(fns:Nms)(p:Pos):Ow:=(fns.an p.line p.col).getD .fz
noncomputable def HG:Const->Option IE
 |.int i=>PB (.lit (.int i))
 |.bool i=>PB (.lit (.bl i))
 |.none=>PB (.lit .non)
 |.str x=>PB (.lit (.str x))
 |_=>PC
noncomputable def rq(f:PK->Option IE)(a:PK)(ops:List Qd)(bs:List PK):Option IE:=match ops with
 |[]=>PC
 |op::ops=>match bs with
  |[]=>PC
  |b::bs=>match ops with
   |[]=>(match bs with
    |[]=>if Qa op b then PC else match f a,f b with|some a,PB b=>PB (.cmp op a b)|_,_=>PC
    |_::_=>PC)
   |op'::ops=>match ops with
    |_::_=>PC
    |[]=>match bs with
     |[]=>PC
     |d::bs=>match bs with
      |_::_=>PC
      |[]=>if Qa op' d then PC else match f a,f b,f d with|some a,PB b,PB d=>PB (.chain op op' a b d)|_,_,_=>PC
def Ei(f:PK->Option IE)(a b:PK):Option IE:=match b with
 |.Slice lo hi st _=>(match st with
  |none=>(match f a,AS f lo,AS f hi with|some a,PB lo,PB hi=>PB (.sl a lo hi)|_,_,_=>PC)
  |some st=>(match hi with
   |some _=>PC
   |none=>(match f a,AS f lo,f st with|some a,PB lo,PB b=>PB (.stp a lo b)|_,_,_=>PC)))
 |b=>if cZ b then(match f a,f b with|some a,PB b=>PB (.ix a b)|_,_=>PC) else PC
def Ej(c:Cz)(f:PK->Option IE)(q:List PK):Option IE:=match q with
 |[]=>PC
 |a::q=>match q with
  |[]=>PC
  |t::q=>match q with
   |_::_=>PC
   |[]=>match t with
    |.Name T _=>if iY c.sc "isinstance" && iY c.sc T&&ah a then(f a).map (.isi T) else PC
    |_=>PC
def F8(m:Str):List Str->Option Nat
 |[]=>PC
 |y::r=>if ql y=PD/\mM y=m then PB 0 else(F8 m r).map (·+1)
def Ek(fns:Nms)(f:PK->Option IE)(o:PK)(m:Str)(ap:Pos)(q:List PK)(pos:Pos):Option IE:=match F8 m fns.fns with
 |none=>PC
 |some i=>match q with
  |[]=>PC
  |a::es=>if ee o=PD/\ah a=PD/\es.all ah=PD/\(ap.endLine==pos.line)=PD/\(a::es).length<30 then(match f o,dI f (a::es) with|some o,PB ies=>PB (.fn i (.cons o ies))|_,_=>PC) else PC
def Kp(fns:Nms)(c:Cz)(f:PK->Option IE)(g:PK)(q:List PK)(ks:List Keyword)(pos:Pos):Option IE:=match ks with
 |_::_=>PC
 |[]=>match g with
  |.Name x _=>if x="isinstance" then Ej c f q else(match q with
   |[]=>PC
   |a::es=>xM fns c f x (a::es))
  |.Attribute o m ap=>Ek fns f o m ap q pos
  |_=>PC
def HI(fns:Nms)(c:Cz)(B O:Cz->PK->Option IE)(elt:PK)(q:List Comprehension)(scope:P1)(p:Pos):Option IE:=match q with
 |[]=>PC
 |g::q=>match q with
  |_::_=>PC
  |[]=>if g.is_async=0 then(if dh g.iter&&bc c scope then(match nC ⟨f9 scope c.sc,ac scope,gE scope⟩ 4 g.target,Eg c (B c) g.target g.iter,rn (O ⟨f9 scope c.sc,ac scope,gE scope⟩) g.ifs,B ⟨f9 scope c.sc,ac scope,gE scope⟩ elt with
   |some t,PB it,PB ts,PB el=>PB (.comp ((fns.an p.line p.col).getD .fz) (aA c scope) t it ts el)|_,_,_,_=>PC) else PC) else PC
noncomputable def Mg:Ow->Nat
 |.fz=>1
 |.own es _=>if es.length=0 then 1 else es.length
noncomputable def Mh:Ow->Ow
 |.fz=>.fz
 |.own _ r=>r
mutual
def cE(fns:Nms):Nat->Cz->PK->Option IE
 |0,_,_=>PC
 |n+1,c,e=>match e with
  |.Name x p=>if iY c.sc x then(fns.cs.lookup x).map .lit else(match fns.md p.line p.col with|none=>(f7 c x).map .var|some _=>PC)
  |.Constant v _ _=>HG v
  |.BinOp a op b _=>match cE fns n c a,cE fns n c b with|some a,PB b=>PB (.bin op a b)|_,_=>PC
  |.Compare a ops bs _=>rq (cE fns n c) a ops bs
  |.UnaryOp op a _=>(match op with|.Not=>(cE fns n c a).map .not|_=>PC)
  |.BoolOp op es _=>(dq (cE fns n c) es).map (.bool op)
  |.IfExp t a b _=>match cT fns n c t,cE fns n c a,cE fns n c b with|some t,PB a,PB b=>PB (.ifx t a b)|_,_,_=>PC
  |.List es p=>(dI (cE fns n c) es).map (.lst (fns.kL p))
  |.Tuple es _ p=>(dI (cE fns n c) es).map (.tup (fns.kT p))
  |.Dict ks vs p=>(match ks with|[]=>(match vs with|[]=>PB (match fns.an p.line p.col with|some k=>.dnew (Mg k) (Mh k)|none=>.dnew 0 .fz)|_::_=>PC)|_::_=>PC)
  |.Subscript a b _=>Ei (cE fns n c) a b
  |.Attribute a f _=>if ee a then(cE fns n c a).map (.fld f) else PC
  |.Call g as ks pos=>Kp fns c (cE fns n c) g as ks pos
  |.ListComp elt gs scope p=>HI fns c (cE fns n) (cT fns n) elt gs scope p
  |_=>PC
def cT(fns:Nms):Nat->Cz->PK->Option IE
 |0,_,_=>PC
 |n+1,c,e=>match e with
  |.Compare a ops bs _=>rq (cE fns n c) a ops bs
  |.UnaryOp op a _=>(match op with|.Not=>(cT fns n c a).map .not|_=>PC)
  |.BoolOp op es _=>(dq (cT fns n c) es).map (.bool op)
  |.Name x p=>jF (cE fns n c (.Name x p))
  |.Call f as ks p=>jF (cE fns n c (.Call f as ks p))
  |.Subscript a b p=>jF (cE fns n c (.Subscript a b p))
  |_=>PC
end
theorem Kq{f:Ro->Option Bool}(h:∀Z,f Z=PC):SndT X f e:=λZ b a=>by rw[h] at a;cases a
theorem bz{α β:Type}{o:Option α}{g:α->β}{b:β}(h:o.map g=PB b):∃a,o=PB a/\b=g a:=by
 cases o with
 |none=>cases h
 |some a=>cases h;show⟨a,rfl,rfl⟩
theorem nE(h:Eh ie=PD):aO U ie=λZ=>eJ (aa U ie Z):=by
 funext Z
 cases ie with
 |var i=>rfl
 |ix a b=>rfl
 |isi T a=>rfl
 |fn i c=>rfl
 |blt x c=>rfl
 |_=>cases h
theorem nG(d:D):aa U (.lit d)=λ_=>PB (.sh,d):=by
 show funext λ_=>rfl
theorem kQ(h:jF o=PB ie):o=PB ie/\Eh ie=PD:=by
 unfold jF at h;split at h
 ·split at h
  ·ext hk;cases h;show⟨rfl,hk⟩
  ·cases h
 ·cases h
section
variable {X:Cx} {c:Cz} (fns:Nms) (U:Nat->Option Fn) {fm:Str->Option (Mu->Sp)}
theorem El:SndE X (λ_=>Ca t r) (.Dict [] [] pos):=by
 intro Z c d h g Y H Q e q;cases(show PB (Kd.fr (.own [] r),D.dic t [] [])=PB (c,d) from h)
 let b:∀{p:PL} {o:HO},H p=PC->cW X.K o (.dic t []) []->VR X.K g H (upd H p o) (.fr (.own [] r)) (.dic t [] []) (.ref p):=λ{p o} a f=>
  VRs.node (kds:=[]) (es:=[]) (r:=r) (vs:=[]) (hd:=.dic t []) rfl e.mu (Same.refl H) .nil a f rfl
 cases t with
 |zero=>show am xa λp a=>q _ _ (ae a) (b a (.inl ⟨rfl,[],rfl,rfl,rfl⟩))
 |succ m=>show am (xc (m:=m)) λp a=>q _ _ (ae a) (b a (.inr ⟨m,rfl,[],0,rfl,rfl,rfl⟩))
theorem fW{f:PK->Option IE}(d:∀e g,f e=PB g->SndE X (aa U g) e):∀{es:List PK} {b:ge},dI f es=PB b->kF X (aZ U b) es/\es.all ah=PD
 |[],b,h=>by
  cases h;show⟨?_,rfl⟩;have:aZ U .nil=λ_=>PB []:=by funext Z;rw[aZ]
  rw[this];show jW
 |e::es,b,h=>by
  unfold dI at h;split at h
  ·ext c;split at h
   ·ext a r l i;cases h;obtain⟨k,j⟩:=fW d i;show⟨?_,by rw[NC,c,j];rfl⟩;have:aZ U (.cons a r)=λZ=>cG (aa U a Z) (aZ U r Z):=by funext Z;rw[aZ]
    rw[this];show fR c (d e a l) k
   ·cases h
  ·cases h
theorem tw{f:PK->Option IE}(m:∀e z,f e=PB z->SndE X (aa U z) e)(op:BoolOp)(pos:Pos):∀{es:List PK} {c:ge},dq f es=PB c->SndE X (lM U op c) (.BoolOp op es pos)
 |[],c,h=>by cases h;intro Z k d h;unfold lM at h;cases h
 |[a],c,h=>by
  unfold dq dq at h;split at h
  ·ext o r n j;cases h;cases j;intro Z k d h g Y H Q i q;unfold lM at h;show am (De aw) (m a o n Z k d h g Y H Q i q)
  ·cases h
 |a::b::es,c,h=>by
  unfold dq at h;split at h
  ·ext o r n j;cases h;let rest:=tw m op pos j
   let y:∃A B,r=.cons A B:=by
    unfold dq at j;split at j
    ·cases j;show⟨_,_,rfl⟩
    ·cases j
   obtain⟨A,B,rfl⟩:=y;intro Z k d h g Y H Q i q;unfold lM at h;dsimp only at h;split at h
   ·ext C x s;split at h
    ·ext p
     cases op with
     |And=>
      show am (wu aw aw) (m a o n Z _ _ s g Y H _ i λv l s1 r=>⟨x,r.rd.bl,?_⟩);have:x=PD:=by rw[<- p];rfl
      rw[if_pos this];show rest Z k d h g Y l Q (i.same s1) λt w s2 u=>q t w (s1.trans s2) (u.older s1)
     |Or=>
      show am (BY aw aw) (m a o n Z _ _ s g Y H _ i λv l s1 r=>⟨x,r.rd.bl,?_⟩);have:x=PF:=by rw[<- p];rfl
      rw[if_neg (by rw[this];decide)];show rest Z k d h g Y l Q (i.same s1) λt w s2 u=>q t w (s1.trans s2) (u.older s1)
    ·ext p;cases h
     cases op with
     |And=>
      show am (wu aw aw) (m a o n Z _ _ s g Y H _ i λv l s1 r=>⟨x,r.rd.bl,?_⟩)
      have:x=PF:=by cases x with|true=>show absurd rfl p|false=>rfl
      subst this;rw[if_neg (by decide)];show q _ l s1 B5
     |Or=>
      show am (BY aw aw) (m a o n Z _ _ s g Y H _ i λv l s1 r=>⟨x,r.rd.bl,?_⟩)
      have:x=PD:=by cases x with|false=>show absurd rfl p|true=>rfl
      subst this;rw[if_pos rfl];show q _ l s1 B5
   ·cases h
  ·cases h
theorem tz{f:PK->Option IE}(k:∀e t,f e=PB t->SndT X (aO U t) e)(op:BoolOp)(pos:Pos):∀{es:List PK} {c:ge},dq f es=PB c->∀Z r,gy U op c Z=PB r->∀g Y H Q,SE X.K g Z Y H->(∀H',Same H H'->Q r H')->wW X (.BoolOp op es pos) Y H Q
 |[],c,h,Z,r,d,g,Y,H,Q,se,q=>by cases h;unfold gy at d;cases d
 |[a],c,h,Z,r,hb,g,Y,H,Q,se,q=>by
  unfold dq dq at h;split at h
  ·ext j p l d;cases h;cases d;unfold gy at hb;let v:=k a j l Z r hb g Y H Q se q
   cases op with
   |And=>show mj (zM iS) v
   |Or=>show mj (Dc iS) v
  ·cases h
 |a::b::es,c,h,Z,r,hb,g,Y,H,Q,se,q=>by
  unfold dq at h;split at h
  ·ext j w l d;cases h;let rest:=tz k op pos d Z r
   let s:∃u p,w=.cons u p:=by
    unfold dq at d;split at d
    ·cases d;show⟨_,_,rfl⟩
    ·cases d
   obtain⟨u,p,rfl⟩:=s;unfold gy at hb;dsimp only at hb;split at hb
   ·ext x n;split at hb
    ·ext m
     cases op with
     |And=>
      show mj (wt iS Al) (k a j l Z x n g Y H _ se λi s1=>?_);have:x=PD:=by rw[<- m];rfl
      rw[if_pos this];show rest hb g Y i Q (se.same s1) λo s2=>q o (s1.trans s2)
     |Or=>
      show mj (BX iS Al) (k a j l Z x n g Y H _ se λi s1=>?_);have:x=PF:=by rw[<- m];rfl
      rw[if_neg (by rw[this];decide)];show rest hb g Y i Q (se.same s1) λo s2=>q o (s1.trans s2)
    ·ext m;cases hb
     cases op with
     |And=>
      show mj (wt iS Al) (k a j l Z r n g Y H _ se λi s1=>?_)
      have:r=PF:=by cases r with|true=>show absurd rfl m|false=>rfl
      subst this;rw[if_neg (by decide)];show q i s1
     |Or=>
      show mj (BX iS Al) (k a j l Z r n g Y H _ se λi s1=>?_)
      have:r=PD:=by cases r with|false=>show absurd rfl m|true=>rfl
      subst this;rw[if_pos rfl];show q i s1
   ·cases hb
  ·cases h
theorem AT(O:ao X (cP fns U fm) c){f:PK->Option IE}(k:∀e g,f e=PB g->SndE X (aa U g) e){g:IE}(h:xM fns c f x (a::es)=PB g):SndE X (aa U g) (.Call (.Name x p) (a::es) [] pos):=by
 unfold xM at h;split at h
 ·ext b;rw[Mw,NC,Mw] at b;split at h
  ·ext d m;let j:=(fW U k m).1;split at h
   ·ext i l;split at h
    ·cases h
    cases h
    let e:aa U (.fn i d)=λZ=>xD ((cP fns U fm).fn x) (aZ U d Z):=by
     funext Z;change xD (U i) (aZ U d Z)=_;unfold cP;dsimp only;rw[l];rfl
    rw[e];show Kn O j b.1 b.2.1 b.2.2
   ·cases h;show Hx O j b.1 b.2.1 b.2.2
  ·cases h
 ·cases h
theorem tB(O:ao X (cP fns U fm) c){f:PK->Option IE}(k:∀e o,f e=PB o->SndE X (aa U o) e)(h:Eg c f tg iter=PB it):SndI X (gf U it) tg iter:=by
 let j:∀{it:II},(f iter).map .e=PB it->SndI X (gf U it) tg iter:=λh=>by
  obtain⟨a,g,rfl⟩:=bz h;show Hz (k _ _ g)
 unfold Eg at h;split at h
 ·ext x p a m;split at h
  ·ext i;subst i;split at h
   ·ext d;rw[Mw] at d;obtain⟨n,g,rfl⟩:=bz h;show D9 O d.1 d.2 (k _ _ g)
   ·cases h
  ·split at h
   ·ext i;subst i;split at h
    ·ext d;simp only[Mw] at d;obtain⟨n,g,rfl⟩:=bz h;show HA O d.1.1 d.1.2 d.2 (k _ _ g)
    ·cases h
   ·show j h
 ·ext x p a b m;split at h
  ·ext i;subst i;split at h
   ·ext d;simp only[Mw] at d;split at h
    ·ext n q g l;cases h;show Ea O d.1.1 d.1.2 d.2 (k _ _ g) (k _ _ l)
    ·cases h
   ·cases h
  ·split at h
   ·ext i;subst i;split at h
    ·ext d;simp only[Mw] at d;split at h
     ·ext n q g l;cases h;show HB O d.1.1.1 d.1.1.2 d.1.2 d.2 (k _ _ g) (k _ _ l)
     ·cases h
    ·cases h
   ·show j h
 ·show j h
theorem Em(h:HG v=PB ie):SndE X (aa U ie) (.Constant v k pos):=by
 cases v with
 |int i=>cases h;rw[nG];show He _ _ _
 |bool i=>cases h;rw[nG];show Ke _ _ _
 |none=>cases h;rw[nG];show Hf _ _
 |str i=>cases h;rw[nG];show Hg _ _ _
 |_=>cases h
theorem tD{f:PK->Option IE}(h:rq f a ops bs=PB ie):(∃op b e g,ops=[op]/\bs=[b]/\Qa op b=PF/\f a=PB e/\f b=PB g/\ie=.cmp op e g)\/(∃op c b d e g d',ops=[op,c]/\bs=[b,d]/\Qa c d=PF/\f a=PB e/\f b=PB g/\f d=PB d'/\ie=.chain op c e g d'):=by
 cases ops with
 |nil=>cases h
 |cons op ops=>cases bs with
  |nil=>cases h
  |cons b bs=>cases ops with
   |nil=>cases bs with
    |cons _ _=>cases h
    |nil=>
     dsimp only[rq] at h;split at h
     ·cases h
     ·ext j;split at h
      ·ext e g k i;cases h;show .inl ⟨op,b,e,g,rfl,rfl,by simpa using j,k,i,rfl⟩
      ·cases h
   |cons c ops=>cases ops with
    |cons _ _=>cases h
    |nil=>cases bs with
     |nil=>cases h
     |cons d bs=>cases bs with
      |cons _ _=>cases h
      |nil=>
       dsimp only[rq] at h;split at h
       ·cases h
       ·ext j;split at h
        ·ext e g d' k i l;cases h;show .inr ⟨op,c,b,d,e,g,d',rfl,rfl,by simpa using j,k,i,l,rfl⟩
        ·cases h
theorem xN{f:PK->Option IE}(c:∀e b,f e=PB b->SndE X (aa U b) e)(h:AS f o=PB io):vq X (eY U io) o:=by
 cases o with
 |none=>
  cases h;let e:eY U .non=λ_=>PB PC:=by funext Z;rw[eY]
  rw[e];show DZ
 |some e=>
  obtain⟨a,d,rfl⟩:=bz h;let e:eY U (.som a)=λZ=>Ay (aa U a Z):=by funext Z;rw[eY]
  rw[e];show D0 (c _ _ d)
theorem tF{f:PK->Option IE}(c:∀e b,f e=PB b->SndT X (aO U b) e)(h:rn f o=PB io):jE X (di U io) o:=by
 unfold rn at h;split at h
 ·cases h;let e:di U .non=λ_=>PB PD:=by funext Z;rw[di]
  rw[e];show B9
 ·obtain⟨a,d,rfl⟩:=bz h;let e:di U (.som a)=aO U a:=by funext Z;rw[di]
  rw[e];show HF (c _ _ d)
 ·cases h
theorem En(O:ao X (cP fns U fm) c){f:PK->Option IE}(d:∀e i,f e=PB i->SndE X (aa U i) e){i:IE}(h:Ei f a b=PB i):SndE X (aa U i) (.Subscript a b pos):=by
 unfold Ei at h;split at h
 ·ext lo q n p
  cases n with
  |none=>
   dsimp only at h;split at h
   ·ext o m t j g l;cases h;show Ki (d _ _ j) (xN U d g) (xN U d l)
   ·cases h
  |some n=>cases q with
   |some _=>cases h
   |none=>
    dsimp only at h;split at h
    ·ext o m s j g k;cases h;show Hr (d _ _ j) (xN U d g) (d _ _ k)
    ·cases h
 ·split at h
  ·ext r;split at h
   ·ext o s j k;cases h;show Kh O (d _ _ j) (d _ _ k) r
   ·cases h
  ·cases h
theorem Eo(O:ao X (cP fns U fm) c){f:PK->Option IE}(g:∀e b,f e=PB b->SndE X (aa U b) e){b:IE}(h:Ej c f as=PB b):SndE X (aa U b) (.Call (.Name "isinstance" p) as [] pos):=by
 cases as with
 |nil=>cases h
 |cons a as=>cases as with
  |nil=>cases h
  |cons t as=>cases as with
   |cons _ _=>cases h
   |nil=>
    dsimp only[Ej] at h;split at h
    ·split at h
     ·ext d;simp only[Mw] at d;obtain⟨j,i,rfl⟩:=bz h;show HE O d.1.1 d.1.2 d.2 (g _ _ i)
     ·cases h
    ·cases h
theorem xO:∀{l:List Str} {i:Nat},F8 m l=PB i->∃y,ql y=PD/\mM y=m/\a8 y l=PB i
 |[],_,h=>by cases h
 |y::r,i,h=>by
  unfold F8 at h;split at h
  ·ext e;cases h;show⟨y,e.1,e.2,by unfold a8;rw[if_pos rfl]⟩
  ·ext a
   cases q:F8 m r with
   |none=>rw[q] at h;cases h
   |some j=>
    rw[q] at h;cases h;obtain⟨z,e1,e2,e3⟩:=xO q;show⟨z,e1,e2,?_⟩;unfold a8;rw[if_neg (λe:z=y=>a (e▸⟨e1,e2⟩)),e3];rfl
theorem Ep(O:ao X (cP fns U fm) c){f:PK->Option IE}(k:∀e b,f e=PB b->SndE X (aa U b) e){b:IE}(h:Ek fns f o m ap as pos=PB b):SndE X (aa U b) (.Call (.Attribute o m ap) as [] pos):=by
 unfold Ek at h
 cases g:F8 m fns.fns with
 |none=>rw[g] at h;cases h
 |some i=>
  rw[g] at h
  cases as with
  |nil=>cases h
  |cons a p=>
   dsimp only at h;split at h
   ·ext t;obtain⟨v,r,l,n,s⟩:=t
    cases d:f o with
    |none=>rw[d] at h;cases h
    |some u=>
     cases j:dI f (a::p) with
     |none=>rw[d,j] at h;cases h
     |some q=>
      rw[d,j] at h;cases h;obtain⟨y,e1,rfl,e3⟩:=xO g;have:=B7 O (ap:=ap) (pos:=pos) e1 (k o u d) (fW U k j).1 v n r l s;rw[show(cP fns U fm).fn y=U i from by change(a8 y fns.fns).bind U=_;rw[e3];rfl] at this;show this
   ·cases h
theorem HJ(O:ao X (cP fns U fm) c){f:PK->Option IE}(d:∀e b,f e=PB b->SndE X (aa U b) e){b:IE}(h:Kp fns c f g as ks pos=PB b):SndE X (aa U b) (.Call g as ks pos):=by
 cases ks with
 |cons _ _=>cases h
 |nil=>
  dsimp only[Kp] at h;split at h
  ·split at h
   ·ext i;subst i;show Eo fns U O d h
   ·cases as with
    |cons a j=>show AT fns U O d h
    |nil=>cases h
  ·show Ep fns U O d h
  ·cases h
theorem HK(O:ao X (cP fns U fm) c){m q:Cz->PK->Option IE}(b:∀X c,ao X (cP fns U fm) c->∀e a,m c e=PB a->SndE X (aa U a) e)(l:∀X c,ao X (cP fns U fm) c->∀e a,q c e=PB a->SndT X (aO U a) e){a:IE}(h:HI fns c m q elt gs scope pos=PB a):SndE X (aa U a) (.ListComp elt gs scope pos):=by
 cases gs with
 |nil=>cases h
 |cons g gs=>cases gs with
  |cons _ _=>cases h
  |nil=>
   dsimp only[HI] at h;split at h
   ·ext x;split at h
    ·ext d;rw[Mw] at d;split at h
     ·ext t u p r v k j i;cases h;rw[show aa U (.comp _ (aA c _) t u p r)=λZ=>mr _ (gf U u Z) (dS t (di U p) (aa U r) (aQ Z (aA c _))) from funext λ_=>rfl];let n:=c6 O d.2
      cases g with
      |mk y o w z=>
       subst x;show Ee O d.2 d.1 (tB fns U O (b X c O) k) v (λC s H f=>tF U (l _ _ (n C s H f)) j) (λC s H f=>b _ _ (n C s H f) _ _ i)
     ·cases h
    ·cases h
   ·cases h
end
section
variable (fns:Nms) (U:Nat->Option Fn) {fm:Str->Option (Mu->Sp)}
theorem cH:∀n:Nat,(∀X c,ao X (cP fns U fm) c->∀e m,cE fns n c e=PB m->SndE X (aa U m) e)/\(∀X c,ao X (cP fns U fm) c->∀e m,cT fns n c e=PB m->SndT X (aO U m) e)
 |0=>⟨λX c O e m h=>by (cases(show(PC:Option IE)=PB m from h)),λX c O e m h=>by (cases(show(PC:Option IE)=PB m from h))⟩
 |n+1=>by
  obtain⟨C,B⟩:=cH n;show⟨λX c O e m h=>?_,λX c O e m h=>?_⟩
  ·let o:=C X c O;let M:=B X c O
   cases e with
   |Name x p=>
    dsimp only[cE] at h;split at h
    ·ext V;obtain⟨d,N,rfl⟩:=bz h;let e:aa U (.lit d)=λ_=>PB (.sh,d):=by show funext λ_=>rfl
     rw[e];show Hh O V N p
    ·split at h
     ·obtain⟨i,W,rfl⟩:=bz h;let e:aa U (.var i)=λZ=>eI i Z[i]?:=by show funext λ_=>rfl
      rw[e];show hJ O W p
     ·cases h
   |Constant v k j=>show Em U h
   |BinOp a w b j=>
    dsimp only[cE] at h;split at h
    ·ext y K l u;cases h;show Hj (o _ _ l) (o _ _ u)
    ·cases h
   |Compare a A S j=>
    rcases tD (show rq (cE fns n c) a A S=PB m from h) with⟨w,b,y,K,rfl,rfl,D,l,u,rfl⟩|⟨w,P,b,d,y,K,d',rfl,rfl,D,l,u,N,rfl⟩
    ·show Hk O D (o _ _ l) (o _ _ u)
    ·show At O D (o _ _ l) (o _ _ u) (o _ _ N)
   |UnaryOp w a j=>cases w with
    |Not=>
     obtain⟨y,l,rfl⟩:=bz (show(cE fns n c a).map .not=PB m from h);show Hl (o _ _ l)
    |_=>cases h
   |BoolOp w z j=>
    obtain⟨y,l,rfl⟩:=bz (show(dq (cE fns n c) z).map (.bool w)=PB m from h);show tw U o _ _ l
   |IfExp t a b j=>
    dsimp only[cE] at h;split at h
    ·ext t' y K ht l u;cases h;show Kf (M _ _ ht) (o _ _ l) (o _ _ u)
    ·cases h
   |List z p=>
    obtain⟨y,l,rfl⟩:=bz (show(dI (cE fns n c) z).map (.lst (fns.kL p))=PB m from h);show Hm (fW U o l).1
   |Tuple z k p=>
    obtain⟨y,l,rfl⟩:=bz (show(dI (cE fns n c) z).map (.tup (fns.kT p))=PB m from h);show Hn (fW U o l).1
   |Dict R vs p=>cases R with
    |cons _ _=>cases h
    |nil=>cases vs with
     |cons _ _=>cases h
     |nil=>
      let dn:∀t r,SndE X (aa U (.dnew t r)) (.Dict [] [] p):=λt r=>by
       show El
      dsimp only[cE] at h;cases h
      split<;>show dn _ _
   |Subscript a b j=>show En fns U O o h
   |Attribute a f j=>
    dsimp only[cE] at h;split at h
    ·ext u;obtain⟨y,l,rfl⟩:=bz h;show Ho (dH u) (o _ _ l)
    ·cases h
   |Call g as R j=>show HJ fns U O o h
   |ListComp hc gs T j=>show HK fns U O C B h
   |_=>cases h
  ·let o:=C X c O;let M:=B X c O
   cases e with
   |Compare a A S j=>
    rcases tD (show rq (cE fns n c) a A S=PB m from h) with⟨w,b,y,K,rfl,rfl,D,l,u,rfl⟩|⟨w,P,b,d,y,K,d',rfl,rfl,D,l,u,N,rfl⟩
    ·show bR O D (o _ _ l) (o _ _ u)
    ·show Kq λ_=>rfl
   |UnaryOp w a j=>cases w with
    |Not=>
     obtain⟨y,l,rfl⟩:=bz (show(cT fns n c a).map .not=PB m from h);show eU (M _ _ l)
    |_=>cases h
   |BoolOp w z j=>
    obtain⟨y,l,rfl⟩:=bz (show(dq (cT fns n c) z).map (.bool w)=PB m from h);show λZ b h g Y H Q se q=>λE s I=>tz U M _ _ l Z b h g Y H Q se q _ E s I
   |Name x p=>
    obtain⟨L,F⟩:=kQ (show jF (cE fns n c _)=PB m from h);rw[nE F];show xq (o _ _ L) (λ_=>rfl)
   |Call g as R p=>
    obtain⟨L,F⟩:=kQ (show jF (cE fns n c _)=PB m from h);rw[nE F];show xq (o _ _ L) (λ_=>rfl)
   |Subscript a b p=>
    obtain⟨L,F⟩:=kQ (show jF (cE fns n c _)=PB m from h);rw[nE F];show xq (o _ _ L) (λ_=>rfl)
   |_=>cases h
end
structure Evo(g:Gh)(H:Hp)(g':Gh)(H':Hp)(F:Pr):Prop where
 keep:∀b o,(∀i,g b≠PB (PB i))->H b=PB o->H' b=PB o
 out:∀b,g b=PB PC↔g' b=PB PC
 new:∀b i,g' b=PB (PB i)->(∃j,g b=PB (PB j))\/H b=PC
 tmp:∀b,F b->g' b=PC/\((∃j,g b=PB (PB j))\/H b=PC)
 dom:∀b o,H b=PB o->∃o',H' b=PB o'
section
variable {K:Mu} {H H' H1 H2:Hp} {g g' g1 g2:Gh} {F F1 F2:Pr}
theorem Evo.refl(g:Gh)(H:Hp):Evo g H g H (λ_=>False):=⟨λ_ _ _ e=>e,λ_=>Iff.rfl,λb i e=>.inl ⟨i,e⟩,λ_ z=>z.elim,λ_ o e=>⟨o,e⟩⟩
theorem Evo.froz(e:Evo g H g' H' F)(h:H b=PB o)(n:g b=PC):g' b=PC/\¬F b:=by
 show⟨?_,λz=>?_⟩
 ·cases q:g' b with
  |none=>rfl
  |some x=>
   cases x with
   |none=>have:=(e.out b).mpr q;rw[n] at this;cases this
   |some i=>
    rcases e.new b i q with⟨j,q⟩|q
    ·rw[n] at q;cases q
    ·rw[h] at q;cases q
 ·rcases(e.tmp b z).2 with⟨j,q⟩|q
  ·rw[n] at q;cases q
  ·rw[h] at q;cases q
open Classical in
noncomputable def Gh.minus(g:Gh)(F:Pr):Gh:=λb=>if F b then PC else g b
theorem ib(h:F b):g.minus F b=PC:=by unfold Gh.minus;rw[if_pos h]
theorem bI(h:¬F b):g.minus F b=g b:=by unfold Gh.minus;rw[if_neg h]
theorem kR(h:g.minus F b=PB x):g b=PB x/\¬F b:=by
 unfold Gh.minus at h;split at h
 ·cases h
 ·ext n;show⟨h,n⟩
theorem bT(h:¬F b):g.plus F b=g b:=by unfold Gh.plus;rw[if_neg h]
theorem Evo.trans(a:Evo g H g1 H1 F1)(b:Evo (g1.plus F1) H1 g2 H2 F2):Evo g H (g2.minus F1) H2 (λb=>F1 b\/F2 b):=by
 let f:∀c,¬F1 c->∀j,(g1.plus F1) c=PB (PB j)->(∃k,g c=PB (PB k))\/H c=PC:=λc n j e=>by
  rw[bT n] at e;show a.new c j e
 let p:∀c,H1 c=PC->H c=PC:=λc q=>by
  cases e:H c with
  |none=>rfl
  |some o=>obtain⟨v,m⟩:=a.dom c o e;rw[q] at m;cases m
 show⟨λc o n e=>?_,λc=>⟨λq=>?_,λq=>?_⟩,λc i q=>?_,λc z=>?_,λc o e=>?_⟩
 ·show b.keep c o (λi q=>?_) (a.keep c o n e);let r:=bL q;rcases a.new c i r with⟨j,q⟩|q
  ·show n j q
  ·rw[e] at q;cases q
 ·let d:¬F1 c:=λz=>by
   have:=(a.tmp c z).1;rw[(a.out c).mp q] at this;cases this
  rw[bI d];show(b.out c).mp (by rw[bT d];show(a.out c).mp q)
 ·obtain⟨l,d⟩:=kR q;have:=(b.out c).mpr l;rw[bT d] at this;show(a.out c).mpr this
 ·obtain⟨l,d⟩:=kR q;rcases b.new c i l with⟨j,q⟩|q
  ·show f c d j q
  ·show .inr (p c q)
 ·rcases z with z|z
  ·show⟨ib z,(a.tmp c z).2⟩
  ·obtain⟨t,s⟩:=b.tmp c z;by_cases h:F1 c
   ·show⟨ib h,(a.tmp c h).2⟩
   ·show⟨by rw[bI h];show t,?_⟩;rcases s with⟨j,q⟩|q
    ·show f c h j q
    ·show .inr (p c q)
 ·obtain⟨u,e1⟩:=a.dom c o e;show b.dom c u e1
theorem VR1.evo(j:bE kd=PF)(b:Evo (g1.plus F1) H1 g2 H2 F2)(h:VR1 K H1 g1 F1 kd d v F1):VR1 K H2 (g2.minus F1) (λc=>F1 c\/F2 c) kd d v F1:=by
 let g:∀c o,(¬Sx g1 F1 c\/F1 c)->H1 c=PB o->H2 c=PB o:=λc o n e=>by
  show b.keep c o (λi q=>?_) e;rcases n with n|n
  ·show n (.inl (by rw[bL q];simp))
  ·rw[aS n] at q;cases q
 let f:∀c o,H1 c=PB o->¬Sx g1 F1 c->¬Sx (g2.minus F1) (λc=>F1 c\/F2 c) c:=λc o e n z=>by
  let a:¬F1 c:=λz=>n (.inr z)
  let m:(g1.plus F1) c=PC:=by
   rw[bT a]
   cases q:g1 c with
   |none=>rfl
   |some x=>show absurd (.inl (by rw[q];simp)) n
  obtain⟨l,f2⟩:=b.froz e m;rcases z with z|z|z
  ·rw[bI a] at z;show z l
  ·show a z
  ·show f2 z
 cases kd with
 |sh=>show⟨h.1,h.2.go λc o n e=>⟨g c o (.inl n) e,f c o e n⟩⟩
 |fr k=>show Tr.go g f h
 |bo i k=>cases j
theorem Er(b:Evo (g1.plus F1) H1 g2 H2 F2)(c:PL):Sx (g2.minus F1) (λc=>F1 c\/F2 c) c↔Sx g2 F2 c:=by
 by_cases h:F1 c
 ·have:g2 c=PB PC:=(b.out c).mp (aS h);show⟨λ_=>.inl (by rw[this];simp),λ_=>.inr (.inl h)⟩
 ·show⟨λz=>z.elim (λz=>.inl (by rw[bI h] at z;show z)) λz=>z.elim (λz=>absurd z h) .inr,λz=>z.elim (λz=>.inl (by rw[bI h];show z)) λz=>.inr (.inr z)⟩
theorem ig(b:Evo (g1.plus F1) H1 g2 H2 F2):(g2.minus F1).plus (λc=>F1 c\/F2 c)=g2.plus F2:=by
 funext c;by_cases a:F2 c
 ·rw[aS a,aS (.inr a)]
 ·by_cases h:F1 c
  ·rw[aS (.inl h),bT a];show((b.out c).mp (aS h)).symm
  ·rw[bT a,bT (λz=>z.elim h a),bI h]
theorem VR1.evoR(b:Evo (g1.plus F1) H1 g2 H2 F2)(h:VR1 K H2 g2 F2 kd d v F):VR1 K H2 (g2.minus F1) (λc=>F1 c\/F2 c) kd d v F:=by
 let a:∀c o,H2 c=PB o->¬Sx g2 F2 c->¬Sx (g2.minus F1) (λc=>F1 c\/F2 c) c:=λc o _ n z=>n ((Er b c).mp z)
 cases kd with
 |sh=>show⟨h.1,h.2.go λc o n e=>⟨e,a c o e n⟩⟩
 |fr k=>show Tr.go (λ_ _ _ e=>e) a h
 |bo i k=>
  obtain⟨m,j,f,g⟩:=h;show⟨m,j,λc z=>?_,Tr.go (λ_ _ _ e=>e) a g⟩;rw[bI (λl=>?_)]
  ·show f c z
  ·have:=f c z;rw[(b.out c).mp (aS l)] at this;cases this
theorem VRL.evoR(b:Evo (g1.plus F1) H1 g2 H2 F2):∀{kds:List KD} {vs:List V} {F:Pr},VRL K H2 g2 F2 kds vs F->VRL K H2 (g2.minus F1) (λc=>F1 c\/F2 c) kds vs F
 |[],_,_,h=>h
 |(kd,d)::r,_,_,h=>by
  obtain⟨y,f,l,g,e,a,j,k,i⟩:=h;show⟨y,f,l,g,e,a,j,k.evoR b,VRL.evoR b i⟩
theorem pq(e:bE kd=PF)(a:Evo g H g1 H1 F1)(f:VR1 K H1 g1 F1 kd d v F1)(b:Evo (g1.plus F1) H1 g2 H2 F2)(k:SE K (g2.plus F2) Z2 Y H2)(j:VRL K H2 g2 F2 kds vs F2) :
  Evo g H (g2.minus F1) H2 (λc=>F1 c\/F2 c)/\SE K ((g2.minus F1).plus (λc=>F1 c\/F2 c)) Z2 Y H2/\VRL K H2 (g2.minus F1) (λc=>F1 c\/F2 c) ((kd,d)::kds) (v::vs) (λc=>F1 c\/F2 c):=by
 show⟨a.trans b,by rw[ig b];show k,v,vs,F1,F2,rfl,λc=>Iff.rfl,λc i h=>?_,f.evo e b,j.evoR b⟩;have:=(b.out c).mp (aS i);rw[(b.tmp c h).1] at this;cases this
end
abbrev MR:=Option (Kd×D×Ro)
def bA(X:Cx)(f:Ro->MR)(e:PK):Prop:=∀Z q d Z',f Z=PB (q,d,Z')->∀g Y H Q,SE X.K g Z Y H->
 (∀v g' H' F,Evo g H g' H' F->SE X.K (g'.plus F) Z' Y H'->VR1 X.K H' g' F q d v F->Q v H')->wE X e Y H Q
def pt(X:Cx)(f:Ro->Option (List KD×Ro))(es:List PK):Prop:=∀Z kds Z',f Z=PB (kds,Z')->∀g Y H Q,SE X.K g Z Y H->
 (∀vs g' H' F,Evo g H g' H' F->SE X.K (g'.plus F) Z' Y H'->VRL X.K H' g' F kds vs F->Q vs H')->wA X es Y H Q
def tG(X:Cx)(f:Ro->Option (Bool×Ro))(e:PK):Prop:=∀Z b Z',f Z=PB (b,Z')->∀g Y H Q,SE X.K g Z Y H->
 (∀g' H',Evo g H g' H' (λ_=>False)->SE X.K g' Z' Y H'->Q b H')->wT X e Y H Q
section
variable {X:Cx}
theorem cI{g:Gh}{H H':Hp}{F:Pr}(s:Same H H')(a:∀b,F b->H b=PC)(c:∀b,F b->g b=PC):Evo g H g H' F:=
 ⟨λb o _ e=>s b o e,λ_=>Iff.rfl,λb i e=>.inl ⟨i,e⟩,λb z=>⟨c b z,.inr (a b z)⟩,λb o e=>⟨o,s b o e⟩⟩
theorem eL{g:Gh}{H:Hp}(m:MuOk H (Sg g))(h:H b=PC):g b=PC:=by
 cases e:g b with
 |none=>rfl
 |some x=>obtain⟨o,q,_⟩:=m b (by rw[Sg,e];simp);rw[h] at q;cases q
theorem SndE.m{f:Ro->Option KD}(h:SndE X f e):bA X (λZ=>(f Z).map λp=>(p.1,p.2,Z)) e:=by
 intro Z o d r a g Y H Q c q;dsimp only at a
 cases i:f Z with
 |none=>rw[i] at a;cases a
 |some p=>
  rw[i] at a;cases a;show h Z p.1 p.2 i g Y H Q c λv l s n=>?_;obtain⟨F,j,k⟩:=n;show q v g l F (cI s j λb z=>eL c.mu (j b z)) (c.plus s j k.dom) k
theorem SndT.m{f:Ro->Option Bool}(h:SndT X f e):tG X (λZ=>(f Z).map λp=>(p,Z)) e:=by
 intro Z b j a g Y H Q d q;dsimp only at a
 cases c:f Z with
 |none=>rw[c] at a;cases a
 |some p=>
  rw[c] at a;cases a;show h Z b c g Y H Q d λi s=>q g i (cI s (λ_ z=>z.elim) λ_ z=>z.elim) (d.same s)
def dJ(q:Kd)(d:D):Kd:=match q with
 |.bo i k=>if qQ d=PD then .sh else .bo i k
 |k=>k
theorem VR1.im{g:Gh}(m:MuOk H (Sg (g.plus F)))(h:VR1 K H g F kd d v F):VR1 K H g F (dJ kd d) d v F:=by
 cases kd with
 |sh=>show h
 |fr k=>show h
 |bo i k=>
  unfold dJ;dsimp only;split
  ·ext a;show⟨h.1,h.rd.im (λb z=>m b ((al b).mpr z)) a⟩
  ·show h
def jc(a:MR)(r:Ro->Option (List KD×Ro)):Option (List KD×Ro):=match a with
 |some (kd,d,Z1)=>if bE (dJ kd d)=PD then PC else(match r Z1 with|some (kds,Z2)=>PB ((dJ kd d,d)::kds,Z2)|none=>PC)
 |none=>PC
theorem AU{j:Ro->MR}(t:ah e=PD)(y:bA X j e)(n:pt X fr es):pt X (λZ=>jc (j Z) fr) (e::es):=by
 intro Z A w h g Y H Q B q;dsimp only[jc] at h;split at h
 ·ext D d k e1;split at h
  ·cases h
  ·ext l;split at h
   ·ext b K e2;cases h;show kB (bw aw cX (aj t)) (y Z D d k e1 g Y H _ B λv r E C c a z=>n k b w e2 (r.plus C) Y E _ a λo I x F f i m=>?_);obtain⟨s,u,p⟩:=pq (by simpa using l) c (z.im a.mu) f i m;show q (v::o) _ x _ s u p
   ·cases h
 ·cases h
noncomputable def ii(a:MR)(r:Ro->Option (List KD)):Option (List KD×Ro):=match a with
 |some (kd,d,Z1)=>(match r Z1 with|some kds=>PB ((kd,d)::kds,Z1)|none=>PC)
 |none=>PC
theorem tH{g g1:Gh}(a:Evo g H g1 H1 F1)(j:SE K (g1.plus F1) Z1 Y H1)(l:VR1 K H1 g1 F1 kd d v F1)(s:Same H1 H2)(p:VRs K (g1.plus F1) H1 H2 kds vs) :
  ∃F,Evo g H g1 H2 F/\SE K (g1.plus F) Z1 Y H2/\VRL K H2 g1 F ((kd,d)::kds) (v::vs) F:=by
 obtain⟨f,b1,b2⟩:=p
 let k:∀c,f c->g1 c=PC/\¬F1 c:=λc z=>by
  have:=eL j.mu (b1 c z);by_cases h:F1 c
  ·rw[aS h] at this;cases this
  ·rw[bT h] at this;show⟨this,h⟩
 let t:∀c,H1 c=PC->H c=PC:=λc q=>by
  cases e:H c with
  |none=>rfl
  |some o=>obtain⟨b,i⟩:=a.dom c o e;rw[q] at i;cases i
 show⟨λc=>F1 c\/f c,⟨λc o n e=>s c o (a.keep c o n e),a.out,a.new,λc z=>z.elim (a.tmp c) λz=>⟨(k c z).1,.inr (t c (b1 c z))⟩,λc o e=>let ⟨b,q⟩:=a.dom c o e;⟨b,s c b q⟩⟩,?_,v,vs,F1,f,rfl,λc=>Iff.rfl,λc m r=>(k c r).2 m,?_,b2.unplus⟩
 ·rw[<- i8];show j.plus s b1 b2.dom
 ·show l.go s λc o e z=>z.elim id λz=>by rw[b1 c z] at e;cases e
theorem Es{f:Ro->MR}(u:ah e=PD)(A:bA X f e)(n:kF X fr es):pt X (λZ=>ii (f Z) fr) (e::es):=by
 intro Z l j h g Y H Q o q;dsimp only[ii] at h;split at h
 ·ext x d B e1;split at h
  ·ext b e2;cases h;show kB (bw aw cX (aj u)) (A Z x d j e1 g Y H _ o λv i z s c a k=>n j b e2 (i.plus s) Y z _ a λp y s2 m=>?_);obtain⟨F,t,w,r⟩:=tH c a k s2 m;show q (v::p) i y F t w r
  ·cases h
 ·cases h
open Classical in
noncomputable def lN(H:Hp)(F:Pr):Hp:=λb=>if F b then PC else H b
theorem kU:Same (lN H F) H:=λb o e=>by
 unfold lN at e;split at e
 ·cases e
 ·show e
theorem rz{g:Gh}{F:Pr}(f:SE K (g.plus F) Z Y H)(c:∀b,F b->g b=PC):MuOk (lN H F) (Sg g):=λb z=>by
 let d:¬F b:=λa=>z (c b a);obtain⟨o,e,n⟩:=f.mu b ((al b).mpr (.inl z));show⟨o,by unfold lN;rw[if_neg d];show e,n⟩
theorem xP{g g1:Gh}{H H1 H2:Hp}{F F2:Pr}(a:Evo g H g1 H1 F)(f:SE K (g1.plus F) Z1 Y H1)(s:Same H1 H2)(h1:∀b,F2 b->lN H1 F b=PC)(t:∀b,F2 b->∃o,H2 b=PB o/\∀xs,o≠.tup xs):Evo g H g1 H2 F2/\SE K (g1.plus F2) Z1 Y H2:=by
 let j:∀b,F2 b->F b\/H1 b=PC:=λb z=>by
  have:=h1 b z;unfold lN at this;split at this
  ·ext q;show .inl q
  ·show .inr this
 let m:∀c,H1 c=PC->H c=PC:=λc q=>by
  cases e:H c with
  |none=>rfl
  |some o=>obtain⟨k,l⟩:=a.dom c o e;rw[q] at l;cases l
 let d:∀b,F2 b->g1 b=PC:=λb z=>by
  rcases j b z with q|q
  ·show(a.tmp b q).1
  ·have:=eL f.mu q;by_cases h:F b
   ·rw[aS h] at this;cases this
   ·rw[bT h] at this;show this
 show⟨⟨λc o n e=>s c o (a.keep c o n e),a.out,a.new,λc z=>⟨d c z,(j c z).elim (λq=>(a.tmp c q).2) λq=>.inr (m c q)⟩,λc o e=>let ⟨k,q⟩:=a.dom c o e;⟨k,s c k q⟩⟩,?_⟩;show⟨λi u e=>?_,λb z=>?_,f.len⟩
 ·obtain⟨v,r,e1,e2,e3⟩:=f.slot i u e;show⟨v,r,e1,λb z=>?_,e3.go (λb o _ e=>s b o e) λb o e n z=>?_⟩
  ·have:=bL (e2 b z);show ci this λp=>by rw[d b p] at this;cases this
  ·rcases(al b).mp z with z|z
   ·show n ((al b).mpr (.inl z))
   ·rcases j b z with q|q
    ·show n ((al b).mpr (.inr q))
    ·rw[q] at e;cases e
 ·rcases(al b).mp z with z|z
  ·obtain⟨o,e,n⟩:=f.mu b ((al b).mpr (.inl z));show⟨o,s b o e,n⟩
  ·show t b z
theorem VRL.off(h:VRL K H g F kds vs F):VRs K g (lN H F) H kds vs:=⟨F,λb z=>by unfold lN;rw[if_pos z],h⟩
theorem StrictOk.m{f:List KD->Option KD}{j:Ro->Option (List KD×Ro)}(h:StrictOk X f es node)(x:pt X j es):bA X (λZ=>(j Z).bind λp=>(f p.1).map λq=>(q.1,q.2,p.2)) node:=by
 intro Z B d D a g Y H Q t q;dsimp only at a
 cases e:j Z with
 |none=>rw[e] at a;cases a
 |some p=>
  obtain⟨c,E⟩:=p;rw[e] at a;dsimp only[Nl] at a
  cases e2:f c with
  |none=>rw[e2] at a;cases a
  |some r=>
   rw[e2] at a;cases a;show h c r.1 r.2 e2 Y H Q (x Z c _ e g Y H _ t λC k A F l i y=>⟨k,lN A F,rz i λb z=>(l.tmp b z).1,kU,y.off,λv s s2 n=>?_⟩);obtain⟨u,b1,b2⟩:=n;obtain⟨o,w⟩:=xP l i s2 b1 b2.dom;show q v k s u o w b2
end
abbrev kW:=Ow×D
abbrev Fm:=List kW->Option (Kd×D×List (Option kW))
noncomputable def Et(p:kW):Option Sl:=PB ⟨PF,p.1,p.2⟩
noncomputable def Cb(p:Option kW):Option Sl:=p.map λp=>⟨PF,p.1,p.2⟩
def vD(K:Mu)(B:Fm):Sp:=λvs H Q _=>∃ks g q d outs,SE K g (ks.map Et) (vs.map PB) H/\B ks=PB (q,d,outs)/\
 ∀v g' H' F,Evo g H g' H' F->SE K (g'.plus F) (outs.map Cb) (vs.map PB) H'->VR1 K H' g' F q d v F->Q v H'
set_option genInjectivity true in
inductive RA where
 |ref (i:Nat)|val (kd:Kd) (d:D)
def VRA(K:Mu)(H:Hp)(g:Gh)(Ft:Pr)(Y:L2.St):List RA->List V->Pr->Prop
 |[],vs,F=>vs=[]/\∀b,¬F b
 |.ref i::r,vs,F=>∃y ys,vs=y::ys/\Y[i]?=PB (PB y)/\VRA K H g Ft Y r ys F
 |.val kd d::r,vs,F=>∃y ys F1 F2,vs=y::ys/\(∀b,F b↔F1 b\/F2 b)/\(∀b,F1 b->¬F2 b)/\VR1 K H g Ft kd d y F1/\VRA K H g Ft Y r ys F2
def gz(X:Cx)(f:Ro->Option (List RA×Ro))(es:List PK):Prop:=∀Z ras Z',f Z=PB (ras,Z')->∀g Y H Q,SE X.K g Z Y H->
 (∀vs g' H' F,Evo g H g' H' F->SE X.K (g'.plus F) Z' Y H'->VRA X.K H' g' F Y ras vs F->Q vs H')->wA X es Y H Q
section
variable {K:Mu} {H H1 H2:Hp} {g g1 g2:Gh} {F1 F2:Pr} {Y:L2.St}
theorem VRA.evoR(b:Evo (g1.plus F1) H1 g2 H2 F2):∀{ras:List RA} {vs:List V} {F:Pr},VRA K H2 g2 F2 Y ras vs F->VRA K H2 (g2.minus F1) (λc=>F1 c\/F2 c) Y ras vs F
 |[],_,_,h=>h
 |.ref i::r,_,_,h=>by
  obtain⟨y,f,e,e2,a⟩:=h;show⟨y,f,e,e2,VRA.evoR b a⟩
 |.val kd d::r,_,_,h=>by
  obtain⟨y,f,m,k,e,g,j,l,a⟩:=h;show⟨y,f,m,k,e,g,j,l.evoR b,VRA.evoR b a⟩
theorem aV{g:Gh}{F:Pr}(h:∀b,¬F b):g.plus F=g:=by
 funext b;show bT (h b)
end
section
variable {X:Cx}
theorem Cc:gz X (λZ=>PB ([],Z)) []:=by
 intro Z a c h g Y H Q b q;cases h;show kB dQ (q [] g H (λ_=>False) (.refl g H) ?_ ⟨rfl,λ_ z=>z⟩);rw[aV λ_ z=>z];show b
noncomputable def pv(i:Nat)(o:Option (Option Sl))(r:Option (List RA×Ro)):Option (List RA×Ro):=match o,r with
 |some (PB _),PB (ras,Z')=>PB (.ref i::ras,Z')
 |_,_=>PC
theorem HL(O:ao X U c){i:Nat}{fr:Ro->Option (List RA×Ro)}(a:f7 c x=PB i)(s:gz X fr es):gz X (λZ=>pv i Z[i]? (fr Z)) (.Name x p::es):=by
 intro Z t v h g Y H Q l q;dsimp only[pv] at h;split at h
 ·ext y d z e1 e2;cases h;let b:SndE X (λZ=>eI i Z[i]?) (.Name x p):=hJ O a p;obtain⟨f,e,_⟩:=l.get e1
  -- the name gives that very value
  show kB (bw aw cX (aj rfl)) ?_;unfold f7 at a;split at a
  ·ext j w;split at a
   ·ext b;cases a;simp only[Mw,nu,NF] at b;show am (qp (by rw[O.N];show aT w) (by rw[O.sc];show nr b.1) b.2.1 b.2.2) ⟨f,e,?_⟩;show s Z d v e2 g Y H _ l λm n o F u k r=>q (f::m) n o F u k ⟨f,m,rfl,e,r⟩
   ·cases a
  ·cases a
 ·cases h
def xQ(a:MR)(r:Ro->Option (List RA×Ro)):Option (List RA×Ro):=match a with
 |some (kd,d,Z1)=>if bE (dJ kd d)=PD then PC else(match r Z1 with|some (ras,Z2)=>PB (.val (dJ kd d) d::ras,Z2)|none=>PC)
 |none=>PC
theorem xR{l:Ro->MR}(x:ah e=PD)(B:bA X l e)(t:gz X fr es):gz X (λZ=>xQ (l Z) fr) (e::es):=by
 intro Z u z h g Y H Q D q;dsimp only[xQ] at h;split at h
 ·ext E d m e1;split at h
  ·cases h
  ·ext o;split at h
   ·ext f K e2;cases h;show kB (bw aw cX (aj x)) (B Z E d m e1 g Y H _ D λv w F n i b C=>t m f z e2 (w.plus n) Y F _ b λk I A r a j s=>?_);show q (v::k) _ A _ (i.trans a) (by rw[ig a];show j) ⟨v,k,n,r,rfl,λc=>Iff.rfl,λc p y=>?_,(C.im b.mu).evo (by simpa using o) a,s.evoR a⟩;have:=(a.out c).mp (aS p);rw[(a.tmp c y).1] at this;cases this
   ·cases h
 ·cases h
end
noncomputable def cJ:List RA->List Nat
 |[]=>[]
 |.ref i::r=>i::cJ r
 |.val _ _::r=>cJ r
def eM(Z:Ro):List RA->Option (List kW)
 |[]=>PB []
 |.ref i::r=>match Z[i]?,eM Z r with
  |some (PB ⟨PF,k,d⟩),PB ks=>PB ((k,d)::ks)
  |_,_=>PC
 |.val kd d::r=>if bE kd=PD then PC else(eM Z r).map ((.fz,d)::·)
noncomputable def cQ:List RA->Ro->Ro->Ro
 |.ref i::r,o::os,Z=>cQ r os (Z.set i o)
 |.val _ _::r,_::os,Z=>cQ r os Z
 |_,_,Z=>Z
noncomputable def nH(ras:List RA)(i:Nat):Option Nat:=ras.findIdx? λa=>match a with|.ref j=>j==i|_=>PF
def AV(B:Option Fm)(a:Option (List RA×Ro)):MR:=match B,a with
 |some B,PB (ras,Z)=>if(cJ ras).Nodup then(match eM Z ras with
  |some ks=>(match B ks with
   |some (kd,d,outs)=>if bE kd=PD\/outs.length≠ras.length then PC else PB (kd,d,cQ ras (outs.map Cb) Z)
   |none=>PC)
  |none=>PC) else PC
 |_,_=>PC
section
theorem gG{Z:Ro}:∀{ras:List RA} {ks:List kW},eM Z ras=PB ks->ks.length=ras.length/\∀(j:Nat) a,ras[j]?=PB a->∃k d,ks[j]?=PB (k,d)/\(match a with|.ref i=>Z[i]?=PB (PB ⟨PF,k,d⟩)|.val kd d'=>k=.fz/\d=d'/\bE kd=PF)
 |[],ks,h=>by cases h;show⟨rfl,λj a e=>by simp at e⟩
 |.ref i::r,ks,h=>by
  unfold eM at h;split at h
  ·ext k d b e1 e2;cases h;obtain⟨l,g⟩:=gG e2;show⟨by simp[l],λj a e=>?_⟩
   cases j with
   |zero=>simp at e;subst e;show⟨k,d,rfl,e1⟩
   |succ j=>simpa using g j a (by simpa using e)
  ·cases h
 |.val kd d::r,ks,h=>by
  unfold eM at h;split at h
  ·cases h
  ·ext c;obtain⟨b,e,rfl⟩:=bz h;obtain⟨l,g⟩:=gG e;show⟨by simp[l],λj a e=>?_⟩
   cases j with
   |zero=>simp at e;subst e;show⟨.fz,d,rfl,rfl,rfl,by simpa using c⟩
   |succ j=>simpa using g j a (by simpa using e)
theorem ij:∀{ras:List RA} {i j:Nat},nH ras i=PB j->ras[j]?=PB (.ref i)
 |[],i,j,h=>by simp[nH] at h
 |a::r,i,j,h=>by
  unfold nH at h;rw[Ng] at h
  cases a with
  |ref k=>
   by_cases e:k=i
   ·subst e;simp at h;subst h;rfl
   ·let f:(k==i)=PF:=by simpa using e
    simp only[f] at h;obtain⟨c,b,rfl⟩:=bz (by simpa using h);simpa using ij (by unfold nH;show b)
  |val g d=>
   simp only at h;obtain⟨c,b,rfl⟩:=bz (by simpa using h);simpa using ij (by unfold nH;show b)
theorem fq:∀{ras:List RA} {j i:Nat},ras[j]?=PB (.ref i)->i∈cJ ras
 |[],_,_,h=>by simp at h
 |a::r,0,i,h=>by simp at h;subst h;show MX
 |.ref k::r,j+1,i,h=>MK _ (fq (by simpa using h))
 |.val kd d::r,j+1,i,h=>fq (ras:=r) (by simpa using h)
theorem rA:∀{ras:List RA} {j i:Nat},(cJ ras).Nodup->ras[j]?=PB (.ref i)->nH ras i=PB j
 |[],_,_,_,h=>by simp at h
 |.ref k::r,0,i,_,h=>by simp at h;subst h;simp[nH,Ng]
 |.val kd d::r,0,i,_,h=>by simp at h
 |.ref k::r,j+1,i,hn,h=>by
  let c:=fq (by simpa using h);let a:k∉cJ r/\(cJ r).Nodup:=MW.mp hn
  let e:(k==i)=PF:=by
   simp only[beq_eq_false_iff_ne,ne_eq];intro z;subst z;show a.1 c
  let b:=rA a.2 (by simpa using h:r[j]?=PB (.ref i));unfold nH at b⊢;rw[Ng];simp only[e,b];rfl
 |.val kd d::r,j+1,i,hn,h=>by
  let b:=rA (ras:=r) hn (by simpa using h:r[j]?=PB (.ref i));unfold nH at b⊢;rw[Ng];simp only[b];rfl
theorem jd:∀{ras:List RA} {outs:Ro} {Z:Ro},(cQ ras outs Z).length=Z.length
 |[],_,_=>rfl
 |.ref i::r,[],_=>rfl
 |.val _ _::r,[],_=>rfl
 |.ref i::r,o::os,Z=>by simp only[cQ];rw[jd];simp
 |.val _ _::r,o::os,Z=>by simp only[cQ];show jd
theorem je:∀{ras:List RA} {outs:Ro} {Z:Ro},(cJ ras).Nodup->outs.length=ras.length->∀(i:Nat) b,(cQ ras outs Z)[i]?=PB (PB b)->(i∉cJ ras/\Z[i]?=PB (PB b))\/∃(j:Nat),ras[j]?=PB (RA.ref i)/\outs[j]?=PB (PB b)
 |[],outs,Z,_,_,i,b,h=>by cases outs<;>show .inl ⟨by simp[cJ],h⟩
 |.ref k::r,[],Z,_,hl,i,b,h=>by simp at hl
 |.val kd d::r,[],Z,_,hl,i,b,h=>by simp at hl
 |.val kd d::r,o::os,Z,hn,hl,i,b,h=>by
  simp only[cQ] at h;rcases je (ras:=r) hn (by simpa using hl) i b h with⟨c,a⟩|⟨j,c,a⟩
  ·show .inl ⟨c,a⟩
  ·show .inr ⟨j+1,by simpa using c,by simpa using a⟩
 |.ref k::r,o::os,Z,hn,hl,i,b,h=>by
  simp only[cQ] at h;let f:k∉cJ r/\(cJ r).Nodup:=MW.mp hn;rcases je f.2 (by simpa using hl) i b h with⟨c,a⟩|⟨j,c,a⟩
  ·by_cases e:i=k
   ·subst e
    let g:i<Z.length:=by
     have:=(Mv.mp a).1;simpa using this
    rw[M9 g] at a;show .inr ⟨0,rfl,a⟩
   ·rw[M6 (Ne.symm e)] at a;show .inl ⟨by simp only[cJ,MD,not_or];show⟨e,c⟩,a⟩
  ·show .inr ⟨j+1,by simpa using c,by simpa using a⟩
end
section
variable {K:Mu} {H H1 H2:Hp} {g g1:Gh} {F:Pr} {Y:L2.St} {Z:Ro}
theorem VRA.get:∀{ras:List RA} {vs:List V} {F:Pr},VRA K H g Ft Y ras vs F->vs.length=ras.length/\∀(j:Nat) a,ras[j]?=PB a->∃y,vs[j]?=PB y/\(match a with|.ref i=>Y[i]?=PB (PB y)|.val kd d=>∃f:Pr,(∀b,f b->F b)/\VR1 K H g Ft kd d y f)
 |[],vs,F,h=>by obtain⟨rfl,_⟩:=h;show⟨rfl,λj a e=>by simp at e⟩
 |.ref i::r,vs,F,h=>by
  obtain⟨y,s,rfl,e,k⟩:=h;obtain⟨l,q⟩:=VRA.get k;show⟨by simp[l],λj a c=>?_⟩
  cases j with
  |zero=>simp at c;subst c;show⟨y,rfl,e⟩
  |succ j=>simpa using q j a (by simpa using c)
 |.val kd d::r,vs,F,h=>by
  obtain⟨y,s,p,u,rfl,m,v,t,k⟩:=h;obtain⟨l,q⟩:=VRA.get k;show⟨by simp[l],λj a c=>?_⟩
  cases j with
  |zero=>simp at c;subst c;show⟨y,rfl,p,λb z=>(m b).mpr (.inl z),t⟩
  |succ j=>
   obtain⟨o,e1,e2⟩:=q j a (by simpa using c);show⟨o,by simpa using e1,?_⟩
   cases a with
   |ref i=>show e2
   |val kd d=>obtain⟨f,n,f2⟩:=e2;show⟨f,λb z=>(m b).mpr (.inr (n b z)),f2⟩
theorem HM{ks:List kW}{vs:List V}(A:(cJ ras).Nodup)(I:eM Z ras=PB ks)(H:∀b,F b->g1 b=PC)(t:SE K (g1.plus F) Z Y H1)(r:VRA K H1 g1 F Y ras vs F):SE K (g1.re (nH ras)) (ks.map Et) (vs.map PB) H1:=by
 obtain⟨u,D⟩:=gG I;obtain⟨L,C⟩:=r.get;let gS:∀b,Sg (g1.re (nH ras)) b->Sg (g1.plus F) b:=λb z=>(al b).mpr (.inl ((jN b).mp z));show⟨λj P e=>?_,λb z=>t.mu b (gS b z),by simp[u,L]⟩;rw[MA] at e
 cases q:ks[j]? with
 |none=>rw[q] at e;cases e
 |some p=>
  rw[q] at e;cases e;let N:j<ras.length:=by rw[<- u];show(Mv.mp q).1
  let l:ras[j]?=PB ras[j]:=MF N;obtain⟨k,d,h,m⟩:=D j _ l;rw[q] at h;cases h;obtain⟨y,w,f⟩:=C j _ l;generalize ras[j]=a at l m f
  cases a with
  |ref i=>
   let m:Z[i]?=PB (PB ⟨PF,k,d⟩):=m;let f:Y[i]?=PB (PB y):=f;obtain⟨v,B,e1,e2,e3⟩:=t.slot i _ m;rw[f] at e1;cases e1;show⟨y,B,by simp[w],λb z=>?_,e3.go (λ_ _ _ e=>e) λb o _ n z=>n (gS b z)⟩;unfold Gh.re;rw[bL (e2 b z)];change PB (nH ras i)=_;rw[rA A l]
  |val g O=>
   obtain⟨rfl,rfl,E⟩:k=.fz/\d=O/\bE g=PF:=m;obtain⟨Q,x,f2⟩:=f;show⟨y,λ_=>False,by simp[w],λb z=>z.elim,.fz ?_⟩;let s:∀b,Sg (g1.re (nH ras)) b->g1 b≠PC:=λb z=>(jN b).mp z
   cases g with
   |sh=>show f2.2.weak λb z=>.inl (s b z)
   |fr c=>show Tr.rp (λb z=>⟨.inl (s b z),λM=>s b z (H b (x b M))⟩) f2
   |bo i c=>cases E
noncomputable def dr(g1 q:Gh)(ras:List RA):Gh:=λb=>match q b with
 |some (PB j)=>(match ras[j]? with|some (.ref i)=>PB (PB i)|_=>PC)
 |some PC=>g1 b
 |none=>PC
theorem AW{a:Gh}{ras:List RA}{j i:Nat}(h:a b=PB (PB j))(e:ras[j]?=PB (.ref i)):dr g1 a ras b=PB (PB i):=by
 unfold dr;rw[h];dsimp only;rw[e]
theorem pw{a:Gh}(h:a b=PB PC):dr g1 a ras b=g1 b:=by unfold dr;rw[h]
theorem nI{a:Gh}(h:a b=PC):dr g1 a ras b=PC:=by unfold dr;rw[h]
theorem kX{a:Gh}{ras:List RA}(h:dr g1 a ras b=PB x):(∃j i,a b=PB (PB j)/\ras[j]?=PB (.ref i)/\x=PB i)\/(a b=PB PC/\g1 b=PB x):=by
 unfold dr at h;split at h
 ·ext j e;split at h
  ·ext i e2;cases h;show .inl ⟨j,i,e,e2,rfl⟩
  ·cases h
 ·ext e;show .inr ⟨e,h⟩
 ·cases h
theorem tI{m:Nat->Option Nat}(h:g.re m b=PB (PB j)):∃i,g b=PB (PB i)/\m i=PB j:=by
 unfold Gh.re at h
 cases q:g b with
 |none=>simp[q] at h
 |some x=>
  cases x with
  |none=>simp[q] at h
  |some i=>simp[q] at h;show⟨i,rfl,h⟩
theorem HN(h:g b=PC):g.re m b=PC:=by unfold Gh.re;rw[h]
theorem Kr(h:g b=PB PC):g.re m b=PB PC:=by unfold Gh.re;rw[h]
theorem Ks{m:Nat->Option Nat}(h:g b=PB (PB i)):g.re m b=PB (m i):=by unfold Gh.re;rw[h]
theorem mw{ras:List RA}{l:Gh}{E:Ro}{V:L2.St}(hn:(cJ ras).Nodup)(O:E.length=ras.length)(N:bE kd=PF)(a:Evo g H g1 H1 F)(X:SE K (g1.plus F) Z Y H1)(hY:∀(j i:Nat) u w,ras[j]?=PB (.ref i)->E[j]?=PB (PB u)->V[j]?=PB (PB w)->Y[i]?=PB (PB w))(m:Evo (g1.re (nH ras)) H1 l H2 Fr)(r:SE K (l.plus Fr) E V H2)(L:VR1 K H2 l Fr kd d v Fr) :
  Evo g H (dr g1 l ras) H2 Fr/\SE K ((dr g1 l ras).plus Fr) (cQ ras E Z) Y H2/\VR1 K H2 (dr g1 l ras) Fr kd d v Fr:=by
 let D:∀c,H1 c=PC->H c=PC:=λc q=>by
  cases e:H c with
  |none=>rfl
  |some o=>obtain⟨o',R⟩:=a.dom c o e;rw[q] at R;cases R
 -- frozen ones stay so
 let A:∀b o,H1 b=PB o->g1 b=PC->dr g1 l ras b=PC/\¬Fr b:=λb o e n=>by
  obtain⟨I,f2⟩:=m.froz e (HN n);show⟨nI I,f2⟩
 let h:∀b i,g1 b=PB (PB i)->(∃j,g b=PB (PB j))\/H b=PC:=λb i e=>a.new b i e
 let s:∀b j,l b=PB (PB j)->(∃k,g b=PB (PB k))\/H b=PC:=λb j e=>by
  rcases m.new b j e with⟨k,q⟩|q
  ·obtain⟨i,f,_⟩:=tI q;show h b i f
  ·show .inr (D b q)
 let P:Evo g H (dr g1 l ras) H2 Fr:=by
  show⟨λb o n e=>?_,λb=>⟨λe=>?_,λe=>?_⟩,λb i e=>?_,λb z=>?_,λb o e=>?_⟩
  ·show m.keep b o (λj q=>?_) (a.keep b o n e);obtain⟨i,f,_⟩:=tI q;rcases a.new b i f with⟨k,p⟩|p
   ·show n k p
   ·rw[e] at p;cases p
  ·let e1:=(a.out b).mp e;let e2:=(m.out b).mp (Kr e1);rw[pw e2];show e1
  ·rcases kX e with⟨j,i,_,_,z⟩|⟨_,e1⟩
   ·cases z
   ·show(a.out b).mpr e1
  ·rcases kX e with⟨j,i',e1,_,_⟩|⟨_,e1⟩
   ·show s b j e1
   ·show h b i e1
  ·obtain⟨t1,t2⟩:=m.tmp b z;show⟨nI t1,?_⟩;rcases t2 with⟨j,q⟩|q
   ·obtain⟨i,f,_⟩:=tI q;show h b i f
   ·show .inr (D b q)
  ·obtain⟨o1,e1⟩:=a.dom b o e;show m.dom b o1 e1
 let t:∀b,Sg (dr g1 l ras) b->Sg l b:=λb z B=>z (nI B);show⟨P,⟨λi u e=>?_,λb z=>?_,by rw[jd];show X.len⟩,?_⟩
 ·rcases je hn O i u e with⟨T,e1⟩|⟨j,W,Q⟩
  ·-- a slot that was not eM in
   obtain⟨w,U,e2,e3,e4⟩:=X.slot i u e1
   let C:∀b,U b->g1 b=PB (PB i)/\l b=PB PC:=λb z=>by
    let f:=bL (e3 b z);show⟨f,(m.out b).mp ?_⟩;rw[Ks f]
    cases p:nH ras i with
    |none=>rfl
    |some j=>show absurd (fq (ij p)) T
   show⟨w,U,e2,λb z=>?_,e4.go (λb o y e=>m.keep b o (λj q=>?_) e) λb o e n z=>?_⟩
   ·obtain⟨l1,M⟩:=C b z;show ci (by rw[pw M];show l1) λB=>?_;rw[(m.tmp b B).1] at M;cases M
   ·obtain⟨k,f,p⟩:=tI q;rcases y with y|y
    ·show y ((al b).mpr (.inl (by rw[Sg,f];simp)))
    ·rw[(C b y).1] at f;cases f;show absurd (fq (ij p)) T
   ·let nF:g1 b=PC:=by
     cases f:g1 b with
     |none=>rfl
     |some x=>show absurd ((al b).mpr (.inl (by rw[Sg,f];simp))) n
    obtain⟨I,f2⟩:=A b o e nF;rcases(al b).mp z with z|z
    ·show z I
    ·show f2 z
  ·-- one that was
   obtain⟨w,Fj,e2,e3,e4⟩:=r.slot j u Q;show⟨w,Fj,hY j i u w W Q e2,λb z=>?_,e4.go (λ_ _ _ e=>e) λb o e n z=>?_⟩
   ·let f:=bL (e3 b z);show ci (AW f W) λB=>?_;rw[(m.tmp b B).1] at f;cases f
   ·rcases(al b).mp z with z|z
    ·show n ((al b).mpr (.inl (t b z)))
    ·show n ((al b).mpr (.inr z))
 ·rcases(al b).mp z with z|z
  ·show r.mu b ((al b).mpr (.inl (t b z)))
  ·show r.mu b ((al b).mpr (.inr z))
 ·let S:∀b o,H2 b=PB o->¬Sx l Fr b->¬Sx (dr g1 l ras) Fr b:=λb o _ n z=>n (z.imp (t b) id)
  cases kd with
  |sh=>show⟨L.1,L.2.go λb o n e=>⟨e,S b o e n⟩⟩
  |fr k=>show Tr.go (λ_ _ _ e=>e) S L
  |bo i k=>cases N
theorem tJ{Q:VK}(h:AV (PB B) (PB (ras,Z))=PB (kd,d,Z2))(a:Evo g H g1 H1 F)(n:SE K (g1.plus F) Z Y H1)(r:VRA K H1 g1 F Y ras vs F)(q:∀v g' H' F',Evo g H g' H' F'->SE K (g'.plus F') Z2 Y H'->VR1 K H' g' F' kd d v F'->Q v H'):vD K B vs H1 Q E:=by
 unfold AV at h;dsimp only at h;split at h
 ·ext l;split at h
  ·ext D t;split at h
   ·ext x T outs u;split at h
    ·cases h
    ·ext o;cases h
     let f:bE kd=PF:=by
      cases e:bE kd with
      |false=>rfl
      |true=>show absurd (.inl e) o
     let k:outs.length=ras.length:=Classical.byContradiction λz=>o (.inr z);show⟨D,g1.re (nH ras),kd,d,outs,HM l t (λb z=>(a.tmp b z).1) n r,u,λv S M P R c s=>?_⟩;obtain⟨_,O⟩:=r.get
     obtain⟨C,I,A⟩:=mw l (by rw[My];show k) f a n (λj i U w N _ p=>by
      obtain⟨y,L,m⟩:=O j _ N;let m:Y[i]?=PB (PB y):=m;rw[MA,L] at p;cases p;show m) R c s
     show q v _ M P C I A
   ·cases h
  ·cases h
 ·cases h
end
noncomputable def clr(ps:List (Nat×D))(Z:Ro):Ro:=ps.foldl (λZ p=>Z.set p.1 PC) Z
noncomputable def xS(cap:List (Option Nat))(ps:List (Nat×D)):Bool:=ps.all λp=>match cap[p.1]? with|some PC=>PD|_=>PF
def ik(cap:List (Option Nat))(tg:IT)(ft:Ro->Option (Bool×Ro))(B:Ro->MR)(d:D)(q:Ro):Option (Option KD×Ro):=match pc tg d with
 |some ps=>if bX ps q=PD/\xS cap ps=PD then(match ft (setAll ps q) with
  |some (PD,Zt)=>(match B Zt with|some (kd,d,Z1)=>PB (PB (dJ kd d,d),clr ps Z1)|none=>PC)
  |some (PF,Zt)=>PB (PC,clr ps Zt)
  |none=>PC) else PC
 |none=>PC
def aH(r:Ow)(f:D->Ro->Option (Option KD×Ro)):List D->Ro->Option (List D×Ro)
 |[],Z=>PB ([],Z)
 |d::ds,Z=>match f d Z with
  |some (PB kd,Z1)=>if bM r kd=PD then(match aH r f ds Z1 with|some (ys,Z2)=>PB (kd.2::ys,Z2)|none=>PC) else PC
  |some (PC,Z1)=>aH r f ds Z1
  |none=>PC
theorem gH:∀{a b:List D} {Z Z':Ro} {ys:List D},aH r f (a++b) Z=PB (ys,Z')->∃x c y,aH r f a Z=PB (x,c)/\aH r f b c=PB (y,Z')/\ys=x++y
 |[],b,Z,Z',ys,h=>⟨[],Z,ys,rfl,h,rfl⟩
 |d::a,b,Z,Z',ys,h=>by
  rw[NJ] at h;unfold aH at h;split at h
  ·ext j c e1;split at h
   ·ext k;split at h
    ·ext l m e2;cases h;obtain⟨x,g,y,i,e,rfl⟩:=gH e2;show⟨j.2::x,g,y,by simp[aH,e1,i,k],e,rfl⟩
    ·cases h
   ·cases h
  ·ext c e1;obtain⟨x,g,y,i,e,rfl⟩:=gH h;show⟨x,g,y,by simp[aH,e1,i],e,rfl⟩
  ·cases h
theorem cK:∀{a:List D} {d:D} {x y:List D} {Z b c:Ro},aH r f a Z=PB (x,b)->aH r f [d] b=PB (y,c)->aH r f (a++[d]) Z=PB (x++y,c)
 |[],d,x,y,Z,b,c,h,h1=>by cases h;show h1
 |e::a,d,x,y,Z,b,c,h,h1=>by
  unfold aH at h;rw[NJ];unfold aH;split at h
  ·ext j g e1;split at h
   ·ext i;split at h
    ·ext k l e2;cases h;rw[cK e2 h1];simp[i]
    ·cases h
   ·cases h
  ·ext g e1;show cK h h1
  ·cases h
theorem px{f:D->Ro->Option (Option KD×Ro)}{ds ys:List D}(h:aH r f ds Z=PB (ys,Z')){i:Nat}(e:ds[i]?=PB d){x:List D}(g:aH r f (ds.take i) Z=PB (x,Zi)) :
  (∃a,f d Zi=PB (PC,a)/\aH r f (ds.take (i+1)) Z=PB (x,a))\/∃c a,f d Zi=PB (PB c,a)/\bM r c=PD/\aH r f (ds.take (i+1)) Z=PB (x++[c.2],a):=by
 let m:ds=ds.take i++(d::ds.drop (i+1)):=by
  obtain⟨n,rfl⟩:=Mv.mp e;rw[<- Ni n,O7]
 let o:ds.take (i+1)=ds.take i++[d]:=by rw[Oj,e];rfl
 rw[m] at h;obtain⟨p,a,y,l,b,_⟩:=gH h;rw[g] at l;cases l;unfold aH at b;rw[o];split at b
 ·ext c j e1;split at b
  ·ext k;show .inr ⟨c,j,e1,k,cK g (by simp[aH,e1,k])⟩
  ·cases b
 ·ext j e1;show .inl ⟨j,e1,by simpa using cK g (y:=[]) (by simp[aH,e1])⟩
 ·cases b
theorem gI:∀{ds ys:List D} {Z Z':Ro},aH r f ds Z=PB (ys,Z')->ys.length<=ds.length
 |[],ys,Z,Z',h=>by cases h;show Mz _
 |d::ds,ys,Z,Z',h=>by
  unfold aH at h;split at h
  ·ext b a e1;split at h
   ·split at h
    ·ext c e e2;cases h;have:=gI e2;simp;lia
    ·cases h
   ·cases h
  ·ext a e1;have:=gI h;simp;lia
  ·cases h
abbrev IR:=Option (List Nat×List D×Ro)
def mx(X:Cx)(f:Ro->IR)(tg iter:PK):Prop:=∀Z bs ds q,f Z=PB (bs,ds,q)->∀g Y H R,SE X.K g Z Y H->
 (∀J s g1 H1,Evo g H g1 H1 (λ_=>False)->SE X.K g1 q Y H1->i6 X.K J s ds->s.P X.K g1 H1->s.from g1 H1 bs->R J H1)->wI X tg iter Y H R
noncomputable def Ku(a:Option (List Nat×List D))(Z:Ro):IR:=match a with|some (bs,ds)=>PB (bs,ds,Z)|none=>PC
theorem SndI.m{f:Ro->Option (List Nat×List D)}(h:SndI X f tg iter):mx X (λZ=>Ku (f Z) Z) tg iter:=by
 intro Z k j o a g Y H R b q;dsimp only[Ku] at a;split at a
 ·ext d c e;cases a;show h Z k j e g Y H R b λJ s n s1 i sp l=>q J s g n (cI s1 (λ_ z=>z.elim) λ_ z=>z.elim) (b.same s1) i sp l.from_H
 ·cases a
noncomputable def jf(cap:List (Option Nat)):List RA:=cap.map λo=>match o with|some i=>.ref i|none=>.val .sh .non
def jg(r:Ow)(it:IR)(f:D->Ro->Option (Option KD×Ro))(cap:List (Option Nat)):MR:=match it with
 |some (bs,ds,Z)=>if bs=[]/\ds.length<=100000 then(match aH r f ds (aQ Z cap) with|some (ys,Zc)=>if Zc.length=cap.length then PB (.fr (.own [] r),.lst ys,cQ (jf cap) Zc Z) else PC|none=>PC) else PC
 |none=>PC
theorem jh:∀cap:List (Option Nat),cJ (jf cap)=cap.filterMap id
 |[]=>rfl
 |none::r=>by
  have:=jh r;simp only[jf,MQ,cJ] at this⊢;simpa using this
 |some i::r=>by
  have:=jh r;simp only[jf,MQ,cJ] at this⊢;simpa using this
theorem AX(cap:List (Option Nat))(i:Nat):nH (jf cap) i=i9 cap i:=by
 unfold nH i9 jf;rw[N4];congr 1;funext o
 cases o with
 |none=>rfl
 |some k=>simp[Function.comp]
theorem SE.clr{H:Hp}:∀{ps:List (Nat×D)} {Z:Ro} {Y:L2.St},SE K g Z Y H->SE K g (clr ps Z) Y H
 |[],Z,Y,h=>h
 |p::ps,Z,Y,h=>by
  change SE K g (J.clr ps (Z.set p.1 PC)) Y H;show SE.clr ⟨λi c e=>?_,h.mu,by simp[h.len]⟩;by_cases b:i=p.1
  ·subst b
   let a:p.1<Z.length:=by
    have:=(Mv.mp e).1;simpa using this
   rw[M9 a] at e;cases e
  ·rw[M6 (Ne.symm b)] at e;show h.slot i c e
theorem jY:∀{ps:List (Nat×D)} {vs:List (Nat×V)} {Y:L2.St} {j:Nat},RpP K H S ps vs->(∀p∈ps,p.1≠j)->(hV vs Y)[j]?=Y[j]?
 |[],vs,Y,j,h,_=>by rw[(h)];rfl
 |(i,d)::ps,vs,Y,j,h,hn=>by
  obtain⟨v,b,rfl,_,a⟩:=h;change(hV b (Y.set i (PB v)))[j]?=_;rw[jY a λp c=>hn p (MK _ c),M6 (hn (i,d) MX)]
section
variable {X:Cx} {U:Tab} {c:Cz}
theorem Evo.drop{F F2:Pr}(a:Evo g H g' H' F)(h:∀b,F2 b->F b):Evo g H g' H' F2:=⟨a.keep,a.out,a.new,λb z=>a.tmp b (h b z),a.dom⟩
theorem SE.drop{g:Gh}{F F2:Pr}(c:SE K (g.plus F) Z Y H)(h:∀b,F2 b->F b)(d:∀b,F b->g b=PC):SE K (g.plus F2) Z Y H:=by
 let a:∀b,Sg (g.plus F2) b->Sg (g.plus F) b:=λb z=>(al b).mpr (((al b).mp z).imp id (h b));show⟨λi k e=>?_,λb z=>c.mu b (a b z),c.len⟩;obtain⟨v,j,e1,e2,e3⟩:=c.slot i k e;show⟨v,j,e1,λb z=>?_,e3.go (λ_ _ _ e=>e) λb o _ n z=>n (a b z)⟩;let q:=bL (e2 b z);show ci q λf=>by rw[d b (h b f)] at q;cases q
theorem Evo.upd{H H':Hp}(a:Evo g H g' H' F)(d:H p=PC):Evo g H g' (upd H' p o) F:=by
 show⟨λb c n e=>?_,a.out,a.new,a.tmp,λb c e=>?_⟩
 ·rw[ag (λz=>by rw[z,d] at e;cases e)];show a.keep b c n e
 ·obtain⟨f,e1⟩:=a.dom b c e;show⟨f,by rw[ag (λz=>by rw[z,d] at e;cases e)];show e1⟩
theorem xT(a:Evo g H g1 H1 (λ_=>False))(b:Evo g1 H1 g2 H2 F2):Evo g H g2 H2 F2:=by
 let t:=a.trans (by rw[aV λ_ z=>z];show b);let e1:g2.minus (λ_=>False)=g2:=by funext c;show bI λz=>z
 rw[e1] at t;show t.drop λc z=>.inr z
def nJ(X:Cx)(f:Ro->Option (Bool×Ro))(ifs:List PK):Prop:=∀Z b Z',f Z=PB (b,Z')->∀g Y H Q,SE X.K g Z Y H->(∀g' H',Evo g H g' H' (λ_=>False)->SE X.K g' Z' Y H'->Q b H')->Ed X ifs Y H Q
theorem Eu:nJ X (λZ=>PB (PD,Z)) []:=λZ b c h g Y H Q a q=>by cases h;show rj sM (q g H (.refl g H) a)
theorem tK{K:Mu}{g' h q:Gh}{H1 H2 k:Hp}{D:PL}{a:Pr}{us:List V}{t:List J.D}{r:Ow}(s:Evo g' H1 h H2 (λb=>b=D\/a b))(A:¬a D)(w:H2 D=PB (.lst us))(v:TrL K H2 (Sx h λb=>b=D\/a b) t [] r us a)(d:Evo (h.plus λb=>b=D\/a b) H2 q k (λ_=>False)) :
  ∃g,Evo g' H1 g k (λb=>b=D\/a b)/\(g.plus λb=>b=D\/a b)=q/\k D=PB (.lst us)/\TrL K k (Sx g λb=>b=D\/a b) t [] r us a:=by
 let p:(h.plus λb=>b=D\/a b) D=PB PC:=aS (.inl rfl);let l:=(s.trans d).drop λb z=>.inl z;show⟨q.minus (λb=>b=D\/a b),l,?_,d.keep D _ (λi f=>by rw[p] at f;cases f) w,?_⟩
 ·let e:=ig d;rw[aV λ_ z=>z] at e;let e2:(λc=>(c=D\/a c)\/False)=λb=>b=D\/a b:=by funext b;simp
  rw[e2] at e;show e
 ·show v.go (λb o j e=>?_) λb o e n z=>?_
  ·show d.keep b o (λi f=>?_) e;rcases j with j|j
   ·show j (.inl (by rw[bL f];simp))
   ·rw[aS (.inr j)] at f;cases f
  ·let m:¬(b=D\/a b):=λz=>n (.inr z)
   let y:(h.plus λb=>b=D\/a b) b=PC:=by
    rw[bT m]
    cases f:h b with
    |none=>rfl
    |some x=>show absurd (.inl (by rw[f];simp)) n
   obtain⟨u,f2⟩:=d.froz e y;rcases z with z|z
   ·rw[bI m] at z;show z u
   ·show m z
abbrev Kv(K:Mu)(f:List J.D->Ro->Option (List J.D×Ro))(cp:List (Option Nat))(Y1:L2.St)(r:Ow)(ds:List J.D)(g':Gh)(Z:Ro)(H1:Hp)(D:PL):Nat->Nat->L2.St->Hp->Prop:=λi m Y' H'=>m=ds.length-i/\i<=ds.length/\∃(B:Gh) (q:Pr) (us:List V) (R:List J.D) (O:Ro),f (ds.take i) Z=PB (R,O)/\Evo g' H1 B H' (λb=>b=D\/q b)/\¬q D/\SE K (B.plus λb=>b=D\/q b) O Y' H'/\
  (∀(j i:Nat),cp[j]?=PB (PB i)->Y'[j]?=Y1[j]?)/\H' D=PB (.lst us)/\TrL K H' (Sx B λb=>b=D\/q b) R [] r us q
theorem tL(O:ao X U c){fi:Ro->IR}(hck:bc c scope=PD)(hi:mx X fi tg iter)(h9:nC ⟨f9 scope c.sc,ac scope,gE scope⟩ n tg=PB t)(h8:∀C s H ex,nJ (ai X (ac scope) scope C s H ex) ft ifs)(gb:∀C s H ex,bA (ai X (ac scope) scope C s H ex) fe elt)(h:jg r (fi Z) (ik (aA c scope) t ft fe) (aA c scope)=PB (kd,d,Z')){Y:L2.St}{Q:VK}(se:SE X.K g Z Y H)(q:∀v g' H' F,Evo g H g' H' F->SE X.K (g'.plus F) Z' Y H'->VR1 X.K H' g' F kd d v F->Q v H') :
  iR (wI X tg iter) (λv Y H Q=>∀C s H0 ex,wG (ai X (ac scope) scope C s H0 ex) tg v Y H Q) (λY H Q=>∀C s H0 ex,Ed (ai X (ac scope) scope C s H0 ex) ifs Y H Q) (λY H Q=>∀C s H0 ex,wE (ai X (ac scope) scope C s H0 ex) elt Y H Q) (aA c scope) Y H Q:=by
 let hf:kN (aA c scope)=PD:=by
  simp only[bc,Mw] at hck;show hck.1.2
 unfold jg at h;split at h
 ·ext bs E Z0 gd;split at h
  ·ext R;obtain⟨rfl,R⟩:=R;split at h
   ·ext ys Ze hm;split at h
    ·ext gc;cases h;let CO:=c6 O hck;show hi Z [] E Z0 gd g Y H _ se λjj g0 g1 H1 h4 h3 jt sp sf D hD=>?_;replace q:∀v g' H' F,Evo g1 H1 g' H' F->SE X.K (g'.plus F) (cQ (jf (aA c scope)) Ze Z0) Y H'->VR1 X.K H' g' F (.fr (.own [] r)) (.lst ys) v F->Q v H':=λv g' H' F e s r=>q v g' H' F (xT h4 e) s r;clear se h4;generalize g1=g at *;generalize Z0=Z at *;let ha:SE X.K (g.re (i9 (aA c scope))) (aQ Z (aA c scope)) (cF Y (aA c scope)) H1:=h3.cap hf;generalize h5:g.re (i9 (aA c scope))=g' at ha;let gS:∀b,Sg g' b↔Sg g b:=λb=>by rw[<- h5];show jN b
     generalize hZ:aQ Z (aA c scope)=Zc at ha hm
     show⟨Kv X.K (aH r (ik (aA c scope) t ft fe)) (aA c scope) (cF Y (aA c scope)) r E g' Zc H1 D,
      ⟨E.length,by simp,M3 _,g',λ_=>False,[],[],Zc,by simp[aH],?_,λz=>z,?_,λj i _=>rfl,ak,by unfold TrL;show⟨rfl,λ_ z=>z⟩⟩,?_⟩
     ·let gD:g' D=PC:=eL ha.mu hD;show⟨λb o n e=>ae hD b o e,λ_=>Iff.rfl,λb i e=>.inl ⟨i,e⟩,λb z=>?_,λb o e=>⟨o,ae hD b o e⟩⟩;rcases z with z|z
      ·subst z;show⟨gD,.inr hD⟩
      ·show z.elim
     ·show ha.plus (ae hD) (λb z=>z.elim (λz=>z▸hD) λz=>z.elim) λb z=>z.elim (λz=>⟨.lst [],z▸ak,λxs h=>by cases h⟩) λz=>z.elim
     rintro i m Y' H' ⟨rfl,kp,gi,f,us,yi,Zi,W,u,B,hl,ht,gD,tr⟩
     let kk:∀b,(b=D\/f b)->gi b=PC:=λb z=>(u.tmp b z).1
     let g5:g0.P X.K (gi.plus λb=>b=D\/f b) H':=by
      let fz:∀b o,H1 b=PB o->¬Sg g b->H' b=PB o/\¬Sg (gi.plus λb=>b=D\/f b) b:=λb o e n=>by
       let n':g' b=PC:=by
        cases l:g' b with
        |none=>rfl
        |some x=>show absurd ((gS b).mp (by rw[Sg,l];simp)) n
       obtain⟨f1,f2⟩:=u.froz e n';show⟨u.keep b o (λi l=>by rw[n'] at l;cases l) e,λz=>?_⟩;rcases(al b).mp z with z|z
       ·show z f1
       ·show f2 z
      show Src.mono (λb o e n=>(fz b o e n).2) (λb o A e=>?_) (λa e=>sf.from_t e) sp;rcases A with A|A
      ·show(fz b o e A).1
      ·rcases sf.from_l A with sf|⟨i,ge,_⟩
       ·show(fz b o e (by rw[Sg,sf];simp)).1
       ·cases ge
     obtain⟨j1,j2⟩:=jt i _ H' g5 hl.mu;by_cases V:i<E.length
     ·let hd:E[i]?=PB E[i]:=MF V;obtain⟨go,yl⟩:=j2 _ hd;show .inr ⟨go,λx H2 hy C s0 H0 ex=>?_⟩;obtain⟨s2,rx⟩:=yl x H2 hy;let st:=px hm hd W
      let hu:∃o,ik (aA c scope) t ft fe E[i] Zi=PB o:=by
       rcases st with⟨Z1,e,_⟩|⟨kd,Z1,e,_⟩
       ·show⟨_,e⟩
       ·show⟨_,e⟩
      obtain⟨o0,M⟩:=hu;let S:=M;unfold ik at S;split at S
      ·ext ps kf;split at S
       ·ext hz;obtain⟨hz,ke⟩:=hz
        let hw:∀(j i:Nat),(aA c scope)[j]?=PB (PB i)->∀p∈ps,p.1≠j:=λj i e p hp z=>by
         have:=NI.mp ke p hp;rw[z,e] at this;cases this
        show sN (ph (CO C s0 H0 ex) n h9) (hZq kf rx λvs hj C1 hv h0 h1=>?_);let t1:=SE.setAll hj (hl.same s2);let h2:Evo g' H1 gi H2 (λb=>b=D\/f b):=⟨λb o n e=>s2 _ _ (u.keep b o n e),u.out,u.new,u.tmp,λb o e=>let ⟨o',l⟩:=u.dom b o e;⟨o',s2 _ _ l⟩⟩;let hx:TrL X.K H2 (Sx gi λb=>b=D\/f b) yi [] r us f:=tr.go (λb o _ e=>s2 _ _ e) λ_ _ _ n=>n;split at S
        ·ext Zt hT;show h8 C1 hv h0 h1 _ PD Zt hT _ _ _ _ t1 λgt H3 hr L=>ve λC2 ka kc ga=>?_;obtain⟨I,hq,hs,hn,hg⟩:=tK h2 B (s2 _ _ gD) hx hr;rw[<- hs] at L
         let h6:us.length<=i:=by
          rw[tr.len];show Nb (gI W) (by rw[M8];lia)
         split at S
         ·ext ky y Z1 gs;cases S
          let hc:bM r (dJ ky y,y)=PD/\aH r (ik (aA c scope) t ft fe) (E.take (i+1)) Zc=PB (yi++[y],clr ps Z1):=by
           rcases st with⟨Z2,e,_⟩|⟨kd,Z2,e,e2,e3⟩
           ·rw[M] at e;cases e
           ·rw[M] at e;cases e;show⟨e2,e3⟩
          show gb C2 ka kc ga _ ky y Z1 gs _ _ H3 _ L λvy g2 H4 Fy k ho r4=>?_;let g3:=VR1.im ho.mu r4;let gk:(I.plus λb=>b=D\/f b) D=PB PC:=aS (.inl rfl);let gl:H4 D=PB (.lst us):=k.keep D _ (λi l=>by rw[gk] at l;cases l) hn
          let N:∀b,(b=D\/f b)->¬Fy b:=λb z z2=>by
           have:=(k.out b).mp (aS z);rw[(k.tmp b z2).1] at this;cases this
          let h7:=hq.trans k;let mm:MuOk H4 (Sx g2 Fy):=λb z=>ho.mu b ((al b).mpr z);obtain⟨F2,a1,a2⟩:=VR1.fit hc.1 mm (λb z=>(k.tmp b z).1) (λb z=>z) g3;let g4:=h6;let kD:∀b o,b≠D->H4 b=PB o->upd H4 D (.lst (us++[vy])) b=PB o:=λb o n e=>by rw[ag n];show e
          let mD:∀b,(b=D\/f b)->(g2.minus λb=>b=D\/f b) b=PC:=λb z=>ib z;let gj:∀b,((b=D\/f b)\/Fy b)->(g2.minus λb=>b=D\/f b) b=PC:=λb z=>(h7.tmp b z).1;let hh:∀b,(b=D\/(f b\/F2 b))->((b=D\/f b)\/Fy b):=λb z=>z.elim (λz=>.inl (.inl z)) λz=>z.elim (λz=>.inl (.inr z)) λz=>.inr (a1 b z);show⟨us,gl,Nw g4 (MG V (aL R)),E.length-(i+1),by lia,rfl,V,g2.minus (λb=>b=D\/f b),λb=>f b\/F2 b,us++[vy],yi++[y],clr ps Z1,hc.2,(h7.drop hh).upd hD,λz=>z.elim B λz=>N D (.inl rfl) (a1 D z),?_,λj i e=>(jY hj (hw j i e)).trans (ht j i e),ak,?_⟩
          ·show SE.upd (SE.clr (SE.drop (by rw[ig k];show ho) hh gj)) (aS (.inl rfl)) (λxs h=>by cases h)
          ·show TrL.snoc (hg.go (λb o A e=>?_) λb o e n z=>?_) ((a2 (Sx (g2.minus λb=>b=D\/f b) λb=>b=D\/(f b\/F2 b)) λb z=>?_).go (λb o A e=>kD b o (λz=>?_) e) λb o e n z=>n z) λb z1 z2=>N b (.inr z1) (a1 b z2)
           ·let nb:b≠D:=λz=>by
             subst z;show A.elim (λz=>z (.inr (.inl rfl))) B
            show kD b o nb (k.keep b o (λi l=>?_) e);rcases A with A|A
            ·show A (.inl (by rw[bL l];simp))
            ·rw[aS (.inr A)] at l;cases l
           ·let nb:¬(b=D\/f b):=λz=>n (.inr z)
            let gn:(I.plus λb=>b=D\/f b) b=PC:=by
             rw[bT nb]
             cases l:I b with
             |none=>rfl
             |some x=>show absurd (.inl (by rw[l];simp)) n
            obtain⟨f1,f2⟩:=k.froz e gn;rcases z with z|z
            ·rw[bI nb] at z;show z f1
            ·rcases hh b z with z|z
             ·show nb z
             ·show f2 z
           ·rcases z with z|z
            ·by_cases A:b=D\/f b
             ·rw[ib A] at z;show absurd rfl z
             ·rw[bI A] at z;show .inr (.inl z)
            ·rcases z with z|z|z
             ·right;left;rw[(k.out b).mp (aS (.inl z))];simp
             ·right;left;rw[(k.out b).mp (aS (.inr z))];simp
             ·show .inr (.inr (.inl z))
           ·subst z;show A.elim (λz=>z (.inr (.inl rfl))) λz=>N b (.inl rfl) (a1 b z)
         ·cases S
        ·ext Zt hT;cases S
         let hc:aH r (ik (aA c scope) t ft fe) (E.take (i+1)) Zc=PB (yi,clr ps Zt):=by
          rcases st with⟨Z1,e,e2⟩|⟨kd,Z1,e,_⟩
          ·rw[M] at e;cases e;show e2
          ·rw[M] at e;cases e
         show h8 C1 hv h0 h1 _ PF Zt hT _ _ _ _ t1 λgt H3 hr L=>vd ?_;obtain⟨I,hq,hs,hn,hg⟩:=tK h2 B (s2 _ _ gD) hx hr;rw[<- hs] at L;show⟨E.length-(i+1),by lia,rfl,V,I,f,us,yi,clr ps Zt,hc,hq,B,SE.clr L,λj i e=>(jY hj (hw j i e)).trans (ht j i e),hn,hg⟩
        ·cases S
       ·cases S
      ·cases S
     ·let e:i=E.length:=by lia
      subst e;rw[Nx,hm] at W;cases W;show .inl ⟨j1 (Mz _),?_⟩;let kb:(cJ (jf (aA c scope))).Nodup:=by rw[jh];simpa[kN] using hf
      let gv:g.re (nH (jf (aA c scope)))=g':=by
       rw[<- h5];congr 1;funext i;show AX _ _
      let rv:VR1 X.K H' gi (λb=>b=D\/f b) (.fr (.own [] r)) (.lst ys) (.ref D) (λb=>b=D\/f b):=by
       change Tr _ _ _ _ _ _ _;unfold Tr
       show⟨D,_,us,f,rfl,gD,rfl,λ_=>B,(λh=>nomatch h),λb=>⟨λz=>z.imp (λz=>⟨rfl,z⟩) id,λz=>z.imp (λz=>z.2) id⟩,tr⟩
      obtain⟨c1,c2,c3⟩:=mw kb (by rw[gc];simp[jf]) rfl (.refl g H1) (by rw[aV λ_ z=>z];show h3)
       (λj i sl w ej eo ew=>by
        unfold jf at ej;rw[MA] at ej
        cases l:(aA c scope)[j]? with
        |none=>rw[l] at ej;cases ej
        |some o=>
         rw[l] at ej
         cases o with
         |none=>cases ej
         |some i'=>
          cases ej;rw[ht j i l] at ew;unfold cF at ew;rw[MA,l] at ew;let T:(Y[i]?).join=PB w:=by simpa using ew
          cases q2:Y[i]? with
          |none=>rw[q2] at T;cases T
          |some w'=>rw[q2] at T;have:w'=PB w:=T;rw[this]) (by rw[gv];show u) hl rv
      show q _ _ H' _ c1 c2 c3
    ·cases h
   ·cases h
  ·cases h
 ·cases h
theorem AY(O:ao X U c){p:Ro->IR}(hck:bc c scope=PD)(hns:dh iter=PD)(hi:mx X p tg iter)(l:nC ⟨f9 scope c.sc,ac scope,gE scope⟩ n tg=PB t)(m:∀C s H ex,nJ (ai X (ac scope) scope C s H ex) ft ifs)(o:∀C s H ex,bA (ai X (ac scope) scope C s H ex) fe elt) :
  bA X (λZ=>jg r (p Z) (ik (aA c scope) t ft fe) (aA c scope)) (.ListComp elt [⟨tg,iter,ifs,0⟩] scope pos):=by
 intro Z x d y h g Y H Q w q
 show am (oV O.calm (df O hck) vi
  (λC s e ex a f i j v u k I r b=>vj a f i j v u k I r (b C s e ex)) (λC s e ex a f i j k I b=>b C s e ex a f I) (λC s e ex a f i j k I b=>b C s e ex a f I) (c8 hns)) (tL O hck hi l m o h w q)
end
def w2(X:Cx)(a b:PK)(Y:L2.St)(H:Hp)(R:List V->Hp->Prop):Prop:=wE X a Y H λx H1=>wE X b Y H1 λy H2=>R [x,y] H2
def tM(X:Cx)(f:Ro->Option (List KD×Ro))(a b:PK):Prop:=∀Z kds Z',f Z=PB (kds,Z')->∀g Y H Q,SE X.K g Z Y H->
 (∀vs g' H' F,Evo g H g' H' F->SE X.K (g'.plus F) Z' Y H'->VRL X.K H' g' F kds vs F->Q vs H')->w2 X a b Y H Q
def Strict2(X:Cx)(f:List KD->Option KD)(a b q:PK):Prop:=∀kds B d,f kds=PB (B,d)->∀Y H Q,w2 X a b Y H (LK X kds B d Q)->wE X q Y H Q
section
variable {X:Cx} {U:Tab} {c:Cz}
theorem Strict2.m{f:List KD->Option KD}{k:Ro->Option (List KD×Ro)}(h:Strict2 X f a b node)(y:tM X k a b):bA X (λZ=>(k Z).bind λp=>(f p.1).map λq=>(q.1,q.2,p.2)) node:=by
 intro Z C d E c g Y H Q u q;dsimp only at c
 cases e:k Z with
 |none=>rw[e] at c;cases c
 |some p=>
  obtain⟨i,I⟩:=p;rw[e] at c;dsimp only[Nl] at c
  cases e2:f i with
  |none=>rw[e2] at c;cases c
  |some r=>
   rw[e2] at c;cases c;show h i r.1 r.2 e2 Y H Q (y Z i _ e g Y H _ u λD l B F n j A=>⟨l,lN B F,rz j λb z=>(n.tmp b z).1,kU,A.off,λv t s2 o=>?_⟩);obtain⟨w,b1,b2⟩:=o;obtain⟨s,x⟩:=xP n j s2 b1 b2.dom;show q v l t w s x b2
theorem VR.one{v:V}(h:VR K g H0 H kd d v):VRs K g H0 H [(kd,d)] [v]:=by
 obtain⟨F,a,c⟩:=h;show⟨F,a,v,[],F,λ_=>False,rfl,λb=>⟨.inl,λz=>z.elim id λz=>z.elim⟩,λ_ _ z=>z,c,rfl,λ_ z=>z⟩
theorem Ev{k:Ro->MR}{fb:Ro->Option KD}(A:bA X k a)(o:SndE X fb b):tM X (λZ=>ii (k Z) λZ=>cG (fb Z) (PB [])) a b:=by
 intro Z kds j h g Y H Q C q;dsimp only[ii] at h;split at h
 ·ext E d K e1;split at h
  ·ext n e2;cases h;unfold cG at e2;split at e2
   ·ext x I p f;cases e2;cases f;obtain⟨m,l⟩:=x;show A Z E d j e1 g Y H _ C λv i F D e c B=>o j m l p (i.plus D) Y F _ c λw z s2 r=>?_;obtain⟨s,u,y,t⟩:=tH (kds:=[(m,l)]) (vs:=[w]) e c B s2 r.one;show q [v,w] i z s u y t
   ·cases e2
  ·cases h
 ·cases h
theorem AZ{n fb:Ro->MR}(E:bA X n a)(t:bA X fb b):tM X (λZ=>jc (n Z) λZ=>ii (fb Z) λ_=>PB []) a b:=by
 intro Z I D h g Y H Q L q;dsimp only[jc] at h;split at h
 ·ext N d o e1;split at h
  ·cases h
  ·ext i;split at h
   ·ext s R e2;cases h;unfold ii at e2;split at e2
    ·ext r p P e3;cases e2;show E Z N d o e1 g Y H _ L λv A O M e c F=>t o r p D e3 (A.plus M) Y O _ c λw y m f j k u=>?_;let l:VRL X.K m y f [(r,p)] [w] f:=⟨w,[],f,λ_=>False,rfl,λb=>⟨.inl,λz=>z.elim id λz=>z.elim⟩,λ_ _ z=>z,u,rfl,λ_ z=>z⟩;obtain⟨B,C,x⟩:=pq (by simpa using i) e (F.im c.mu) j k l;show q [v,w] _ m _ B C x
    ·cases e2
   ·cases h
 ·cases h
noncomputable def f2(f:KD->KD->Option KD):List KD->Option KD
 |[x,y]=>f x y
 |_=>PC
theorem n_bin:Strict2 X (f2 (ed op)) a b (.BinOp a op b pos):=by
 intro c o d h Y H Q n
 match c,h with
 |[x,y],h=>
  show am (B0 (xn op) aw aw) (jX n λu B p=>jX p λz A ⟨g,l,m,s,r,q⟩=>?_);obtain⟨v,w,e,f,j⟩:=r.two;cases e;show⟨g,l,x,y,o,d,m,s,f,j,h,λv i k t=>q v i k (t.older s)⟩
def Jp:KD->KD->Option KD:=λx y=>xr (PB x) (PB y)
theorem Kw(O:ao X U c)(C:cZ b=PD):Strict2 X (f2 Jp) a b (.Subscript a b pos):=by
 intro z E d h Y H Q N
 match z,h with
 |[x,y],h0=>
  let h:xr (PB x) (PB y)=PB (E,d):=h0;clear h0;obtain⟨L,D⟩:=x;obtain⟨P,B⟩:=y
  let n:∀{R:V->V->Hp->Prop},(∀o l f g j,MuOk j (Sg g)->Same j f->VR X.K g j f L D o->VR X.K g j f P B l->(∀v A,Same f A->VR X.K g j A E d v->Q v A)->R o l f)->wE X a Y H λo F=>wE X b Y F λl f=>R o l f:=λk=>
   jX N λo F S=>jX S λl f ⟨g,j,m,s,r,q⟩=>by
    obtain⟨v,T,e,M,I⟩:=r.two;cases e;show k o l f g j m s M I q
  rcases sU h with⟨i,e,t⟩|⟨p,e,t⟩
  ·cases(show B=_ from e);show am (sI m6 aw aw (bW C)) (n λo l f g j m s u w q=>?_);obtain rfl:=w.rd.int;show sV t u λv r=>q v f (Same.refl f) r
  ·cases(show D=_ from e);show am (m9 (by have:=O.tab.units;lia) aw aw (bW C)) (n λo l f g j m s u w q=>o8 t u w λv r=>q v f (Same.refl f) r)
theorem n_tup:StrictOk X (λkds=>i4 k (PB kds)) es (.Tuple es n pos):=by
 intro kds l d h Y H Q e;dsimp only[i4] at h;split at h
 ·split at h
  ·ext b;cases h;show am (mZ cX) (cj e λi j ⟨g,f,m,s1,a,q⟩=>⟨by rw[a.len];show aL b.2,λp c=>?_⟩);show q _ _ (ae c) (a.tupO b.1 m s1 c)
  ·cases h
 ·split at h
  ·ext b;cases h;show am (mZ cX) (cj e λi j ⟨g,f,m,s1,a,q⟩=>⟨by rw[a.len];show aL b.2,λp c=>?_⟩);show q _ _ (ae c) ((xk (m.same s1) c (a.sh b.1 m s1)).older s1)
  ·cases h
theorem Kx(O:ao X U c){es:List PK}{f:Ro->Option (List RA×Ro)}(o:U.fm x=PB λK=>vD K B)(m:iY c.sc x=PD)(r:ah e=PD)(t:es.all ah=PD)(u:gz X f (e::es)) :
  bA X (λZ=>AV (PB B) (f Z)) (.Call (.Name x p) (e::es) [] pos):=by
 intro Z M d L h g Y H Q y q;obtain⟨n,z,P,N,F,s,A,hk,k,j⟩:=O.tab.fm x _ o;dsimp only at h
 cases b:f Z with
 |none=>rw[b] at h;cases h
 |some l=>
  obtain⟨a,w⟩:=l;rw[b] at h;show am (sC (E:=E0) F s (dG O m) A hk k .nil oO cX j (aj r) (bx t)) (u Z a w b g Y H _ y λD I S R C i v=>?_);rw[Nj];show tJ h C i v q
def xU(i:Nat)(Z:Ro):MR:=match Z[i]? with
 |some (PB ⟨PF,k,d⟩)=>if qS k=PD then PB (.sh,d,Z) else PB (.fr k,d,Z.set i PC)
 |_=>PC
open Classical in
noncomputable def Gh.off(g:Gh)(i:Nat):Gh:=λb=>if g b=PB (PB i) then PC else g b
theorem Cd{g:Gh}(h:Sg (g.off i) b):Sg g b/\g b≠PB (PB i):=by
 by_cases n:g b=PB (PB i)
 ·show absurd (by unfold Gh.off;rw[if_pos n]) h
 ·show⟨λz=>h ?_,n⟩;unfold Gh.off;rw[if_neg n];show z
theorem xV{g:Gh}(h:g b≠PB (PB i)):g.off i b=g b:=by unfold Gh.off;rw[if_neg h]
theorem xW{g:Gh}(h:g b=PB (PB i)):g.off i b=PC:=by unfold Gh.off;rw[if_pos h]
theorem kY{g:Gh}(h:g.off i b=PB x):g b=PB x/\x≠PB i:=by
 unfold Gh.off at h;split at h
 ·cases h
 ·ext n;show⟨h,λz=>n (by rw[h,z])⟩
theorem tN{g:Gh}{F:Pr}(a:∀b,F b->g b=PB (PB i)):Evo g H (g.off i) H F:=by
 show⟨λ_ _ _ e=>e,λb=>⟨λe=>?_,λe=>(kY e).1⟩,λb j e=>.inl ⟨j,(kY e).1⟩,λb z=>⟨xW (a b z),.inl ⟨i,a b z⟩⟩,λ_ o e=>⟨o,e⟩⟩;rw[xV (by rw[e];simp)];show e
theorem xX{g:Gh}{F:Pr}{Z Z':Ro}{Y:L2.St}(h:SE K g Z Y H)(l:∀b,F b->g b=PB (PB i))(u:Z'.length=Z.length)(q:∀(j:Nat) a,Z'[j]?=PB (PB a)->(j≠i/\Z[j]?=PB (PB a))\/(∃v,Y[j]?=PB (PB v)/\a.k=.fz/\Rp K H (Sg ((g.off i).plus F)) a.d v)):SE K ((g.off i).plus F) Z' Y H:=by
 let c:∀b,Sg ((g.off i).plus F) b->Sg g b:=λb z=>((al b).mp z).elim (λz=>(Cd z).1) λz=>by rw[Sg,l b z];simp
 show⟨λj a e=>?_,λb z=>h.mu b (c b z),by rw[u];show h.len⟩;rcases q j a e with⟨m,e1⟩|⟨v,e1,e2,e3⟩
 ·obtain⟨v,w,p,t,r⟩:=h.slot j a e1;show⟨v,w,p,λb z=>?_,r.go (λ_ _ _ e=>e) λb o _ n z=>n (c b z)⟩;let f:=t b z;show ci ?_ λs=>by rw[l b s] at f;cases f;show m rfl
  rw[xV (by rw[f];intro z;cases z;show m rfl)];show f
 ·obtain⟨x,k,d⟩:=a;let e2:k=.fz:=e2;subst e2;show⟨v,λ_=>False,e1,λb z=>z.elim,.fz e3⟩
theorem fX(O:ao X U c){i:Nat}(a:f7 c x=PB i)(pos:Pos){Y:L2.St}{Q:VK}(e:Y[i]?=PB (PB v))(q:Q v H):wE X (.Name x pos) Y H Q:=by
 unfold f7 at a;split at a
 ·ext j d;split at a
  ·ext b;cases a;simp only[Mw,nu,NF] at b;show am (qp (i:=i) (by rw[O.N];show aT d) (by rw[O.sc];show nr b.1) b.2.1 b.2.2) ⟨v,e,q⟩
  ·cases a
 ·cases a
theorem HP(O:ao X U c)(p:f7 c x=PB i)(pos:Pos):bA X (xU i) (.Name x pos):=by
 intro Z s d t h g Y H Q f q;unfold xU at h;split at h
 ·ext k u e;obtain⟨v,r,e1,e2,e3⟩:=f.slot i _ e;split at h
  ·ext hk;cases h;let a:=jT hk;subst a;show fX O p pos e1 (q v g H (λ_=>False) (.refl g H) (by rw[aV λ_ z=>z];show f) ⟨λ_ z=>z,?_⟩);show e3.fz_inv.2.weak λb z=>z.elim id λz=>z.elim
  ·cases h;show fX O p pos e1 (q v (g.off i) H r (tN e2) (xX f e2 (by simp) λj w e4=>?_) ?_)
   ·by_cases m:j=i
    ·subst m
     let l:j<Z.length:=by
      have:=(Mv.mp e4).1;simpa using this
     rw[M9 l] at e4;cases e4
    ·rw[M6 (Ne.symm m)] at e4;show .inl ⟨m,e4⟩
   ·change Tr _ _ _ _ _ _ _;show e3.go (λ_ _ _ e=>e) λb o _ n z=>n (z.elim (λz=>(Cd z).1) λz=>by rw[Sg,e2 b z];simp)
 ·cases h
end
section
variable {K:Mu} {H:Hp} {S:Pr}
theorem TrL.focus:∀{ds:List D} {es:List Ow} {r:Ow} {xs:List V} {F:Pr} {j:Nat} {d:D},TrL K H S ds es r xs F->ds[j]?=PB d->∃(x:V) (n g:Pr),xs[j]?=PB x/\(∀b,F b↔n b\/g b)/\(∀b,n b->¬g b)/\Tr K H S d (es.getD j r) x n/\
  ∀(l:Hp) (i:Pr) (m:D) (a:Pr),(∀b o,(¬S b\/g b)->H b=PB o->l b=PB o)->(∀b o,H b=PB o->¬S b->¬i b)->Tr K l i m (es.getD j r) x a->(∀b,a b->¬g b)->TrL K l i (ds.set j m) es r xs (λb=>a b\/g b)
 |[],_,_,_,_,_,_,h,e=>by simp at e
 |d0::ds,es,r,xs,F,0,d,h,e=>by
  unfold TrL at h;obtain⟨y,v,u,B,rfl,A,p,E,C⟩:=h;simp at e;subst e
  show⟨y,u,B,rfl,A,p,by cases es<;>simpa using E,λl i m a s q t f=>?_⟩
  unfold TrL
  show⟨y,v,a,B,rfl,λb=>Iff.rfl,f,by cases es<;>simpa using t,C.go s q⟩
 |d0::ds,es,r,xs,F,j+1,d,h,e=>by
  unfold TrL at h;obtain⟨y,v,u,B,rfl,A,p,E,C⟩:=h
  obtain⟨x,n,g,e1,e2,e3,e4,L⟩:=TrL.focus C (by simpa using e)
  let I:es.tail.getD j r=es.getD (j+1) r:=by cases es<;>simp
  rw[I] at e4;show⟨x,n,λb=>u b\/g b,by simpa using e1,λb=>?_,λb k c=>?_,e4,λl i m a s q t f=>?_⟩
  ·rw[A b,e2 b];show⟨λz=>z.elim (λz=>.inr (.inl z)) λz=>z.imp id .inr,λz=>z.elim (λz=>.inr (.inl z)) λz=>z.imp id .inr⟩
  ·rcases c with c|c
   ·show p b c ((e2 b).mpr (.inl k))
   ·show e3 b k c
  ·change TrL K l i (d0::ds.set j m) es r (y::v) _;unfold TrL;show⟨y,v,u,λb=>a b\/g b,rfl,λb=>⟨λz=>z.elim (λz=>.inr (.inl z)) λz=>z.imp id .inr,λz=>z.elim (λz=>.inr (.inl z)) λz=>z.imp id .inr⟩,λb k c=>?_,E.go (λb o w e=>s b o (w.imp id .inl) e) q,L l i m a (λb o w e=>s b o (w.imp id .inr) e) q (by rw[I];show t) λb k c=>f b k (.inr c)⟩;rcases c with c|c
   ·show f b c (.inl k)
   ·show p b k ((e2 b).mpr (.inr c))
def FP(K:Mu)(H:Hp)(S:Pr)(k:Ow)(v:V)(F:Pr)(W:Ow)(d1:D)(R:V)(up:D->D):Prop:=∃(F1 O:Pr),(∀b,F b↔F1 b\/O b)/\(∀b,F1 b->¬O b)/\Tr K H S d1 W R F1/\
  ∀(H':Hp) (S':Pr) (B:D) (q:Pr),(∀b o,(¬S b\/O b)->H b=PB o->H' b=PB o)->(∀b o,H b=PB o->¬S b->¬S' b)->Tr K H' S' B W R q->(∀b,q b->¬O b)->Tr K H' S' (up B) k v (λb=>q b\/O b)
theorem FP.root(h:Tr K H S d k v F):FP K H S k v F k d v id:=by
 show⟨F,λ_=>False,λb=>⟨.inl,λz=>z.elim id λz=>z.elim⟩,λ_ _ z=>z,h,λi f e a g l t j=>?_⟩;let c:(λb=>a b\/False)=a:=by funext b;show propext ⟨λz=>z.elim id λz=>z.elim,.inl⟩
 rw[c];show t
theorem FP.same(h:FP K H S k v F k1 d1 v1 up)(s:Same H H2):FP K H2 S k v F k1 d1 v1 up:=by
 obtain⟨q,r,u,m,f,i⟩:=h;show⟨q,r,u,m,f.go (λb o _ e=>s b o e) λ_ _ _ n=>n,λj g a c k1 p t l=>i j g a c (λb o d e=>k1 b o d (s b o e)) (λb o e n=>p b o (s b o e) n) t l⟩
theorem FP.step{es:List Ow}{ds:List D}{up:D->D}{j:Nat}(h:FP K H S k v F (.own es r) (.nd hd ds) v1 up)(R:ds[j]?=PB d):∃a o xs x,v1=.ref a/\H a=PB o/\cW K o hd xs/\xs.length=ds.length/\xs[j]?=PB x/\FP K H S k v F (es.getD j r) d x (λz=>up (.nd hd (ds.set j z))):=by
 obtain⟨F1,C,Y,B,E,O⟩:=h;unfold Tr at E;obtain⟨a,o,xs,Z,rfl,q,N,I,M,p,t⟩:=E
 obtain⟨x,U,n,e1,e2,e3,e4,Q⟩:=t.focus R
 show⟨a,o,xs,x,rfl,q,N,t.len,e1,U,λb=>(hd.mu=PD/\b=a)\/n b\/C b,λb=>?_,λb c f=>?_,e4,λu y m g s A V l=>?_⟩
 ·rw[Y b,p b,e2 b];show⟨λz=>z.elim (λz=>z.elim (λz=>.inr (.inl z)) λz=>z.imp id λz=>.inr (.inl z)) λz=>.inr (.inr (.inr z)),λz=>z.elim (λz=>.inl (.inr (.inl z))) λz=>z.elim (λz=>.inl (.inl z)) λz=>z.elim (λz=>.inl (.inr (.inr z))) .inr⟩
 ·rcases f with⟨i,rfl⟩|f|f
  ·show I i ((e2 b).mpr (.inl c))
  ·show e3 b c f
  ·show B b ((p b).mpr (.inr ((e2 b).mpr (.inl c)))) f
 ·let W:=Q u y m g (λb o w e=>s b o (w.imp id λz=>.inr (.inl z)) e) A V λb c f=>l b c (.inr (.inl f))
  let T:u a=PB o:=by
   cases i:hd.mu with
   |true=>show s a o (.inr (.inl ⟨i,rfl⟩)) q
   |false=>show s a o (.inl (M i)) q
  let P:Tr K u y (.nd hd (ds.set j m)) (.own es r) (.ref a) (λb=>(hd.mu=PD/\b=a)\/(g b\/n b)):=by
   unfold Tr;show⟨a,o,xs,λb=>g b\/n b,rfl,T,N,λi z=>z.elim (λz=>l a z (.inl ⟨i,rfl⟩)) λz=>I i ((e2 a).mpr (.inr z)),λi=>A a o q (M i),λb=>Iff.rfl,W⟩
  let L:=O u y _ _ (λb o w e=>s b o (w.imp id λz=>.inr (.inr z)) e) A P λb c f=>by
   rcases c with⟨i,rfl⟩|c|c
   ·show B b ((p b).mpr (.inl ⟨i,rfl⟩)) f
   ·show l b c (.inr (.inr f))
   ·show B b ((p b).mpr (.inr ((e2 b).mpr (.inr c)))) f
  let X:(λb=>((hd.mu=PD/\b=a)\/(g b\/n b))\/C b)=λb=>g b\/((hd.mu=PD/\b=a)\/n b\/C b):=by
   funext b;show propext ⟨λz=>z.elim (λz=>z.elim (λz=>.inr (.inl z)) λz=>z.imp id λz=>.inr (.inl z)) λz=>.inr (.inr (.inr z)),λz=>z.elim (λz=>.inl (.inr (.inl z))) λz=>z.elim (λz=>.inl (.inl z)) λz=>z.elim (λz=>.inl (.inr (.inr z))) .inr⟩
  rw[X] at L;show L
end
def Ce(hd:Hd)(n:Nat)(x:D):Option Nat:=match hd with
 |.lst=>(match x with|.int z=>jL n z|_=>PC)
 |.tup=>(match x with|.int z=>jL n z|_=>PC)
 |.dic t ks=>(match iV x with|some k=>if g8 t k=PD then aR ks k else PC|none=>PC)
 |.obj _ _=>PC
def xY(p:Option (Ow×D×(D->D)))(x:Option KD):Option (Ow×D×(D->D)):=match p,x with
 |some (.own es r,.nd hd ds,up),PB (_,dx)=>(match Ce hd ds.length dx with
  |some j=>(match ds[j]? with|some d=>PB (es.getD j r,d,λz=>up (.nd hd (ds.set j z)))|none=>PC)
  |none=>PC)
 |_,_=>PC
def tO(f:Str)(p:Option (Ow×D×(D->D))):Option (Ow×D×(D->D)):=match p with
 |some (.own es r,.nd (.obj c ns) ds,up)=>(match a8 f ns with
  |some j=>(match ds[j]? with|some d=>PB (es.getD j r,d,λz=>up (.nd (.obj c ns) (ds.set j z)))|none=>PC)
  |none=>PC)
 |_=>PC
noncomputable def gA(o:Option (Option Sl)):Option (Ow×D×(D->D)):=match o with
 |some (PB ⟨PF,k,d⟩)=>PB (k,d,id)
 |_=>PC
def lO(X:Cx)(i:Nat)(f:Ro->Option (Ow×D×(D->D)))(e:PK):Prop:=∀Z O q up,f Z=PB (O,q,up)->∀g Y H Q,SE X.K g Z Y H->
 (∀B H' v F k d,Same H H'->Z[i]?=PB (PB ⟨PF,k,d⟩)->Y[i]?=PB (PB v)->(∀b,F b->g b=PB (PB i))->FP X.K H' (Sg g) k v F O q B up->Q B H')->wE X e Y H Q
section
variable {X:Cx} {U:Tab} {c:Cz}
theorem Ew(O:ao X U c){i:Nat}(f:f7 c x=PB i)(pos:Pos):lO X i (λZ=>gA Z[i]?) (.Name x pos):=by
 intro Z j b l h g Y H Q a q;dsimp only[gA] at h;split at h
 ·ext k d e;cases h;obtain⟨v,F,e1,e2,e3⟩:=a.slot i _ e;show fX O f pos e1 (q v H v F j b (Same.refl H) e e1 e2 (.root e3))
 ·cases h
theorem Ex(O:ao X U c){R:Ro->Option (Ow×D×(D->D))}{fb:Ro->Option KD}(M:lO X i R a)(I:SndE X fb b)(P:cZ b=PD):lO X i (λZ=>xY (R Z) (fb Z)) (.Subscript a b pos):=by
 intro Z k1 d1 up h g Y H Q p q;dsimp only[xY] at h;split at h
 ·ext es r hd V hc kx W N K;split at h
  ·ext j f;split at h
   ·ext dj L;cases h
    cases hd with
    |lst=>
     show am (sI m6 aw aw (bW P)) (M Z _ _ _ N g Y H _ p λT C v F k d s1 e1 e2 e3 m=>I Z _ _ K g Y C _ (p.same s1) λy w s2 s=>?_)
     cases W with
     |int z=>
      obtain rfl:=s.rd.int;obtain⟨A,o,E,x,rfl,u,B,l,e,n⟩:=(m.same s2).step L;cases(B);show .inl ⟨A,E,z,x,rfl,rfl,.of u,by unfold L2.qk;rw[l,(show jL V.length z=PB j from f)];show e,q x w v F k d (s1.trans s2) e1 e2 e3 n⟩
     |_=>cases f
    |tup=>
     show am (sI m6 aw aw (bW P)) (M Z _ _ _ N g Y H _ p λT C v F k d s1 e1 e2 e3 m=>I Z _ _ K g Y C _ (p.same s1) λy w s2 s=>?_)
     cases W with
     |int z=>
      obtain rfl:=s.rd.int;obtain⟨A,o,E,x,rfl,u,B,l,e,n⟩:=(m.same s2).step L;cases(B);show .inr (.inl ⟨A,E,z,x,rfl,rfl,.of u,by unfold L2.qk;rw[l,(show jL V.length z=PB j from f)];show e,q x w v F k d (s1.trans s2) e1 e2 e3 n⟩)
     |_=>cases f
    |dic t ks=>
     simp only[Ce] at f;split at f
     ·ext kk hk;split at f
      ·ext hf;show am (m9 (by have:=O.tab.units;lia) aw aw (bW P)) (M Z _ _ _ N g Y H _ p λT C v F k d s1 e1 e2 e3 m=>I Z _ _ K g Y C _ (p.same s1) λy w s2 s=>?_);obtain⟨A,o,E,x,rfl,u,B,l,e,n⟩:=(m.same s2).step L;let S:=jV u B hk s.rd hf;rw[f,Nl,e] at S;show⟨A,x,rfl,S,q x w v F k d (s1.trans s2) e1 e2 e3 n⟩
      ·cases f
     ·cases f
    |obj c ns=>cases f
   ·cases h
  ·cases h
 ·cases h
end
section
variable {X:Cx}
theorem HQ{n:Ro->Option (Ow×D×(D->D))}(s:attributeBase a f X.env (eval a X.env)=eval a X.env)(z:lO X i n a):lO X i (λZ=>tO f (n Z)) (.Attribute a f pos):=by
 intro Z R O S h g Y H Q E q;dsimp only[tO] at h;split at h
 ·ext T r c ns U A B;split at h
  ·ext j p;split at h
   ·ext N w;cases h;show am (wP aw s) (z Z _ _ _ B g Y H _ E λP M v F k d s1 e1 e2 e3 e=>?_);obtain⟨I,o,V,x,rfl,t,L,l,b,m⟩:=e.step w;obtain⟨C,K,_,⟨u,y⟩,rfl,_⟩:=L;show⟨I,C,K,_,x,rfl,t,u,y f (MH (aT p)),kH p b,q x M v F k d s1 e1 e2 e3 m⟩
   ·cases h
  ·cases h
 ·cases h
end
open Classical in
noncomputable def Gh.give(g:Gh)(F:Pr)(i:Nat):Gh:=λb=>if F b then PB (PB i) else g b
section
variable {K:Mu} {H:Hp} {g:Gh} {F:Pr} {Z:Ro} {Y:L2.St}
theorem il{F2:Pr}(h:F2 b):g.give F2 i b=PB (PB i):=by unfold Gh.give;rw[if_pos h]
theorem bF{F2:Pr}(h:¬F2 b):g.give F2 i b=g b:=by unfold Gh.give;rw[if_neg h]
theorem give_S{F2:Pr}:Sg (g.give F2 i) b↔Sg g b\/F2 b:=by
 by_cases h:F2 b
 ·show⟨λ_=>.inr h,λ_=>by rw[Sg,il h];simp⟩
 ·show⟨λz=>.inl (by rw[Sg,bF h] at z;show z),λz=>z.elim (λz=>by rw[Sg,bF h];show z) λz=>absurd z h⟩
structure nK(K:Mu)(H:Hp)(g:Gh)(F:Pr)(Z:Ro)(Y:L2.St)(i:Nat)(k:Ow)(es:List Ow)(r:Ow)(hd:Hd)(ds:List D)(up:D->D)(a:Addr)(o:HO)(xs:List V)(F':Pr):Prop where
 at_:H a=PB o
 ok:cW K o hd xs
 kids:TrL K H (Sg (g.plus F)) ds es r xs F'
 lab:∀b,F' b->g b=PB (PB i)
 nin:¬F' a
 own:g a=PB (PB i)
 put:∀(o':HO) (hd':Hd) (ds':List D) (xs':List V) (F2 F3:Pr),hd'.mu=PD->cW K o' hd' xs'->(∀xs,o'≠.tup xs)->(∀b,F2 b->F b)->(∀b,F3 b->F' b\/F2 b)->TrL K H (Sg (g.give F2 i)) ds' es r xs' F3->
  SE K (g.give F2 i) (Z.set i (PB ⟨PF,k,up (.nd hd' ds')⟩)) Y (upd H a o')
theorem FP.node{i:Nat}{N:Pr}{hd:Hd}(T:SE K (g.plus F) Z Y H)(hg:∀b,F b->g b=PC)(e:Z[i]?=PB (PB ⟨PF,k,d⟩))(hv:Y[i]?=PB (PB v))(lb:∀b,N b->(g.plus F) b=PB (PB i))(fp:FP K H (Sg (g.plus F)) k v N (.own es r) (.nd hd ds) v1 up)(C:hd.mu=PD):∃a o xs F',v1=.ref a/\nK K H g F Z Y i k es r hd ds up a o xs F':=by
 obtain⟨F1,Fr,E,U,X,h4⟩:=fp;unfold Tr at X;obtain⟨a,o,xs,F',rfl,q1,q2,n1,n2,u,t⟩:=X;let D:∀b,N b->g b=PB (PB i):=λb z=>bL (lb b z);let m:g a=PB (PB i):=D a ((E a).mpr (.inl ((u a).mpr (.inl ⟨C,rfl⟩))));let gF:∀b,F' b->g b=PB (PB i):=λb z=>D b ((E b).mpr (.inl ((u b).mpr (.inr z))));show⟨a,o,xs,F',rfl,q1,q2,t,gF,n1 C,m,λx R S Q y O A W nt s2 M t'=>?_⟩;let q:∀b,Sg (g.give y i) b->Sg (g.plus F) b:=λb z=>(al b).mpr ((give_S.mp z).imp id (s2 b));let I:∀b f,b≠a->H b=PB f->upd H a x b=PB f:=λb f n e=>by rw[ag n];show e
 let l:∀b,y b->g b=PC:=λb z=>hg b (s2 b z);let p:¬O a:=λz=>(M a z).elim (n1 C) λz=>by rw[l a z] at m;cases m
 show⟨λj sl B=>?_,λb z=>?_,by simp[T.len]⟩
 ·by_cases P:j=i
  ·subst P
   let V:j<Z.length:=by
    have:=(Mv.mp B).1;simpa using this
   rw[M9 V] at B;cases B
   let tn:Tr K (upd H a x) (Sg (g.give y j)) (.nd R S) (.own es r) (.ref a) (λb=>b=a\/O b):=by
    unfold Tr;show⟨a,x,Q,O,rfl,ak,W,λ_=>p,λh=>by (rw[A] at h;cases h),λb=>⟨λz=>z.imp (λz=>⟨A,z⟩) id,λz=>z.imp (λz=>z.2) id⟩,t'.go (λb f c e=>I b f (λz=>?_) e) λ_ _ _ n=>n⟩;subst z;rcases c with c|c
    ·show c (give_S.mpr (.inl (by rw[Sg,m];simp)))
    ·show p c
   show⟨v,_,hv,λb z=>?_,h4 (upd H a x) (Sg (g.give y j)) _ _ (λb f c e=>I b f (λz=>?_) e) (λb f _ n z=>n (q b z)) tn λb L s=>?_⟩
   ·rcases z with(rfl|z)|z
    ·rw[bF (λz=>by rw[l b z] at m;cases m)];show m
    ·by_cases s:y b
     ·show il s
     ·rw[bF s];show(M b z).elim (gF b) λz=>absurd z s
    ·have:=D b ((E b).mpr (.inr z));rw[bF (λz=>by rw[l b z] at this;cases this)];show this
   ·subst z;rcases c with c|c
    ·show c ((al b).mpr (.inl (by rw[Sg,m];simp)))
    ·show U b ((u b).mpr (.inl ⟨C,rfl⟩)) c
   ·rcases L with rfl|L
    ·show U b ((u b).mpr (.inl ⟨C,rfl⟩)) s
    ·rcases M b L with z|z
     ·show U b ((u b).mpr (.inr z)) s
     ·have:=D b ((E b).mpr (.inr s));rw[l b z] at this;cases this
  ·rw[M6 (Ne.symm P)] at B;obtain⟨w,Fj,e1,e2,e3⟩:=T.slot j sl B;let gj:∀b,Fj b->g b=PB (PB j):=λb z=>bL (e2 b z);show⟨w,Fj,e1,λb z=>?_,e3.go (λb f c e=>I b f (λz=>?_) e) λb f _ n z=>n (q b z)⟩
   ·have:=gj b z;rw[bF (λz=>by rw[l b z] at this;cases this)];show this
   ·subst z;rcases c with c|c
    ·show c ((al b).mpr (.inl (by rw[Sg,m];simp)))
    ·rw[gj b c] at m;cases m;show P rfl
 ·by_cases c:b=a
  ·show⟨x,by rw[c];show ak,nt⟩
  ·obtain⟨f,e2,n⟩:=T.mu b (q b z);show⟨f,I b f c e2,n⟩
theorem Evo.give{F2:Pr}(c:Evo g0 H0 g H F)(s2:∀b,F2 b->F b)(k:g a=PB (PB i)):Evo g0 H0 (g.give F2 i) (L2.upd H a o') (λ_=>False):=by
 let d:∀b,F2 b->g b=PC:=λb z=>(c.tmp b (s2 b z)).1;show⟨λb o n e=>?_,λb=>⟨λe=>?_,λe=>?_⟩,λb j e=>?_,λ_ z=>z.elim,λb o e=>?_⟩
 ·rw[ag (λz=>?_)]
  ·show c.keep b o n e
  ·subst z;rcases c.new b i k with⟨j,q⟩|q
   ·show n j q
   ·rw[e] at q;cases q
 ·have:=(c.out b).mp e;rw[bF (λz=>by rw[d b z] at this;cases this)];show this
 ·by_cases z:F2 b
  ·rw[il z] at e;cases e
  ·rw[bF z] at e;show(c.out b).mpr e
 ·by_cases z:F2 b
  ·show(c.tmp b (s2 b z)).2
  ·rw[bF z] at e;show c.new b j e
 ·by_cases f:b=a
  ·show⟨o',by rw[f];show ak⟩
  ·obtain⟨h,q⟩:=c.dom b o e;show⟨h,by rw[ag f];show q⟩
end
def ji(m:Str)(es:List Ow)(r:Ow)(ds:List D)(q:List KD):Option (D×List D):=
 if m="append" then(match q with|[x]=>if es.length<=ds.length/\bM r x=PD/\ds.length<100000 then PB (.non,ds++[x.2]) else PC|_=>PC)
 else if m="extend" then(match q with|[(k,.nd .lst ys)]=>if e7 (.own es r)=PD/\dF k ys=PD/\bE k=PF/\ds.length+ys.length<=100000 then PB (.non,ds++ys) else PC|_=>PC)
 else if m="pop" then(match q with
  |[]=>if e7 (.own es r)=PD then(ds[ds.length-1]?).map λd=>(d,ds.dropLast) else PC
  |[(_,.int z)]=>if e7 (.own es r)=PD/\-(2^63)<=z/\z<2^63 then(match seqIndex? z ds.length with|some j=>(ds[j]?).map λd=>(d,ds.eraseIdx j)|none=>PC) else PC
  |_=>PC)
 else PC
def Ey(m:Str):V->List V->Hp->VK->Prop:=
 if m="append" then sK else if m="extend" then sL else if m="pop" then(λx vs H Q=>GY x vs H Q\/wX x vs H Q) else λ_ _ _ _=>False
section
variable {K:Mu} {H:Hp} {g g0:Gh} {H0:Hp} {F F':Pr} {Z:Ro} {Y:L2.St} {i:Nat} {k:Ow} {es:List Ow} {r:Ow} {ds:List D} {up:D->D} {a:PL} {o:HO} {xs:List V}
theorem ip:g.give (λ_=>False) i=g:=by funext b;show bF λz=>z
theorem TrL.snoc2:∀{ds:List D} {es:List Ow} {r:Ow} {us:List V} {F F2:Pr} {d:D} {v:V},es.length<=ds.length->TrL K H S ds es r us F->Tr K H S d r v F2->(∀b,F b->¬F2 b)->TrL K H S (ds++[d]) es r (us++[v]) (λb=>F b\/F2 b)
 |[],es,r,us,F,F2,d,v,hl,h,t,dj=>by
  have:es=[]:=NG.mp (Nat.le_zero.mp hl);subst this;show TrL.snoc h t dj
 |e::ds,es,r,us,F,F2,d,v,hl,h,t,dj=>by
  unfold TrL at h;obtain⟨y,j,i,k,rfl,c,f,m,l⟩:=h;change TrL K H S (e::(ds++[d])) es r (y::(j++[v])) _;unfold TrL
  show⟨y,j++[v],i,λb=>k b\/F2 b,rfl,λb=>?_,λb g a=>?_,m,TrL.snoc2 (by cases es<;>simp at hl⊢;lia) l t λb z=>dj b ((c b).mpr (.inr z))⟩
  ·change F b\/F2 b↔i b\/k b\/F2 b;rw[c b,or_assoc]
  ·rcases a with a|a
   ·show f b g a
   ·show dj b ((c b).mpr (.inl g)) a
theorem TrL.ofFlat:∀{ds:List D} {es:List Ow} {xs:List V},(∀e∈es,e=.fz)->RpL K H S ds xs->TrL K H S ds es .fz xs λ_=>False
 |[],_,_,_,h=>by unfold TrL;show⟨h.nil_inv,λ_ z=>z⟩
 |d::ds,es,_,he,h=>by
  obtain⟨y,c,rfl,r,t⟩:=h.cons_inv;unfold TrL
  show⟨y,c,_,_,rfl,λb=>⟨.inl,λz=>z.elim id id⟩,λ_ z=>z.elim,?_,TrL.ofFlat (λe q=>he e (by cases es with|nil=>cases q|cons a r=>show .tail _ q)) t⟩
  let e:es.headD .fz=.fz:=by
   cases es with
   |nil=>rfl
   |cons a r=>show he a (.head _)
  rw[e];show Tr.fz r
theorem kZ{Q:VK}(h:ji m es r ds as=PB (d',ds'))(f:nK K H g F Z Y i k es r .lst ds up a o xs F')(ev:Evo g0 H0 g H F)(se:SE K (g.plus F) Z Y H)(N:VRL K H g F as vs F)(q:∀v g' H' O,Evo g0 H0 g' H' O->SE K (g'.plus O) (Z.set i (PB ⟨PF,k,up (.lst ds')⟩)) Y H'->VR1 K H' g' O .sh d' v O->Q v H'):Ey m (.ref a) vs H Q:=by
 let ho:o=.lst xs:=f.ok;subst ho;let P:∀b,F b->g b=PC:=λb z=>(ev.tmp b z).1;let mm:MuOk H (Sx g F):=λb z=>se.mu b ((al b).mpr z);let sx:∀b,Sg (g.plus F) b↔Sx g F b:=λb=>al b
 -- behind the change
 let u:∀{c:List V} {F2 F3:Pr} {v:V},(∀b,F2 b->F b)->(∀b,F3 b->F' b\/F2 b)->TrL K H (Sg (g.give F2 i)) ds' es r c F3->Rp K (upd H a (.lst c)) (Sg (g.give F2 i)) d' v->Q v (upd H a (.lst c)):=λ{c F2 F3 v} s2 s3 t E=>by
  show q v (g.give F2 i) _ (λ_=>False) (ev.give s2 f.own) ?_ ⟨λ_ z=>z,E.weak λb z=>z.elim id λz=>z.elim⟩;rw[aV λ_ z=>z];show f.put (.lst c) .lst ds' c F2 F3 rfl rfl (λ_ h=>by cases h) s2 s3 t
 let U:∀{F2:Pr},(∀b,F2 b->F b)->∀b o,H b=PB o->¬Sg (g.plus F) b->¬Sg (g.give F2 i) b:=λs2 b o _ n z=>n ((al b).mpr ((give_S.mp z).imp id (s2 b)))
 let p:e7 (.own es r)=PD->(∀e∈es,e=.fz)/\r=.fz/\RpL K H (Sg g) ds xs:=λS=>by
  obtain⟨A,w⟩:=sP S;show⟨A,w,?_⟩;have:=f.kids;rw[w] at this;show(this.flat A).2.weak λb z=>(al b).mpr (.inl z)
 let I:∀{d:D} {v:V} {c:List V},Rp K H (Sg g) d v->Rp K (upd H a (.lst c)) (Sg g) d v:=λr=>r.go λb o n e=>⟨by rw[ag (λz=>n (by rw[z,Sg,f.own];simp))];show e,n⟩;unfold ji at h;unfold Ey;split at h
 ·ext W;rw[if_pos W];split at h
  ·ext x;split at h
   ·ext s;cases h;obtain⟨y,ys,F1,ha,rfl,L,dj,r1,rfl,hn⟩:=N;let e1:∀b,F b↔F1 b:=λb=>⟨λz=>((L b).mp z).elim id λz=>absurd z (hn b),λz=>(L b).mpr (.inl z)⟩;obtain⟨F2,R,a2⟩:=VR1.fit s.2.1 mm (λb z=>P b ((e1 b).mpr z)) (λb z=>(e1 b).mpr z) r1;show⟨a,xs,y,rfl,rfl,f.at_,by rw[f.kids.len];show MG s.2.2 (aL (Mz _)),?_⟩;show u (F2:=F2) (F3:=λb=>F' b\/F2 b) (λb z=>(e1 b).mpr (R b z)) (λb z=>z) (TrL.snoc2 s.1 (f.kids.go (λ_ _ _ e=>e) (U λb z=>(e1 b).mpr (R b z))) (a2 _ λb z=>?_) λb z1 z2=>?_) (by unfold Rp;rfl)
    ·rcases give_S.mp z with z|z
     ·show .inr (.inl z)
     ·show .inr (.inr (.inl z))
    ·have:=f.lab b z1;rw[P b ((e1 b).mpr (R b z2))] at this;cases this
   ·cases h
  ·cases h
 ·ext W;rw[if_neg W];split at h
  ·ext C;rw[if_pos C];split at h
   ·ext kk ys;split at h
    ·ext s;cases h;obtain⟨A,w,l⟩:=p s.1;subst w;obtain⟨v,rfl,E⟩:=N.off.one;obtain⟨b,o,zs,rfl,gb,qb,rb⟩:=E.items s.2.1 (rz se P) kU;cases(show o=_ from qb);show⟨a,b,xs,zs,rfl,rfl,f.at_,gb,by rw[l.len,rb.len];show aL s.2.2.2,?_⟩;show u (F2:=λ_=>False) (F3:=λ_=>False) (λ_ z=>z.elim) (λ_ z=>z.elim) (by rw[ip];show .ofFlat A (l.append rb)) (by unfold Rp;rfl)
    ·cases h
   ·cases h
  ·ext C;rw[if_neg C];split at h
   ·ext X;rw[if_pos X];split at h
    ·split at h
     ·ext S;obtain⟨A,w,l⟩:=p S;subst w;obtain⟨rfl,_⟩:=N;obtain⟨dd,B,e⟩:=bz h;cases e;obtain⟨y,M,T⟩:=l.getD B;rw[<- l.len] at M;show .inl ⟨a,xs,y,rfl,rfl,f.at_,M,?_⟩
      show u (F2:=λ_=>False) (F3:=λ_=>False) (λ_ z=>z.elim) (λ_ z=>z.elim) (by
       rw[ip,O8,O8,l.len];show .ofFlat A (l.take _)) (by rw[ip];show I T)
     ·cases h
    ·ext kz z;split at h
     ·ext s;obtain⟨A,w,l⟩:=p s.1;subst w;obtain⟨v,rfl,E⟩:=N.off.one;obtain rfl:=E.rd.int;split at h
      ·ext j hj;obtain⟨dd,B,e⟩:=bz h;cases e;obtain⟨y,M,T⟩:=l.getD B;show .inr ⟨a,xs,z,j,y,rfl,rfl,f.at_,s.2.1,s.2.2,by rw[l.len];show hj,M,?_⟩;show u (F2:=λ_=>False) (F3:=λ_=>False) (λ_ z=>z.elim) (λ_ z=>z.elim) (by rw[ip];show .ofFlat A (l.erase _)) (by rw[ip];show I T)
      ·cases h
     ·cases h
    ·cases h
   ·cases h
end
noncomputable def mNames:List Str:=["append","extend","pop"]
def iq(m:Str)(i:Nat)(p:Option (Ow×D×(D->D)))(q:Option (List KD))(Z:Ro):MR:=match p,q with
 |some (.own es r,.nd .lst ds,up),PB q=>(match ji m es r ds q,Z[i]? with
  |some (d',ds'),PB (PB ⟨PF,k,_⟩)=>PB (.sh,d',Z.set i (PB ⟨PF,k,up (.lst ds')⟩))
  |_,_=>PC)
 |_,_=>PC
section
variable {X:Cx} {U:Tab} {c:Cz}
theorem rB(e:m∈mNames):∃id,Slot "list" m id/\typeOf (.builtin id)=pure (.type "method_descriptor")/\FX X id (Ey m):=by
 simp only[mNames,MD,MS,or_false] at e;rcases e with rfl|rfl|rfl
 ·show⟨_,PySem.F.slot_list_append,PySem.F.type_list_append,l8⟩
 ·show⟨_,PySem.F.slot_list_extend,PySem.F.type_list_extend,va⟩
 ·show⟨_,PySem.F.slot_list_pop,PySem.F.type_list_pop,?_⟩;intro a s Y H x f v d Q I b c h;rcases h with h|h
  ·show DD a s Y H x f v d Q I b c h
  ·show wY a s Y H x f v d Q I b c h
theorem Ez{ap cp:Pos}{f:Ro->Option (Ow×D×(D->D))}(L:m∈mNames)(I:lO X i f b)(t:ee b=PD)(y:(ap.endLine==cp.line)=PD):bA X (λZ=>iq m i (f Z) (PB []) Z) (.Call (.Attribute b m ap) [] [] cp):=by
 intro Z kd d S h g Y H Q s q;dsimp only[iq] at h;split at h
 ·ext U r W R as E A;cases A;split at h
  ·ext V C k T x n;cases h;obtain⟨B,s1,s2,w⟩:=rB (X:=X) L;show am (qL PySem.F.plainAttrs_list s1 s2 w aw (dH t) y) (I Z _ _ _ E g Y H _ s λP M v F k0 d0 j e1 e2 e3 u=>?_);rw[n] at e1;cases e1;let c:SE X.K (g.plus λ_=>False) Z Y M:=by rw[aV λ_ z=>z];show s.same j
   let l:g.plus (λ_=>False)=g:=aV λ_ z=>z;obtain⟨a,o,p,O,rfl,e⟩:=FP.node (F:=λ_=>False) c (λ_ z=>z.elim) n e2 (by rw[l];show e3) (by rw[l];show u) rfl;let N:o=.lst p:=e.ok;subst N;show⟨.inl ⟨rfl,p,.of e.at_⟩,kZ x e (cI j (λ_ z=>z.elim) λ_ z=>z.elim) c ⟨rfl,λ_ z=>z⟩ q⟩
  ·cases h
 ·cases h
theorem EA{b e:PK}{ap cp:Pos}{V:Ro->Option (Ow×D×(D->D))}{fa:Ro->Option KD}(hm:m∈mNames)(hp:lO X i V b)(ha:SndE X fa e)(M:ee b=PD)(E:ah e=PD)(hl:(ap.endLine==cp.line)=PD):bA X (λZ=>iq m i (V Z) (cG (fa Z) (PB [])) Z) (.Call (.Attribute b m ap) [e] [] cp):=by
 intro Z kd d Z' h g Y H Q p q;dsimp only[iq] at h;split at h
 ·ext es r ds up as ep t;split at h
  ·ext d' he k dd em O;cases h;obtain⟨hc,s1,s2,s3⟩:=rB (X:=X) hm;show am (B1 PySem.F.plainAttrs_list s1 s2 s3 aw (bw aw dQ (aj E)) (dH M) (xz E) hl (aj E) rfl) (hp Z _ _ _ ep g Y H _ p λU S v F k0 d0 j e1 e2 e3 A=>?_);rw[O] at e1;cases e1;unfold cG at t;split at t
   ·ext x hd ex B;cases B;cases t;obtain⟨kx,dx⟩:=x;let I:g.plus (λ_=>False)=g:=aV λ_ z=>z
    let sq:∃l,SqL X.K S (match U with|.ref a=>a|_=>0) l/\∃a,U=.ref a:=by
     obtain⟨a,o,l,F',rfl,u⟩:=FP.node (F:=λ_=>False) (by rw[I];show p.same j) (λ_ z=>z.elim) O e2 (by rw[I];show e3) (by rw[I];show A) rfl;let ho:o=.lst l:=u.ok;subst ho;show⟨l,.of u.at_,a,rfl⟩
    obtain⟨N,L,a0,rfl⟩:=sq;show⟨.inl ⟨rfl,N,L⟩,ha Z kx dx ex g Y S _ (p.same j) λy H2 c r2=>?_⟩;obtain⟨s,w,W⟩:=r2;let T:=(p.same j).plus c w W.dom;let f:∀b,s b->g b=PC:=λb z=>eL (p.same j).mu (w b z);let hf:=A.same c
    let f3:FP X.K H2 (Sg (g.plus s)) k v F (.own es r) (.lst ds) (.ref a0) up:=by
     obtain⟨F1,Fr,q1,q2,q3,q4⟩:=A;let C:∀b o,S b=PB o->¬Sg g b->¬Sg (g.plus s) b:=λb o e n z=>((al b).mp z).elim n λz=>by rw[w b z] at e;cases e
     show⟨F1,Fr,q1,q2,q3.go (λb o _ e=>c b o e) C,λH' S' P R t1 t2 t3 t4=>q4 H' S' P R (λb o M e=>t1 b o (M.imp (λn=>C b o e n) id) (c b o e)) (λb o e n=>t2 b o (c b o e) (C b o e n)) t3 t4⟩
    obtain⟨a,o,l,F',e4,u⟩:=FP.node (F:=s) T f O e2 (λb z=>ci (e3 b z) λz2=>by have:=e3 b z;rw[f b z2] at this;cases this) f3 rfl;cases e4;show kZ em u (cI (j.trans c) (λb z=>j.free (w b z)) f) T ⟨y,[],s,λ_=>False,rfl,λb=>⟨.inl,λz=>z.elim id λz=>z.elim⟩,λ_ _ z=>z,W,rfl,λ_ z=>z⟩ q
   ·cases t
  ·cases h
 ·cases h
def tP(m:Str)(i:Nat)(o:Option (Option Sl))(a:MR):MR:=match o,a with
 |some (PB ⟨PF,.own _ _,.nd .lst _⟩),PB (kd,d,Z1)=>iq m i (gA Z1[i]?) (PB [(dJ kd d,d)]) Z1
 |_,_=>PC
theorem EB(O:ao X U c){i:Nat}{e:PK}{ap cp:Pos}{C:Ro->MR}(hm:m∈mNames)(hc:f7 c x=PB i)(ha:bA X C e)(hb:ee (.Name x p)=PD)(s:ah e=PD)(hl:(ap.endLine==cp.line)=PD):bA X (λZ=>tP m i Z[i]? (C Z)) (.Call (.Attribute (.Name x p) m ap) [e] [] cp):=by
 intro Z kd d Z' h g Y H Q A q;dsimp only[tP] at h;split at h
 ·ext he r0 S P dx D ei L;obtain⟨V,s1,s2,M⟩:=rB (X:=X) hm;obtain⟨v,F,e1,e2,e3⟩:=A.slot i _ ei;let n:=e3;unfold Tr at n;obtain⟨a0,R,l,hf,rfl,B,t,_⟩:=n;let t:R=.lst l:=t;subst t;show am (B1 PySem.F.plainAttrs_list s1 s2 M aw (bw aw dQ (aj s)) (dH hb) (xz s) hl (aj s) rfl) (fX O hc p e1 ⟨.inl ⟨rfl,l,.of B⟩,ha Z P dx D L g Y H _ A λy B H1 I K f r1=>?_⟩);unfold iq at h;split at h
  ·ext es r ds up as u T;cases T;split at h
   ·ext d' hd k dd N j;cases h;have:gA D[i]?=PB (k,dd,id):=by rw[j];rfl
    rw[this] at u;cases u;obtain⟨w,Fi,E,w2,w3⟩:=f.slot i _ j;rw[e1] at E;cases E;obtain⟨a,o,xs,F',e4,W⟩:=FP.node (F:=I) f (λb z=>(K.tmp b z).1) j e1 w2 (.root w3) rfl;cases e4;show kZ N W K f ⟨y,[],I,λ_=>False,rfl,λb=>⟨.inl,λz=>z.elim id λz=>z.elim⟩,λ_ _ z=>z,r1.im f.mu,rfl,λ_ z=>z⟩ q
   ·cases h
  ·cases h
 ·cases h
end
abbrev jZ:Pr:=λ_=>False
def Mi(i:Nat)(Z:Ro):Ro:=match Z[i]? with
 |some (PB ⟨PF,.own _ _,.nd hd ds⟩)=>if hd.mu=PD then Z.set i (PB ⟨PF,.own [] .fz,.nd hd ds⟩) else Z
 |_=>Z
inductive BP where
 |nm (i:Nat)
 |ix (b:BP) (e:IE)
 |fld (b:BP) (f:Str)
noncomputable def BP.slot:BP->Nat
 |.nm i=>i
 |.ix b _=>b.slot
 |.fld b _=>b.slot
def rC(U:Nat->Option Fn):BP->Ro->Option (Ow×D×(D->D))
 |.nm i,Z=>gA Z[i]?
 |.ix b e,Z=>xY (rC U b Z) (aa U e Z)
 |.fld b f,Z=>tO f (rC U b Z)
inductive MI where
 |p (it:II)
inductive MT where
 |p (e:IE)
inductive MO where
 |non
mutual
inductive ME where
 |p (e:IE)
 |mv (i:Nat)
 |io (f:Nat) (as:MAs)
 |blt (x:Str) (as:tQ)
 |tup (k:Ow) (as:tQ)
 |bin (op:P2) (as:tQ)
 |ix (as:tQ)
 |comp (r:Ow) (cap:List (Option Nat)) (tg:IT) (it:MI) (ts:MO) (elt:ME)
 |mut (m:Str) (b:BP) (as:ge)
 |mutM (m:Str) (i:Nat) (a:ME)
inductive MAs where
 |nil
 |ref (i:Nat) (r:MAs)
 |val (a:ME) (r:MAs)
inductive tQ where
 |fin (a:ME) (r:ge)
 |cons (a:ME) (r:tQ)
end
noncomputable def oS(f:List KD->Option KD)(a:Option (List KD×Ro)):MR:=match a with
 |some (kds,Z)=>(match f kds with|some (kd,d)=>PB (kd,d,Z)|none=>PC)
 |none=>PC
noncomputable def Jq(a:Option KD)(Z:Ro):MR:=match a with|some (kd,d)=>PB (kd,d,Z)|none=>PC
noncomputable def Ky(a:Option Bool)(Z:Ro):Option (Bool×Ro):=match a with|some b=>PB (b,Z)|none=>PC
structure GG where
 fn:Nat->Option Fn
 fm:Nat->Option Fm
def nM(U:GG):MI->Ro->IR
 |.p it,Z=>Ku (gf U.fn it Z) Z
def k4(U:GG):MT->Ro->Option (Bool×Ro)
 |.p e,Z=>Ky (aO U.fn e Z) Z
noncomputable def A0(U:GG):MO->Ro->Option (Bool×Ro)
 |.non,Z=>PB (PD,Z)
mutual
def bp(U:GG):ME->Ro->MR
 |.p e,Z=>Jq (aa U.fn e Z) Z
 |.mv i,Z=>xU i Z
 |.io f as,Z=>AV (U.fm f) (fu U as Z)
 |.blt x as,Z=>oS (eK x) (cu U as Z)
 |.tup k as,Z=>oS (λkds=>i4 k (PB kds)) (cu U as Z)
 |.bin op as,Z=>oS (f2 (ed op)) (cu U as Z)
 |.ix as,Z=>oS (f2 Jp) (cu U as Z)
 |.comp r cap tg it ts elt,Z=>jg r (nM U it Z) (ik cap tg (A0 U ts) (bp U elt)) cap
 |.mut m b as,Z=>iq m b.slot (rC U.fn b Z) (aZ U.fn as Z) Z
 |.mutM m i a,Z=>tP m i Z[i]? (bp U a Z)
def fu(U:GG):MAs->Ro->Option (List RA×Ro)
 |.nil,Z=>PB ([],Z)
 |.ref i r,Z=>pv i Z[i]? (fu U r Z)
 |.val a r,Z=>xQ (bp U a Z) (fu U r)
def cu(U:GG):tQ->Ro->Option (List KD×Ro)
 |.fin a r,Z=>ii (bp U a Z) (aZ U.fn r)
 |.cons a r,Z=>jc (bp U a Z) (cu U r)
end
section
theorem xZ{U:GG}:bp U (.p e) Z=Jq (aa U.fn e Z) Z:=rfl
theorem EC:bp U (.mv i) Z=xU i Z:=rfl
theorem rD{U:GG}:bp U (.io f as) Z=AV (U.fm f) (fu U as Z):=rfl
theorem A1:bp U (.blt x as) Z=oS (eK x) (cu U as Z):=rfl
theorem A2:bp U (.tup k as) Z=oS (λkds=>i4 k (PB kds)) (cu U as Z):=rfl
theorem A3:bp U (.bin op as) Z=oS (f2 (ed op)) (cu U as Z):=rfl
theorem ED:bp U (.ix as) Z=oS (f2 Jp) (cu U as Z):=rfl
theorem pz:bp U (.comp r cap tg it ts elt) Z=jg r (nM U it Z) (ik cap tg (A0 U ts) (bp U elt)) cap:=rfl
theorem j0{U:GG}:bp U (.mut m b as) Z=iq m b.slot (rC U.fn b Z) (aZ U.fn as Z) Z:=rfl
theorem ya:bp U (.mutM m i a) Z=tP m i Z[i]? (bp U a Z):=rfl
end
def wg(f:PK->Option ME)(g:PK->Option IE):List PK->Option tQ
 |[]=>PC
 |e::es=>if ah e then(match dI g es with
  |some r=>(f e).map λa=>.fin a r
  |none=>(match f e,wg f g es with|some a,PB r=>PB (.cons a r)|_,_=>PC)) else PC
def Cf(c:Cz)(f:PK->Option ME):List Bool->List PK->Option MAs
 |_,[]=>PB .nil
 |true::fl,.Name x _::es=>(match f7 c x,Cf c f fl es with|some i,PB r=>PB (.ref i r)|_,_=>PC)
 |fl,e::es=>if ah e then(match f e,Cf c f fl.tail es with|some a,PB r=>PB (.val a r)|_,_=>PC) else PC
noncomputable def yb(it:Option II):Option MI:=match it with
 |some it=>PB (.p it)
 |none=>PC
def Cg(c:Cz)(f:PK->Option IE):Nat->PK->Option BP
 |0,_=>PC
 |n+1,e=>match e with
  |.Name x _=>(f7 c x).map .nm
  |.Subscript a b _=>if cZ b then(match Cg c f n a,f b with|some p,PB e=>PB (.ix p e)|_,_=>PC) else PC
  |.Attribute a z _=>if ee a then(Cg c f n a).map λp=>.fld p z else PC
  |_=>PC
def Jr(m:Str)(b:PK)(ap cp:Pos):Bool:=mNames.contains m&&ee b&&(ap.endLine==cp.line)
def Kz(fns:Nms)(c:Cz)(x:Str)(p:Pos):Option ME:=match fns.md p.line p.col with
 |some PD=>(f7 c x).map .mv
 |_=>PC
def KA(fns:Nms)(c:Cz)(q:PK->Option ME)(R:PK->Option IE)(x:Str)(O:List PK):Option ME:=match O with
 |[]=>PC
 |a::es=>if iY c.sc x&&(a::es).all ah then(match a8 x fns.fns with
  |some i=>(match fns.io i with
   |some B=>(Cf c q B (a::es)).map (.io i)
   |none=>PC)
  |none=>(wg q R (a::es)).map (.blt x)) else PC
def Js(c:Cz)(B:PK->Option ME)(q:PK->Option IE)(b:PK)(m:Str)(ap cp:Pos)(O:List PK):Option ME:=match O with
 |[]=>if Jr m b ap cp then(Cg c q 6 b).map λp=>.mut m p .nil else PC
 |e::es=>match es with
  |_::_=>PC
  |[]=>if Jr m b ap cp&&ah e then(match q e with
   |some R=>(Cg c q 6 b).map λp=>.mut m p (.cons R .nil)
   |none=>(match b with|.Name x _=>(match f7 c x,B e with|some i,PB a=>PB (.mutM m i a)|_,_=>PC)|_=>PC)) else PC
def KB(fns:Nms)(c:Cz)(q:PK->Option ME)(B:PK->Option IE)(g:PK)(O:List PK)(ks:List Keyword)(cp:Pos):Option ME:=match ks with
 |_::_=>PC
 |[]=>match g with
  |.Name x _=>KA fns c q B x O
  |.Attribute b m ap=>Js c q B b m ap cp O
  |_=>PC
noncomputable def nN:List PK->Option MO
 |[]=>PB .non
 |_=>PC
def vF(fns:Nms)(c:Cz)(B:Cz->PK->Option ME)(O:Cz->PK->Option IE)(elt:PK)(q:List Comprehension)(scope:P1)(p:Pos):Option ME:=match q with
 |[]=>PC
 |g::q=>match q with
  |_::_=>PC
  |[]=>if g.is_async=0 then(if dh g.iter&&bc c scope then(match nC ⟨f9 scope c.sc,ac scope,gE scope⟩ 4 g.target,yb (Eg c (O c) g.target g.iter),nN g.ifs,B ⟨f9 scope c.sc,ac scope,gE scope⟩ elt with
    |some t,PB it,PB ts,PB el=>PB (.comp ((fns.an p.line p.col).getD .fz) (aA c scope) t it ts el)|_,_,_,_=>PC) else PC) else PC
def cM(fns:Nms):Nat->Cz->PK->Option ME
 |0,_,_=>PC
 |n+1,c,e=>match cE fns n c e with
  |some q=>PB (.p q)
  |none=>match e with
   |.Name x p=>Kz fns c x p
   |.Call g as ks cp=>KB fns c (cM fns n c) (cE fns n c) g as ks cp
   |.Tuple es _ p=>(wg (cM fns n c) (cE fns n c) es).map (.tup (fns.kT p))
   |.BinOp a op b _=>(wg (cM fns n c) (cE fns n c) [a,b]).map (.bin op)
   |.Subscript a b _=>if cZ b then(wg (cM fns n c) (cE fns n c) [a,b]).map .ix else PC
   |.ListComp elt gs scope p=>vF fns c (cM fns n) (cE fns n) elt gs scope p
   |_=>PC
def KC(fns:Nms):Nat->Cz->PK->Option MT
 |0,_,_=>PC
 |n+1,c,e=>(cT fns n c e).map .p
def lP(fns:Nms)(U:GG):Str->Option (Mu->Sp):=λx=>(a8 x fns.fns).bind λi=>(U.fm i).map λB=>λK=>vD K B
abbrev a9(fns:Nms)(U:GG):Tab:=cP fns U.fn (lP fns U)
section
variable {X:Cx} {c:Cz} (fns:Nms) (U:GG)
theorem rE(O:ao X (cP fns U.fn fm) c){d:PK->Option IE}(g:∀e f,d e=PB f->SndE X (aa U.fn f) e)(h:yb (Eg c d tg iter)=PB a):mx X (nM U a) tg iter:=by
 unfold yb at h;split at h
 ·ext i b;cases h;show(tB fns U.fn O g b).m
 ·cases h
theorem j3(f:List KD->Option KD)(b:Ro->Option (List KD×Ro)):(λZ=>oS f (b Z))=λZ=>(b Z).bind λp=>(f p.1).map λq=>(q.1,q.2,p.2):=by
 funext Z;unfold oS
 cases b Z with
 |none=>rfl
 |some p=>
  obtain⟨a,c⟩:=p;dsimp only[Nl]
  cases f a with
  |none=>rfl
  |some q=>rfl
theorem rF(h:SndE X (aa U.fn ie) e):bA X (bp U (.p ie)) e:=by
 have:=h.m
 rw[show(λZ=>(aa U.fn ie Z).map λp=>(p.1,p.2,Z))=bp U (.p ie) by funext Z;rw[xZ];unfold Jq;cases aa U.fn ie Z<;>rfl] at this
 show this
theorem yc{f:PK->Option ME}{g:PK->Option IE}(c:∀e a,f e=PB a->bA X (bp U a) e)(k:∀e a,g e=PB a->SndE X (aa U.fn a) e):∀{es:List PK} {b:tQ},wg f g es=PB b->pt X (cu U b) es
 |[],b,h=>by cases h
 |e::es,b,h=>by
  unfold wg at h;split at h
  ·ext j;split at h
   ·ext r d;obtain⟨a,i,rfl⟩:=bz h;show Es j (c _ _ i) (fW U.fn k d).1
   ·split at h
    ·ext a r i d;cases h;show AU j (c _ _ i) (yc c k d)
    ·cases h
  ·cases h
theorem Ch{f:PK->Option ME}{g:PK->Option IE}(k:∀e a,f e=PB a->bA X (bp U a) e)(o:∀e a,g e=PB a->SndE X (aa U.fn a) e){a b:PK}(h:wg f g [a,b]=PB as):tM X (cu U as) a b:=by
 unfold wg at h;split at h
 ·ext s;split at h
  ·ext r c;obtain⟨i,m,rfl⟩:=bz h;unfold dI dI at c;split at c
   ·split at c
    ·ext j p l d;cases c;cases d
     rw[show cu U (.fin i (.cons j .nil))=λZ=>ii (bp U i Z) λZ=>cG (aa U.fn j Z) (PB []) by
      funext Z;simp only[cu,aZ]
      try rfl]
     show Ev (k _ _ m) (o _ _ l)
    ·cases c
   ·cases c
  ·split at h
   ·ext i r m c;cases h;unfold wg at c;split at c
    ·split at c
     ·ext p d;cases d;obtain⟨j,n,rfl⟩:=bz c
      rw[show cu U (.cons i (.fin j .nil))=λZ=>jc (bp U i Z) λZ=>ii (bp U j Z) λ_=>PB [] by
       funext Z;simp only[cu,aZ]
       try rfl]
      show AZ (k _ _ m) (k _ _ n)
     ·ext q;show absurd q (by simp[dI])
    ·cases c
   ·cases h
 ·cases h
theorem EE(O:ao X Ut c){f:PK->Option ME}(k:∀e a,f e=PB a->bA X (bp U a) e):∀{l:List Bool} {es:List PK} {b:MAs},Cf c f l es=PB b->gz X (fu U b) es
 |l,[],b,h=>by
  have:b=.nil:=by
   unfold Cf at h;cases h;rfl
  subst this;show Cc
 |l,e::es,b,h=>by
  let m:∀{d:List Bool} {b:MAs},(if ah e then(match f e,Cf c f d es with|some a,PB r=>PB (MAs.val a r)|_,_=>PC) else PC)=PB b->gz X (fu U b) (e::es):=λh=>by
   split at h
   ·ext o;split at h
    ·ext a r s j;cases h;show xR o (k _ _ s) (EE O k j)
    ·cases h
   ·cases h
  unfold Cf at h;split at h
  ·ext q;cases q
  ·ext d x p g q;cases q;split at h
   ·ext i r n j;cases h;show HL O n (EE O k j)
   ·cases h
  ·ext d t g q;cases q;show m h
theorem bG(a:Evo g H g1 H1 (λ_=>False))(b:Evo g1 H1 g2 H2 F2):Evo g H g2 H2 F2:=by
 let t:=a.trans (F1:=λ_=>False) (g2:=g2) (H2:=H2) (F2:=F2) (by rw[aV λ_ z=>z];show b);let e1:g2.minus (λ_=>False)=g2:=by funext c;show bI λz=>z
 rw[e1] at t;show t.drop λc z=>.inr z
theorem vG(O:ao X Ut c){f:PK->Option IE}(d:∀e a,f e=PB a->SndE X (aa U.fn a) e):∀(n:Nat) {e:PK} {b:BP},Cg c f n e=PB b->lO X b.slot (rC U.fn b) e
 |0,e,b,h=>by cases h
 |n+1,e,b,h=>by
  unfold Cg at h;split at h
  ·ext x p;obtain⟨i,l,rfl⟩:=bz h;show Ew O l p
  ·ext a o p;split at h
   ·ext m;split at h
    ·ext q r g k;cases h;show Ex O (vG O d n g) (d _ _ k) m
    ·cases h
   ·cases h
  ·ext a z p;split at h
   ·ext j;obtain⟨q,g,rfl⟩:=bz h;show HQ (dH j) (vG O d n g)
   ·cases h
  ·cases h
theorem yd{ap cp:Pos}(h:Jr m b ap cp=PD):m∈mNames/\ee b=PD/\(ap.endLine==cp.line)=PD:=by
 simp only[Jr,Mw] at h;show⟨by simpa using h.1.1,h.1.2,h.2⟩
theorem KF(O:ao X (a9 fns U) c)(h:Kz fns c x p=PB a):bA X (bp U a) (.Name x p):=by
 unfold Kz at h;split at h
 ·obtain⟨i,b,rfl⟩:=bz h;show HP O b p
 ·cases h
theorem HR(O:ao X (a9 fns U) c){f:PK->Option ME}(l:∀e a,f e=PB a->bA X (bp U a) e){es:List PK}{a:ME}(h:(Cf c f fl (a'::es)).map (.io i)=PB a)(h1:iY c.sc x=PD)(h2:ah a'=PD)(k:es.all ah=PD)(hi:a8 x fns.fns=PB i):bA X (bp U a) (.Call (.Name x p) (a'::es) [] pos):=by
 obtain⟨j,m,rfl⟩:=bz h
 first
  |(show offM λ_=>rfl)
  |(cases b:U.fm i with
   |none=>
    intro Z n d o g;rw[rD,b] at g;cases g
   |some B=>
    rw[show bp U (.io i j)=λZ=>AV (PB B) (fu U j Z) by funext Z;rw[rD,b]];show Kx O (B:=B) ?_ h1 h2 k (EE U O l m);change lP fns U x=_;unfold lP;rw[hi,Nl,b];rfl)
theorem KG(O:ao X (a9 fns U) c){d:PK->Option ME}{g:PK->Option IE}(f:∀e a,d e=PB a->bA X (bp U a) e)(o:∀e j,g e=PB j->SndE X (aa U.fn j) e){a:ME}(h:KA fns c d g x as=PB a):bA X (bp U a) (.Call (.Name x p) as [] pos):=by
 cases as with
 |nil=>cases h
 |cons n q=>
  dsimp only[KA] at h;split at h
  ·ext b;rw[Mw,NC,Mw] at b;split at h
   ·ext i l;split at h
    ·ext s k;show HR fns U O f h b.1 b.2.1 b.2.2 l
    ·cases h
   ·obtain⟨as,r,rfl⟩:=bz h;rw[show bp U (.blt x as)=λZ=>oS (eK x) (cu U as Z) by show funext λ_=>rfl,j3];show(pb O x n q p pos (dG O b.1) b.2.1 b.2.2).m (yc U f o r)
  ·cases h
theorem KH(O:ao X (a9 fns U) c){l:PK->Option ME}{n:PK->Option IE}(r:∀e a,l e=PB a->bA X (bp U a) e)(k:∀e o,n e=PB o->SndE X (aa U.fn o) e){a:ME}(h:Js c l n b m ap cp as=PB a):bA X (bp U a) (.Call (.Attribute b m ap) as [] cp):=by
 cases as with
 |nil=>
  dsimp only[Js] at h;split at h
  ·ext hk;obtain⟨g,f,d⟩:=yd hk;obtain⟨p,j,rfl⟩:=bz h;show Ez g (vG U O k _ j) f d
  ·cases h
 |cons e t=>cases t with
  |cons _ _=>cases h
  |nil=>
   dsimp only[Js] at h;split at h
   ·ext hk;rw[Mw] at hk;obtain⟨g,f,d⟩:=yd hk.1;split at h
    ·ext w q;obtain⟨p,j,rfl⟩:=bz h;show EA g (vG U O k _ j) (k _ _ q) f hk.2 d
    ·split at h
     ·split at h
      ·ext i v s u;cases h;show EB O g s (r _ _ u) f hk.2 d
      ·cases h
     ·cases h
   ·cases h
theorem KI(O:ao X (a9 fns U) c){b:PK->Option ME}{f:PK->Option IE}(d:∀e a,b e=PB a->bA X (bp U a) e)(i:∀e j,f e=PB j->SndE X (aa U.fn j) e){a:ME}(h:KB fns c b f g as ks pos=PB a):bA X (bp U a) (.Call g as ks pos):=by
 cases ks with
 |cons _ _=>cases h
 |nil=>
  dsimp only[KB] at h;split at h
  ·show KG fns U O d i h
  ·show KH fns U O d i h
  ·cases h
theorem tR{k:Cz->PK->Option ME}{l:Cz->PK->Option IE}{p:Pos}(h:vF fns c k l elt gs scope p=PB a):∃tg iter ifs t it b d,gs=[⟨tg,iter,ifs,0⟩]/\dh iter=PD/\bc c scope=PD/\nC ⟨f9 scope c.sc,ac scope,gE scope⟩ 4 tg=PB t/\yb (Eg c (l c) tg iter)=PB it/\nN ifs=PB b/\k ⟨f9 scope c.sc,ac scope,gE scope⟩ elt=PB d/\a=.comp ((fns.an p.line p.col).getD .fz) (aA c scope) t it b d:=by
 cases gs with
 |nil=>cases h
 |cons g gs=>cases gs with
  |cons _ _=>cases h
  |nil=>
   dsimp only[vF] at h;split at h
   ·ext n;split at h
    ·ext j;rw[Mw] at j;split at h
     ·ext t it b d m i f e;cases h
      cases g with
      |mk tg iter ifs o=>
       subst n;show⟨tg,iter,ifs,t,it,b,d,rfl,j.1,j.2,m,i,f,e,rfl⟩
     ·cases h
    ·cases h
   ·cases h
theorem pA(h:nN o=PB io):nJ X (A0 U io) o:=by
 cases o with
 |nil=>
  cases h;show Eu
 |cons _ _=>cases h
theorem k5:∀n:Nat,(∀X c,ao X (a9 fns U) c->∀e a,cM fns n c e=PB a->bA X (bp U a) e)/\(∀X c,ao X (a9 fns U) c->∀e t,KC fns n c e=PB t->tG X (k4 U t) e)
 |0=>⟨λX c O e a h=>by (cases(show(PC:Option ME)=PB a from h)),λX c O e a h=>by (cases(show(PC:Option MT)=PB a from h))⟩
 |n+1=>by
  let q:=(k5 n).1;let f:=cH (fm:=lP fns U) fns U.fn n;show⟨λX c O e a h=>?_,λX c O e a h=>?_⟩
  ·let l:=f.1 X c O;let u:=q X c O
   replace h:(match cE fns n c e with|some j=>PB (ME.p j)|none=>_)=PB a:=h
   split at h
   ·ext j A;cases h;show rF U (l _ _ A)
   ·cases e with
    |Name x p=>show KF fns U O h
    |Call g d T M=>show KI fns U O u l h
    |Tuple L k p=>
     obtain⟨d,o,rfl⟩:=bz (show(wg (cM fns n c) (cE fns n c) L).map (.tup (fns.kT p))=PB a from h);rw[show ∀k,bp U (.tup k d)=λZ=>oS (λE=>i4 k (PB E)) (cu U d Z) by intro k;show funext λ_=>rfl,j3];show n_tup.m (yc U u l o)
    |BinOp x v y p=>
     obtain⟨d,o,rfl⟩:=bz (show(wg (cM fns n c) (cE fns n c) [x,y]).map (.bin v)=PB a from h);rw[show ∀v,bp U (.bin v d)=λZ=>oS (f2 (ed v)) (cu U d Z) by intro k;show funext λ_=>rfl,j3];show n_bin.m (Ch U u l o)
    |Subscript x b p=>
     dsimp only at h;split at h
     ·ext Q;obtain⟨d,o,rfl⟩:=bz h;rw[show bp U (.ix d)=λZ=>oS (f2 Jp) (cu U d Z) by show funext λ_=>rfl,j3];show(Kw O Q).m (Ch U u l o)
     ·cases h
    |ListComp B R i p=>
     obtain⟨Y,K,N,t,W,V,el,rfl,z,r,S,F,w,D,rfl⟩:=tR fns (show vF fns c (cM fns n) (cE fns n) B R i p=PB a from h);let P:=c6 O r;show AY O r z (rE fns U O l F) S (λC s H I=>pA U w) (λC s H I=>q _ _ (P C s H I) _ _ D)
    |_=>cases h
  ·obtain⟨j,A,rfl⟩:=bz (show(cT fns n c e).map .p=PB a from h);have:=(f.2 X c O _ _ A).m
   rw[show(λZ=>(aO U.fn j Z).map λp=>(p,Z))=k4 U (.p j) by funext Z;change _=Ky _ Z;unfold Ky;cases aO U.fn j Z<;>rfl] at this
   show this
end
inductive Res where
 |nx (Z:Ro)|rt (kd:Kd) (d:D) (Z:Ro)|ct (Z:Ro)|bk (Z:Ro)
def PinOk(pn:List Nat)(Y Y':L2.St):Prop:=∀i∈pn,Y'[i]?=Y[i]?
def EndM(K:Mu)(pn:List Nat)(g:Gh)(H:Hp)(Y:L2.St)(q:iL):Res->Prop
 |.nx Z'=>∀Y' g' H',Evo g H g' H' jZ->SE K g' Z' Y' H'->PinOk pn Y Y'->q.nx Y' H'
 |.rt kd d Z'=>∀v Y' g' H' F,Evo g H g' H' F->SE K (g'.plus F) Z' Y' H'->PinOk pn Y Y'->VR1 K H' g' F kd d v F->q.rt v H'
 |.ct Z'=>∀Y' g' H',Evo g H g' H' jZ->SE K g' Z' Y' H'->PinOk pn Y Y'->q.ct Y' H'
 |.bk Z'=>∀Y' g' H',Evo g H g' H' jZ->SE K g' Z' Y' H'->PinOk pn Y Y'->q.bk Y' H'
def Cj(X:Cx)(st:List PV):TS:=λq Y H=>∀pins s,Inv X pins Y H s->PP (PQ X.prog X.w) X.A (execs st X.env) (SP X pins q) X.xe s
def Jt(X:Cx)(st:PV):TS:=λq Y H=>∀pins s,Inv X pins Y H s->PP (PQ X.prog X.w) X.A (exec st X.env) (SP X pins q) X.xe s
theorem fw:PSs X st (Cj X st):=λa s Y H D I h=>h a s I
theorem HS:PS X st (Jt X st):=λa s Y H D I h=>h a s I
theorem ck{t:TS}(p:PS X st t)(h:t Dn Y H):Jt X st Dn Y H:=λa s I=>p a s Y H Dn I h
theorem rG{t:TS}(p:PSs X st t)(h:t Dn Y H):Cj X st Dn Y H:=λa s I=>p a s Y H Dn I h
def dD(X:Cx)(pn:List Nat)(f:Ro->Option Res)(st:PV):Prop:=∀Z r,f Z=PB r->∀g Y H q,SE X.K g Z Y H->EndM X.K pn g H Y q r->Jt X st q Y H
def a5(X:Cx)(pn:List Nat)(f:Ro->Option Res)(st:List PV):Prop:=∀Z r,f Z=PB r->∀g Y H q,SE X.K g Z Y H->EndM X.K pn g H Y q r->Cj X st q Y H
section
variable {K:Mu} {H H' H1:Hp} {g g' g1:Gh} {F F1 F2:Pr} {Z:Ro} {Y Y' Y1:L2.St} {pn:List Nat}
theorem PinOk.refl:PinOk pn Y Y:=λ_ _=>rfl
theorem PinOk.trans(a:PinOk pn Y Y1)(b:PinOk pn Y1 Y2):PinOk pn Y Y2:=λi h=>(b i h).trans (a i h)
theorem PinOk.set(h:i∉pn):PinOk pn Y (Y.set i v):=λj a=>M6 λz=>h (by rw[z];show a)
theorem EndM.from(h:EndM K pn g H Y Dn r)(f:Evo g H g1 H1 jZ)(pk:PinOk pn Y Y1):EndM K pn g1 H1 Y1 Dn r:=by
 cases r with
 |nx i=>show λb a c e s p=>h b a c (bG f e) s (pk.trans p)
 |rt j d i=>show λv b a c F e s p r=>h v b a c F (bG f e) s (pk.trans p) r
 |ct i=>show λb a c e s p=>h b a c (bG f e) s (pk.trans p)
 |bk i=>show λb a c e s p=>h b a c (bG f e) s (pk.trans p)
theorem HU{S:Pr}(a:Evo g H g1 H1 F)(m:SE K (g1.plus F) Z Y H1)(c:∀b,F b↔F1 b\/F2 b)(r:∀b,F1 b->¬F2 b)(C:∀b,Sx g1 F b->S b)(t:Tr K H1 S d k v F1) :
  Evo g H (g1.give F1 i) H1 F2/\SE K ((g1.give F1 i).plus F2) (Z.set i (PB ⟨PF,k,d⟩)) (Y.set i (PB v)) H1/\∀b,Sx (g1.give F1 i) F2 b↔Sx g1 F b:=by
 let A:∀b,F1 b->g1 b=PC:=λb z=>(a.tmp b ((c b).mpr (.inl z))).1
 let s:∀b,Sx (g1.give F1 i) F2 b↔Sx g1 F b:=λb=>by
  unfold Sx;rw[c b];constructor
  ·rintro (z|z)
   ·show(give_S.mp z).imp id .inl
   ·show .inr (.inr z)
  ·rintro (z|z|z)
   ·show .inl (give_S.mpr (.inl z))
   ·show .inl (give_S.mpr (.inr z))
   ·show .inr z
 let u:∀b,Sg ((g1.give F1 i).plus F2) b↔Sx g1 F b:=λb=>(al b).trans (s b);let f:∀b,Sg ((g1.give F1 i).plus F2) b->Sg (g1.plus F) b:=λb z=>(al b).mpr ((u b).mp z);show⟨⟨a.keep,λb=>⟨λe=>?_,λe=>?_⟩,λb j e=>?_,λb z=>?_,a.dom⟩,⟨λj D e=>?_,λb z=>m.mu b (f b z),by simp[m.len]⟩,s⟩
 ·have:=(a.out b).mp e;rw[bF (λz=>by rw[A b z] at this;cases this)];show this
 ·by_cases z:F1 b
  ·rw[il z] at e;cases e
  ·rw[bF z] at e;show(a.out b).mpr e
 ·by_cases z:F1 b
  ·show(a.tmp b ((c b).mpr (.inl z))).2
  ·rw[bF z] at e;show a.new b j e
 ·have:=a.tmp b ((c b).mpr (.inr z));show⟨by rw[bF λy=>r b y z];show this.1,this.2⟩
 ·by_cases x:j=i
  ·subst x
   let h:j<Z.length:=by
    have:=(Mv.mp e).1;simpa using this
   rw[M9 h] at e;cases e;show⟨v,F1,M9 (by rw[<- m.len];show h),λb z=>ci (il z) (r b z),t.go (λ_ _ _ e=>e) λb o _ n z=>n (C b ((u b).mp z))⟩
  ·rw[M6 (Ne.symm x)] at e⊢;obtain⟨w,B,e1,e2,e3⟩:=m.slot j D e;show⟨w,B,e1,λb z=>?_,e3.go (λ_ _ _ e=>e) λb o _ n z=>n (f b z)⟩;let q:=bL (e2 b z);let p:¬F b:=λl=>by rw[(a.tmp b l).1] at q;cases q
   show ci ?_ λl=>p ((c b).mpr (.inr l));rw[bF λl=>p ((c b).mpr (.inl l))];show q
noncomputable def F9:Kd->Ow
 |.fr k=>k
 |_=>.fz
theorem VR1.tr(a:bE kd=PF)(h:VR1 K H g F kd d v F):Tr K H (Sx g F) d (F9 kd) v F:=by
 cases kd with
 |sh=>
  let e:F=jZ:=by funext b;show propext ⟨h.1 b,λz=>z.elim⟩
  rw[show F9 .sh=.fz from rfl];have:=Tr.fz h.2;rw[e] at this⊢;show this
 |fr k=>show h
 |bo i k=>cases a
end
noncomputable def fx:PK->Bool
 |.ListComp ..|.SetComp ..|.DictComp ..=>PF
 |_=>PD
theorem j4(h:fx e=PD):swapsWith e t n env=pure PF:=by
 cases e<;>first|rfl|cases h
noncomputable def yf:PK->Bool
 |.Tuple ..=>PF
 |_=>PD
theorem k6:swapsWithSole [.Tuple es k tp] e n env=pure PF:=by
 cases e<;>rfl
theorem pB(h:yf e=PD):swappedStores [.Tuple es k tp] e env=pure PC:=by
 cases e<;>first|rfl|cases h
def fy(pn:List Nat)(i:Nat)(a:MR):Option Res:=match a with
 |some (kd,d,Z1)=>if bE (dJ kd d)=PD\/i∈pn then PC else PB (.nx (Z1.set i (PB ⟨PF,F9 (dJ kd d),d⟩)))
 |none=>PC
section
variable {X:Cx} {U:Tab} {c:Cz} {pn:List Nat}
theorem ir{g g1:Gh}{Y:L2.St}{e:iL}(h:fy pn i (PB (kd,d,Z1))=PB r)(q:EndM K pn g H Y e r)(l:Evo g H g1 H1 F)(j:SE K (g1.plus F) Z1 Y H1)(m:VR1 K H1 g1 F kd d v F):e.nx (Y.set i (PB v)) H1:=by
 unfold fy at h;dsimp only at h;split at h
 ·cases h
 ·ext a;cases h;rw[not_or] at a;let c:=m.im j.mu;obtain⟨k,f,_⟩:=HU l j (λb=>⟨.inl,λz=>z.elim id λz=>z.elim⟩) (λ_ _ z=>z) (λ_ z=>z) (c.tr (by simpa using a.1));show q _ _ H1 k (by rw[aV λ_ z=>z] at f;show f) (PinOk.set a.2)
theorem tT(O:ao X U c){f:Ro->MR}(n:lK c x=PD)(hi:a8 x c.N=PB i)(m:fx e=PD)(o:bA X f e):dD X pn (λZ=>fy pn i (f Z)) (.Assign [.Name x p] e pos):=by
 intro Z r h g Y H y k q;let l:=iZ O n
 cases a:f Z with
 |none=>dsimp only at h;rw[a] at h;cases h
 |some w=>
  obtain⟨s,d,j⟩:=w;dsimp only at h;rw[a] at h;show ck (qt (by rw[O.N];show O.nd) (by rw[O.N];show aT hi) l.1 aw (j4 m) l.2) (o Z s d j a g Y H _ k λv z A F t b u=>ir h q t b u)
def EF:List Nat->wy
 |[]=>Dj
 |i::is=>wz (gR i) (EF is)
noncomputable def rH:List Nat->List D->List Ow->Ow->Ro->Ro
 |i::is,d::ds,es,r,Z=>rH is ds es.tail r (Z.set i (PB ⟨PF,es.headD r,d⟩))
 |_,_,_,_,Z=>Z
theorem k7{H H1:Hp}{Q:L2.St->Hp->Prop}:∀{a:List Nat} {ds:List D} {es:List Ow} {r:Ow} {vs:List V} {g1:Gh} {F S:Pr} {Z:Ro} {Y:L2.St},a.length=ds.length->(∀i∈a,i∉pn)->Evo g H g1 H1 F->SE K (g1.plus F) Z Y H1->(∀b,Sx g1 F b->S b)->TrL K H1 S ds es r vs F->PinOk pn Y0 Y->
  (∀f c,Evo g H f H1 jZ->SE K f (rH a ds es r Z) c H1->PinOk pn Y0 c->Q c H1)->EF a vs Y H1 Q
 |[],[],es,r,vs,g1,F,S,Z,Y,hl,hp,ev,se,hS,t,pk,q=>by
  unfold TrL at t;let e:F=jZ:=by funext b;show propext ⟨t.2 b,λz=>z.elim⟩
  subst e;show⟨t.1,q g1 Y ev (by rw[aV λ_ z=>z] at se;show se) pk⟩
 |[],_::_,_,_,_,_,_,_,_,_,hl,_,_,_,_,_,_,_=>by simp at hl
 |_::_,[],_,_,_,_,_,_,_,_,hl,_,_,_,_,_,_,_=>by simp at hl
 |i::a,d::ds,es,r,vs,g1,F,S,Z,Y,hl,hp,ev,se,hS,t,pk,q=>by
  unfold TrL at t;obtain⟨y,n,w,v,rfl,h,k,p,s⟩:=t;obtain⟨m,o,l⟩:=HU ev se h k hS p;show⟨y,n,rfl,k7 (by simpa using hl) (λj u=>hp j (MK _ u)) m o (λb z=>hS b ((l b).mp z)) s (pk.trans (PinOk.set (hp i MX))) q⟩
def jk(q:Kd)(ds:List D):Option (List Ow×Ow):=match q with
 |.sh=>PB ([],.fz)
 |.fr (.own es r)=>PB (es,r)
 |.fr .fz=>PB ([],.fz)
 |.bo _ _=>if Ak ds=PD then PB ([],.fz) else PC
theorem VR1.parts{H:Hp}{F:Pr}(w:hd=.tup\/hd=.lst)(hk:jk kd ds=PB (es,r))(m:MuOk H (Sx g F))(h:VR1 K H g F kd (.nd hd ds) v F):∃a o xs F',v=.ref a/\H a=PB o/\cW K o hd xs/\(∀b,F' b->F b)/\TrL K H (Sx g F) ds es r xs F':=by
 let l:∀{d:List D} {xs:List V},RpL K H (Sx g F) d xs->TrL K H (Sx g F) d [] .fz xs jZ:=λh=>.ofFlat (λe z=>by cases z) h
 cases kd with
 |sh=>
  cases hk;obtain⟨a,o,xs,rfl,_,f,c,j⟩:=h.2.nd;show⟨a,o,xs,jZ,rfl,f,c,λ_ z=>z.elim,l j⟩
 |fr k=>
  cases k with
  |fz=>
   cases hk;obtain⟨a,o,xs,rfl,_,f,c,j⟩:=(Tr.fz_inv h).2.nd;show⟨a,o,xs,jZ,rfl,f,c,λ_ z=>z.elim,l j⟩
  |own q u=>
   cases hk;let n:Tr K H (Sx g F) (.nd hd ds) (.own es r) v F:=h;unfold Tr at n;obtain⟨a,o,xs,F',rfl,f,c,_,_,p,t⟩:=n;show⟨a,o,xs,F',rfl,f,c,λb z=>(p b).mpr (.inr z),t⟩
 |bo i k=>
  simp only[jk] at hk;split at hk
  ·ext s;cases hk;obtain⟨a,o,xs,rfl,_,f,c,j⟩:=h.rd.nd;show⟨a,o,xs,jZ,rfl,f,c,λ_ z=>z.elim,l (j.im m s)⟩
  ·cases hk
def A4(pn:List Nat)(q:List Nat)(a:MR):Option Res:=match a with
 |some (kd,.nd .tup ds,Z1)=>(match jk kd ds with|some (es,r)=>if q.length=ds.length/\(q.all λi=>!pn.contains i)=PD then PB (.nx (rH q ds es r Z1)) else PC|none=>PC)
 |some (kd,.nd .lst ds,Z1)=>(match jk kd ds with|some (es,r)=>if q.length=ds.length/\(q.all λi=>!pn.contains i)=PD then PB (.nx (rH q ds es r Z1)) else PC|none=>PC)
 |_=>PC
def yg(c:Cz):List PK->Option (List Nat)
 |[]=>PB []
 |.Name x _::r=>if lK c x then(match a8 x c.N,yg c r with|some i,PB is=>PB (i::is)|_,_=>PC) else PC
 |_=>PC
theorem tU(O:ao X U c):∀{es:List PK} {a:List Nat},yg c es=PB a->Dh X es (EF a)/\(P5 es X.env).length=a.length/\(P5 es X.env).findIdx? (·.1)=PC
 |[],a,h=>by cases h;show⟨sA,rfl,rfl⟩
 |e::es,a,h=>by
  cases e with
  |Name x p=>
   unfold yg at h;split at h
   ·ext g;split at h
    ·ext i j k b;cases h;let l:=iZ O g;obtain⟨d,m,f⟩:=tU O b;show⟨oE (sw (by rw[O.N];show O.nd) (by rw[O.N];show aT k) l.1 l.2) d,?_,?_⟩
     ·change(P5 es X.env).length+1=_;rw[m];rfl
     ·change((PF,assign (.Name x p) X.env)::P5 es X.env).findIdx? (·.1)=PC;rw[Ng];simp[f]
    ·cases h
   ·cases h
  |_=>cases h
theorem HV(O:ao X U c){f:Ro->MR}(K:bA X f e)(h1:yg c es=PB is)(I:yf e=PD):dD X pn (λZ=>A4 pn is (f Z)) (.Assign [.Tuple es k tp] e pos):=by
 intro Z r h g Y H W L q;obtain⟨E,m,D⟩:=tU O h1
 let n:(is.all λi=>!pn.contains i)=PD->∀i∈is,i∉pn:=λh i P=>by
  have:=NI.mp h i P;simpa using this
 dsimp only[A4] at h;split at h
 ·ext V S T y;split at h
  ·ext R N hk;split at h
   ·ext j;cases h;show ck (qr aw (wB O.calm E m D) k6 (pB I)) (K Z _ _ _ y g Y H _ L λv M C F p d w=>?_);obtain⟨a,o,A,Q,rfl,u,B,l,t⟩:=w.parts (.inl rfl) hk λb z=>d.mu b ((al b).mpr z);cases(B);show⟨a,A,rfl,.of u,by rw[t.len,j.1],k7 j.1 (n j.2) (p.drop l) (d.drop l λb z=>(p.tmp b z).1) (λb z=>z.imp id (l b)) t PinOk.refl λm x e2 s2 s=>q x m C e2 s2 s⟩
   ·cases h
  ·cases h
 ·ext V S T y;split at h
  ·ext R N hk;split at h
   ·ext j;cases h;show ck (qr aw (DM O.calm E m D) k6 (pB I)) (K Z _ _ _ y g Y H _ L λv M C F p d w=>?_);obtain⟨a,o,A,Q,rfl,u,B,l,t⟩:=w.parts (.inr rfl) hk λb z=>d.mu b ((al b).mpr z);cases(B);show⟨a,A,rfl,.of u,by rw[t.len,j.1],k7 j.1 (n j.2) (p.drop l) (d.drop l λb z=>(p.tmp b z).1) (λb z=>z.imp id (l b)) t PinOk.refl λm x e2 s2 s=>q x m C e2 s2 s⟩
   ·cases h
  ·cases h
 ·cases h
def rJ(a:MR):Option Res:=match a with
 |some (kd,d,Z1)=>if bE (dJ kd d)=PD then PC else PB (.rt (dJ kd d) d Z1)
 |none=>PC
theorem Ck{f:Ro->MR}(j:bA X f e):dD X pn (λZ=>rJ (f Z)) (.Return (PB e) pos):=by
 intro Z r h g Y H n c q;dsimp only[rJ] at h;split at h
 ·ext p d o b;split at h
  ·cases h
  ·cases h;show ck (Dg aw) (j Z _ _ _ b g Y H _ c λv i m F k a l=>q v Y i m F k a PinOk.refl (l.im a.mu))
 ·cases h
noncomputable def vH(a:MR):Option Res:=match a with
 |some (_,_,Z1)=>PB (.nx Z1)
 |none=>PC
theorem yh{f:Ro->MR}(l:fx e=PD)(m:bA X f e):dD X pn (λZ=>vH (f Z)) (.Expr e pos):=by
 intro Z r h g Y H o j q;dsimp only[vH] at h;split at h
 ·ext s d p i;cases h;show ck (zQ aw (j4 l)) (m Z _ _ _ i g Y H _ j λv k n F c a t=>q Y k n (c.drop λ_ z=>z.elim) ?_ PinOk.refl);have:=a.drop (F2:=jZ) (λ_ z=>z.elim) λb z=>(c.tmp b z).1;rw[aV λ_ z=>z] at this;show this
 ·cases h
theorem HW:dD X pn (λZ=>PB (.nx Z)) (.Expr (.Constant (.str x) j pos) pos'):=by
 intro Z r h g Y H b a q;cases h;show ck Df (q Y g H (.refl g H) a PinOk.refl)
noncomputable def A5(t:Option (Bool×Ro))(a b:Ro->Option Res):Option Res:=match t with
 |some (PD,Z)=>a Z
 |some (PF,Z)=>b Z
 |none=>PC
theorem HX{ft:Ro->Option (Bool×Ro)}(m:tG X ft t)(o:a5 X pn fa a)(n:a5 X pn fb b):dD X pn (λZ=>A5 (ft Z) fa fb) (.If t a b pos):=by
 intro Z r h g Y H k l q;dsimp only[A5] at h;split at h
 ·ext d e;show ck (BZ iS fw fw) (m Z _ _ e g Y H _ l λf j i c=>ve (o d r h f Y j k c (q.from i PinOk.refl)))
 ·ext d e;show ck (BZ iS fw fw) (m Z _ _ e g Y H _ l λf j i c=>vd (n d r h f Y j k c (q.from i PinOk.refl)))
 ·cases h
noncomputable def cm(a:Option Res)(b:Ro->Option Res):Option Res:=match a with
 |some (.nx Z)=>b Z
 |r=>r
theorem HY:a5 X pn (λZ=>PB (.nx Z)) []:=by
 intro Z r h g Y H b a q;cases h;show rG zN (q Y g H (.refl g H) a PinOk.refl)
theorem EG{f fb:Ro->Option Res}(c:dD X pn f s)(j:a5 X pn fb st):a5 X pn (λZ=>cm (f Z) fb) (s::st):=by
 intro Z r h g Y H k b q;dsimp only at h;show rG (wx HS fw) ?_
 cases e:f Z with
 |none=>rw[e] at h;cases h
 |some l=>
  rw[e] at h
  cases l with
  |nx a=>show c Z _ e g Y H _ b λo m p n i pk=>j a r h m o p k i (q.from n pk)
  |rt t d a=>cases h;show c Z _ e g Y H _ b q
  |ct a=>cases h;show c Z _ e g Y H _ b q
  |bk a=>cases h;show c Z _ e g Y H _ b q
theorem EH:dD X pn (λZ=>PB (.nx Z)) (.Pass pos):=by
 intro Z r h g Y H b a q;cases h;show ck zP (q Y g H (.refl g H) a PinOk.refl)
end
open Classical in
noncomputable def Gh.lend(g:Gh)(bs:List Nat):Gh:=λb=>if ∃i∈bs,g b=PB (PB i) then PB PC else g b
open Classical in
noncomputable def Gh.unlend(g' g:Gh)(bs:List Nat):Gh:=λb=>if ∃i∈bs,g b=PB (PB i) then g b else g' b
noncomputable def clrN:List Nat->Ro->Ro
 |[],Z=>Z
 |i::is,Z=>clrN is (Z.set i PC)
noncomputable def zG:List Nat->Ro->Ro->Ro
 |[],_,Z'=>Z'
 |i::is,Z,Z'=>zG is Z (Z'.set i (Z[i]?).join)
section
variable {K:Mu} {H H' H1:Hp} {g g' g1:Gh} {F:Pr} {Z Z':Ro} {Y Y':L2.St} {bs:List Nat}
theorem rK(b:PL):Sg (g.lend bs) b↔Sg g b:=by
 unfold Gh.lend Sg;dsimp only;by_cases h:∃i∈bs,g b=PB (PB i)
 ·rw[if_pos h];obtain⟨i,_,e⟩:=h;simp[e]
 ·rw[if_neg h]
theorem j5(h:g.lend bs b=PB (PB j)):g b=PB (PB j)/\j∉bs:=by
 unfold Gh.lend at h;split at h
 ·cases h
 ·ext n;show⟨h,λz=>n ⟨j,z,h⟩⟩
theorem tV(hi:i∈bs)(h:g b=PB (PB i)):g.lend bs b=PB PC:=by
 unfold Gh.lend;rw[if_pos ⟨i,hi,h⟩]
theorem j6(h:∀i∈bs,g b≠PB (PB i)):g.lend bs b=g b:=by
 unfold Gh.lend;rw[if_neg λ⟨i,a,e⟩=>h i a e]
theorem k8:∀{a:List Nat} {Z:Ro},(clrN a Z).length=Z.length
 |[],_=>rfl
 |i::a,Z=>by unfold clrN;rw[k8];simp
theorem jl:∀{c:List Nat} {Z:Ro} {j:Nat} {d:Sl},(clrN c Z)[j]?=PB (PB d)->Z[j]?=PB (PB d)/\j∉c
 |[],_,_,_,h=>⟨h,by simp⟩
 |i::c,Z,j,d,h=>by
  unfold clrN at h;obtain⟨b,f⟩:=jl h
  let a:j≠i:=λz=>by
   subst z
   let e:j<Z.length:=by
    have:=(Mv.mp b).1;simpa using this
   rw[M9 e] at b;cases b
  rw[M6 (Ne.symm a)] at b;show⟨b,by simp[a,f]⟩
theorem tW:∀{a:List Nat} {Z Z':Ro},(zG a Z Z').length=Z'.length
 |[],_,_=>rfl
 |i::a,Z,Z'=>by unfold zG;rw[tW];simp
theorem pC:∀{c:List Nat} {Z Z':Ro} {j:Nat} {b:Sl},(zG c Z Z')[j]?=PB (PB b)->(j∈c/\Z[j]?=PB (PB b))\/(j∉c/\Z'[j]?=PB (PB b))
 |[],_,_,_,_,h=>.inr ⟨by simp,h⟩
 |i::c,Z,Z',j,b,h=>by
  unfold zG at h;rcases pC h with⟨e,a⟩|⟨e,a⟩
  ·show .inl ⟨MK _ e,a⟩
  ·by_cases d:j=i
   ·subst d
    let f:j<Z'.length:=by
     have:=(Mv.mp a).1;simpa using this
    rw[M9 f] at a;show .inl ⟨MX,?_⟩;have:(Z[j]?).join=PB b:=by simpa using a
    cases q:Z[j]? with
    |none=>rw[q] at this;cases this
    |some o=>rw[q] at this;have:o=PB b:=this;rw[this]
   ·rw[M6 (Ne.symm d)] at a;show .inr ⟨by simp[d,e],a⟩
theorem SE.clrN(h:SE K g Z Y H)(a:List Nat):SE K g (clrN a Z) Y H:=⟨λi b e=>h.slot i b (jl e).1,h.mu,by rw[k8];show h.len⟩
theorem SE.lend(h:SE K g Z Y H)(bs:List Nat):SE K (g.lend bs) (J.clrN bs Z) Y H:=by
 show⟨λi l e=>?_,λb z=>h.mu b ((rK b).mp z),by rw[k8];show h.len⟩;obtain⟨e1,c⟩:=jl e;obtain⟨v,F,a,f,d⟩:=h.slot i l e1;show⟨v,F,a,λb z=>?_,d.go (λ_ _ _ e=>e) λb o _ n z=>n ((rK b).mp z)⟩;have:=f b z;rw[j6 λj k e=>by rw[this] at e;cases e;show c k];show this
theorem my(h:∃i∈bs,g b=PB (PB i)):g'.unlend g bs b=g b:=by unfold Gh.unlend;rw[if_pos h]
theorem c9(h:¬∃i∈bs,g b=PB (PB i)):g'.unlend g bs b=g' b:=by unfold Gh.unlend;rw[if_neg h]
theorem jG(h:SE K g Z Y H)(a:Evo (g.lend bs) H g' H' F)(s:SE K (g'.plus F) Z' Y' H')(pk:PinOk bs Y Y') :
  Evo g H (g'.unlend g bs) H' F/\SE K ((g'.unlend g bs).plus F) (zG bs Z Z') Y' H'/\∀b,Sg (g'.unlend g bs) b->Sg g' b:=by
 let A:∀b,(∃i∈bs,g b=PB (PB i))->g' b=PB PC:=λb ⟨i,k,e⟩=>(a.out b).mp (tV k e)
 let d:∀b,Sg (g'.unlend g bs) b->Sg g' b:=λb z=>by
  by_cases q:∃i∈bs,g b=PB (PB i)
  ·rw[Sg,A b q];simp
  ·rw[Sg,c9 q] at z;show z
 let c:∀b,Sg ((g'.unlend g bs).plus F) b->Sg (g'.plus F) b:=λb z=>(al b).mpr (((al b).mp z).imp (d b) id);let l:∀b,F b->¬∃i∈bs,g b=PB (PB i):=λb z q=>by have:=A b q;rw[(a.tmp b z).1] at this;cases this
 show⟨⟨λb o n e=>a.keep b o (λi q=>n i (j5 q).1) e,λb=>⟨λe=>?_,λe=>?_⟩,λb j e=>?_,λb z=>?_,a.dom⟩,⟨λj C e=>?_,λb z=>s.mu b (c b z),by rw[tW];show s.len⟩,d⟩
 ·let n:¬∃i∈bs,g b=PB (PB i):=λ⟨i,_,q⟩=>by rw[e] at q;cases q
  rw[c9 n];show(a.out b).mp (by rw[j6 λi k q=>n ⟨i,k,q⟩];show e)
 ·by_cases q:∃i∈bs,g b=PB (PB i)
  ·rw[my q] at e;show e
  ·rw[c9 q] at e;have:=(a.out b).mpr e;rw[j6 λi k z=>q ⟨i,k,z⟩] at this;show this
 ·by_cases q:∃i∈bs,g b=PB (PB i)
  ·obtain⟨i,_,q⟩:=q;show .inl ⟨i,q⟩
  ·rw[c9 q] at e;show(a.new b j e).imp (λ⟨j,z⟩=>⟨j,(j5 z).1⟩) id
 ·let t:=a.tmp b z;show⟨by rw[c9 (l b z)];show t.1,t.2.imp (λ⟨j,z⟩=>⟨j,(j5 z).1⟩) id⟩
 ·rcases pC e with⟨r,e1⟩|⟨r,e1⟩
  ·obtain⟨v,w,u,p,y⟩:=h.slot j C e1;show⟨v,w,by rw[pk j r];show u,λb z=>?_,y.go (λb o f e=>a.keep b o (λi q=>?_) e) λb o e n z=>?_⟩
   ·have:∃i∈bs,g b=PB (PB i):=⟨j,r,p b z⟩;show ci (by rw[my this];show p b z) λm=>l b m this
   ·obtain⟨q,E⟩:=j5 q;rcases f with f|f
    ·show f (by rw[Sg,q];simp)
    ·rw[p b f] at q;cases q;show E r
   ·let B:g b=PC:=by
     cases q:g b with
     |none=>rfl
     |some x=>show absurd (by rw[Sg,q];simp) n
    obtain⟨D,f2⟩:=a.froz e (by rw[j6 λi _ z=>by rw[B] at z;cases z];show B);rcases(al b).mp z with z|z
    ·show d b z D
    ·show f2 z
  ·obtain⟨v,w,u,p,y⟩:=s.slot j C e1;show⟨v,w,u,λb z=>?_,y.go (λ_ _ _ e=>e) λb o _ n z=>n (c b z)⟩;let q:=bL (p b z);show ci ?_ λm=>by rw[(a.tmp b m).1] at q;cases q
   rw[c9 λm=>by rw[A b m] at q;cases q];show q
theorem VR1.unlend(f:bE kd=PF)(a:∀b,Sg g b->Sg g' b)(h:VR1 K H g' F kd d v F):VR1 K H g F kd d v F:=by
 let c:∀b,Sx g F b->Sx g' F b:=λb z=>z.imp (a b) id
 cases kd with
 |sh=>show⟨h.1,h.2.weak c⟩
 |fr k=>show Tr.go (λ_ _ _ e=>e) (λb o _ n z=>n (c b z)) h
 |bo i k=>cases f
theorem A6{s:Src}(m:s.P K g H1)(c:s.from g H bs)(h:Evo (g.lend bs) H1 gi Hi jZ):s.P K gi Hi:=by
 let f:∀b o,H1 b=PB o->¬Sg g b->Hi b=PB o/\¬Sg gi b:=λb o e n=>by
  let k:g.lend bs b=PC:=by
   cases q:g.lend bs b with
   |none=>rfl
   |some x=>show absurd ((rK b).mp (by rw[Sg,q];simp)) n
  obtain⟨l,f2⟩:=h.froz e k;show⟨h.keep b o (λi q=>by rw[k] at q;cases q) e,λz=>z l⟩
 show Src.mono (g:=g) (H:=H1) (λb o e n=>(f b o e n).2) (λb o d e=>?_) (λa e=>c.from_t e) m;rcases d with d|d
 ·show(f b o e d).1
 ·rcases c.from_l d with c|⟨i,p,c⟩
  ·show(f b o e (by rw[Sg,c];simp)).1
  ·show h.keep b o (λj q=>by rw[tV p c] at q;cases q) e
end
def gB(pn fg:List Nat)(tg:IT)(fb:Ro->Option Res):List D->Ro->Option Res
 |[],Z=>PB (.nx (clrN fg Z))
 |d::ds,Z=>match pc tg d with
  |some ps=>if(ps.all λp=>!pn.contains p.1)=PD then(match fb (setAll ps (clrN fg Z)) with
   |some (.nx Z2)=>gB pn fg tg fb ds Z2
   |some (.ct Z2)=>gB pn fg tg fb ds Z2
   |some (.bk Z2)=>PB (.nx (clrN fg Z2))
   |some (.rt k d Z2)=>PB (.rt k d Z2)
   |none=>PC) else PC
  |none=>PC
def Cm(J:It)(g:TG)(tb:TS):TS:=λD Y H1=>∃W:Nat->Nat->L2.St->Hp->Prop,(∃m,W 0 m Y H1)/\∀i m Y H,W i m Y H->
 (J.stop i H/\D.nx Y H)\/(J.go i H/\∃N:L2.St->Hp->Prop,(∀Y' H',N Y' H'->∃q,q<m/\W (i+1) q Y' H')/\∀x H',J.yld i H x H'->g x Y H' λB H2=>tb { D with nx:=N,ct:=N,bk:=D.nx } B H2)
section
variable {X:Cx} {U:Tab} {c:Cz} {pn:List Nat}
theorem yj{ps:List (Nat×D)}(h:RpP K H S ps vs)(c:(ps.all λp=>!pn.contains p.1)=PD):PinOk pn Y (hV vs Y):=λi b=>jY h λp a z=>by
 have:=NI.mp c p a;rw[z] at this;simp[b] at this
theorem pF(O:ao X U c)(W:nC c n tg=PB t)(S:a5 X pn fb body){D:Src}{g g0:Gh}(se:SE X.K (g.lend bs) Z Y H1)(jt:i6 X.K jj D ds)(sp:D.P X.K g H1)(sf:D.from g H bs)(h:gB pn fg t fb ds Z=PB r)(q:EndM X.K pn (g.lend bs) H1 Y Dn r) :
  Cm jj (wG X tg) (Cj X body) Dn Y H1:=by
 show⟨λi m F L=>m=ds.length-i/\i<=ds.length/\∃E o,SE X.K o E F L/\Evo (g.lend bs) H1 o L jZ/\PinOk pn Y F/\gB pn fg t fb (ds.drop i) E=PB r,
  ⟨ds.length,by simp,M3 _,Z,g.lend bs,se,.refl _ _,PinOk.refl,by simpa using h⟩,?_⟩
 rintro i m F L ⟨rfl,hc,E,o,C,B,M,a⟩
 obtain⟨j1,j2⟩:=jt i o L (A6 sp sf B) C.mu;by_cases w:i<ds.length
 ·let hd:ds[i]?=PB ds[i]:=MF w;obtain⟨go,yl⟩:=j2 _ hd;rw[Ni w] at a;unfold gB at a;split at a
  ·ext ps ha;split at a
   ·ext T;show .inr ⟨go,λV p=>ds.length-(i+1)=ds.length-(i+1)/\i+1<=ds.length/\∃E o,SE X.K o E V p/\Evo (g.lend bs) H1 o p jZ/\PinOk pn Y V/\gB pn fg t fb (ds.drop (i+1)) E=PB r,λV p hN=>⟨ds.length-(i+1),by lia,hN⟩,λx p hy=>?_⟩;obtain⟨s2,rx⟩:=yl x p hy;show sN (ph O n W) (hZq ha rx λvs Q=>?_);let y:=SE.setAll Q ((C.clrN fg).same s2);let s:Evo (g.lend bs) H1 o p jZ:=bG B (cI s2 (λ_ z=>z.elim) λ_ z=>z.elim);let u:=M.trans (yj (Y:=F) Q T);split at a
    ·ext R b;show S _ _ b o _ p _ y λN A I l j f=>⟨rfl,w,R,A,j,bG s l,u.trans f,a⟩
    ·ext R b;show S _ _ b o _ p _ y λN A I l j f=>⟨rfl,w,R,A,j,bG s l,u.trans f,a⟩
    ·ext R b;cases a;show S _ _ b o _ p _ y λN A I l j f=>q N A I (bG s l) (j.clrN fg) (u.trans f)
    ·ext k d R b;cases a;show S _ _ b o _ p _ y λv N A I F4 l j f r4=>q v N A I F4 (bG s l) j (u.trans f) r4
    ·cases a
   ·cases a
  ·cases a
 ·let e:i=ds.length:=by lia
  subst e;rw[OS] at a;cases a;show .inl ⟨j1 (Mz _),q F o L B (C.clrN fg) M⟩
def yk(bs:List Nat)(Z:Ro)(r:Option Res):Option Res:=match r with
 |some (.nx Z')=>PB (.nx (zG bs Z Z'))
 |some (.rt k d Z')=>if bE k=PD then PC else PB (.rt k d (zG bs Z Z'))
 |_=>PC
def pG(pn fg:List Nat)(tg:IT)(fb:List Nat->Ro->Option Res)(it:IR):Option Res:=match it with
 |some (bs,ds,Z)=>yk bs Z (gB (pn++bs) fg tg (fb (pn++bs)) ds (clrN bs Z))
 |none=>PC
theorem PinOk.left{a b:List Nat}(h:PinOk (a++b) Y Y'):PinOk a Y Y':=λi c=>h i (N7 _ c)
theorem PinOk.right{a b:List Nat}(h:PinOk (a++b) Y Y'):PinOk b Y Y':=λi c=>h i (MJ _ c)
theorem ym(O:ao X U c)(S:PassesOwn (PQ X.prog X.w) X.A X.env X.xe){y:Ro->IR}{fb:List Nat->Ro->Option Res}(e:nC c n tg=PB t)(hi:mx X y tg iter)(x:∀pn,a5 X pn (fb pn) body)(T:dh iter=PD) :
  dD X pn (λZ=>pG pn fg t fb (y Z)) (.For tg iter body [] pos):=by
 intro Z r h g Y H P R q;dsimp only[pG] at h;split at h
 ·ext s N V p;show ck (Dp S O.calm vi vj fw (c8 T)) (hi Z s N V p g Y H _ R λQ ha E W i a B sp D=>?_);let C:=q.from i PinOk.refl;change Cm Q (wG X tg) (Cj X body) P Y W;unfold yk at h;split at h
  ·ext L l;cases h;show pF (g0:=E) O e (x _) (a.lend s) B sp D l λm I o u b pk=>?_;obtain⟨j,f,_⟩:=jG (F:=jZ) a u (by rw[aV λ_ z=>z];show b) pk.right;show C m _ o j (by rw[aV λ_ z=>z] at f;show f) pk.left
  ·ext k d L l;split at h
   ·cases h
   ·ext hk;cases h;show pF (g0:=E) O e (x _) (a.lend s) B sp D l λv m I o F u b pk M=>?_;obtain⟨j,f,K⟩:=jG a u b pk.right;show C v m _ o F j f pk.left (M.unlend (by simpa using hk) K)
  ·cases h
 ·cases h
def jO(fg:List Nat)(ft:Ro->Option (Bool×Ro))(fb:Ro->Option Res):Nat->Ro->Option Res
 |0,_=>PC
 |n+1,Z=>match ft (clrN fg Z) with
  |some (PF,Z1)=>PB (.nx Z1)
  |some (PD,Z1)=>(match fb Z1 with
   |some (.nx Z2)=>jO fg ft fb n Z2
   |some (.ct Z2)=>jO fg ft fb n Z2
   |some (.bk Z2)=>PB (.nx (clrN fg Z2))
   |some (.rt k d Z2)=>PB (.rt k d Z2)
   |none=>PC)
  |none=>PC
theorem HZ(V:PassesOwn (PQ X.prog X.w) X.A X.env X.xe)(P:tG X ft t)(L:a5 X pn fb body)(n:Nat):dD X pn (jO fg ft fb n) (.While t body [] pos):=by
 intro Z r h g Y H Dn U q;show ck (wC V iS fw) ⟨λm o E=>∃M B,SE X.K B M o E/\Evo g H B E jZ/\PinOk pn Y o/\jO fg ft fb m M=PB r,⟨n,Z,g,U,.refl g H,PinOk.refl,h⟩,?_⟩
 rintro m o E ⟨M,B,I,C,l,j⟩
 cases m with
 |zero=>cases j
 |succ m=>
  unfold jO at j;split at j
  ·ext T e;cases j
   show P _ _ _ e B o E _ (I.clrN fg) λy z u i=>by
    rw[if_neg (by decide)];show q o y z (bG C u) i l
  ·ext T e;show P _ _ _ e B o E _ (I.clrN fg) λy z u i=>?_;rw[if_pos rfl];show⟨λO N=>∃s Q,SE X.K Q s O N/\Evo g H Q N jZ/\PinOk pn Y O/\jO fg ft fb m s=PB r,λO N S=>⟨m,NH m,S⟩,?_⟩;let p:=bG C u;split at j
   ·ext s a;show L _ _ a y o z _ i λF x D f c b=>⟨s,x,c,bG p f,l.trans b,j⟩
   ·ext s a;show L _ _ a y o z _ i λF x D f c b=>⟨s,x,c,bG p f,l.trans b,j⟩
   ·ext s a;cases j;show L _ _ a y o z _ i λF x D f c b=>q F x D (bG p f) (c.clrN fg) (l.trans b)
   ·ext k d s a;cases j;show L _ _ a y o z _ i λv F x D W f c b R=>q v F x D W (bG p f) c (l.trans b) R
   ·cases j
  ·cases j
noncomputable def KJ(op:P2)(i j:Int):Option D:=match op with
 |.Add=>PB (.int (i+j))
 |.BitAnd=>PB (.int (Builtin.bitAnd i j))
 |.BitOr=>PB (.int (Builtin.bitOr i j))
 |_=>PC
def A7(op:P2)(x y:D):Option D:=match x with
 |.int i=>(match y with|.int j=>KJ op i j|_=>PC)
 |_=>PC
noncomputable def jH:D->Option V
 |.int i=>PB (.int i)
 |.str x=>PB (.str x)
 |.bl b=>PB (.bl b)
 |.non=>PB .non
 |_=>PC
theorem yn(h:jH d=PB v):Rp K H S d v:=by
 cases d<;>first|(cases h;unfold Rp;rfl)|cases h
theorem pH(h:jH d=PB v)(r:Rp K H S d u):u=v:=by
 cases d<;>first|(cases h;unfold Rp at r;show r)|cases h
theorem vI(h:A7 op x y=PB z):∃u v w,jH x=PB u/\jH y=PB v/\jH z=PB w:=by
 cases x with
 |int i=>cases y with
  |int j=>cases op<;>first|(cases h;show⟨_,_,_,rfl,rfl,rfl⟩)|(obtain⟨_,e⟩:=vm h;cases e;show⟨_,_,_,rfl,rfl,rfl⟩)|cases h
  |_=>cases h
 |_=>cases h
def KL(op:P2):V->V->Hp->VK->Prop:=λx y H Q=>∃dx B q u,jH dx=PB x/\jH B=PB y/\A7 op dx B=PB q/\jH q=PB u/\Q u H
theorem EI(op:P2):LH X op (KL op):=by
 intro a s Y H x y v u Q I e g h;obtain⟨l,k,m,w,c,f,b,d,q⟩:=h
 cases l with
 |int i=>cases k with
  |int j=>cases op with
   |Add=>cases b;cases c;cases f;cases d;show zU a s Y H _ _ v u Q I e g ⟨_,_,rfl,rfl,q⟩
   |BitAnd=>cases b;cases c;cases f;cases d;show zV a s Y H _ _ v u Q I e g ⟨_,_,rfl,rfl,q⟩
   |BitOr=>cases b;cases c;cases f;cases d;show Dy a s Y H _ _ v u Q I e g ⟨_,_,rfl,rfl,q⟩
   |_=>cases b
  |_=>cases b
 |_=>cases b
def A8(pn:List Nat)(i:Nat)(op:P2)(o:Option (Option Sl))(a:MR):Option Res:=match o,a with
 |some (PB s),PB (ky,dy,Z1)=>if i∈pn then PC else(match A7 op s.d dy with|some dz=>PB (.nx (Z1.set i (PB (F6 dz))))|none=>PC)
 |_,_=>PC
theorem H9(O:ao X U c){f:Ro->MR}{i:Nat}(A:lK c x=PD)(hi:a8 x c.N=PB i)(B:bA X f e):dD X pn (λZ=>A8 pn i op Z[i]? (f Z)) (.AugAssign (.Name x p) op e pos):=by
 intro Z r h g Y H T n q;let l:=iZ O A;dsimp only[A8] at h;split at h
 ·ext sl W P V I E;split at h
  ·cases h
  ·ext K;split at h
   ·ext t s;cases h;obtain⟨R,S,u,m,k,o⟩:=vI s;obtain⟨v,Q,e1,e2,e3⟩:=n.slot i _ I;let L:=pH m e3.rd;subst L;show ck (Dl (i:=i) (by rw[O.N];show O.nd) (by rw[O.N];show aT hi) l.1 aw (EI op) l.2) ⟨_,e1,B Z _ _ _ E g Y H _ n λy w M F a j D=>?_⟩;let C:=pH k D.rd;subst C;show⟨_,_,t,u,m,k,s,o,?_⟩;let d:=j.drop (F2:=jZ) (λ_ z=>z.elim) λb z=>(a.tmp b z).1;rw[aV λ_ z=>z] at d;show q _ w M (a.drop λ_ z=>z.elim) (d.set i (yn o)) (PinOk.set K)
   ·cases h
 ·cases h
end
theorem mz(b:List PV)(env:Env):∀a:List PV,execs (a++b) env=(execs a env >>= λf=>match f with|.next=>execs b env|f=>pure f)
 |[]=>by
  change execs b env=((pure .next:Sem Flow) >>= _)
  rw[pure_bind]
 |st::a=>by
  change execs (st::(a++b)) env=_;rw[execs_cons,execs_cons,bind_assoc];congr 1;funext f
  cases f with
  |next=>show mz b env a
  |_=>rw[pure_bind]
theorem A9{a b:List PV}{Y:L2.St}(h:Cj X a { Dn with nx:=λY H=>Cj X b Dn Y H } Y H):Cj X (a++b) Dn Y H:=by
 intro c s I;rw[mz];show PJ (aY (h c s I) λf s1 q=>?_)
 cases f with
 |next=>
  obtain⟨e,g,d,q⟩:=q;show q c s1 d
 |_=>show PN q
theorem nO{κ:Type}[DecidableEq κ]:∀(kvs:List (κ×V)) (k:κ) (j:Nat),(kvs.map (·.1)).Nodup->kvs.findIdx? (λkv=>decide (kv.1=k))=PB j->(kvs.map (λkv=>if kv.1=k then(kv.1,v) else kv)).map (·.2)=(kvs.map (·.2)).set j v
 |[],k,j,_,h=>by simp at h
 |(a,b)::r,k,j,hn,h=>by
  rw[Ng] at h;rw[MQ,MW] at hn;by_cases e:a=k
  ·subst e;simp at h;subst h
   have:r.map (λkv=>if kv.1=a then(kv.1,v) else kv)=r:=by
    conv=>rhs;rw[<- List.map_id r]
    show NZ λkv hk=>?_;rw[if_neg λz=>hn.1 (Nd.mpr ⟨kv,hk,z⟩)];rfl
   simp[this]
  ·simp only[e,decide_false] at h;obtain⟨d,c,rfl⟩:=bz (by simpa using h);have:=nO (v:=v) r k d hn.2 c;simp only[MQ,e,if_false,OH,this]
theorem tX{κ:Type}[DecidableEq κ](kvs:List (κ×V))(k:κ):(kvs.map (λkv=>if kv.1=k then(kv.1,v) else kv)).map (·.1)=kvs.map (·.1):=by
 rw[MV];show NZ λkv _=>?_;simp only[Function.comp]
 split<;>rfl
theorem cL{κ:Type}[DecidableEq κ]{kvs:List (κ×V)}{k:κ}:(kvs.any λkv=>decide (kv.1=k))=(kvs.findIdx? λkv=>decide (kv.1=k)).isSome:=by
 rw[List.findIdx?_isSome]
theorem jm{α β:Type}{f:α->β}:∀{l:List α},(l.map f).Nodup->l.Nodup
 |[],_=>.nil
 |a::l,h=>by
  rw[MQ,MW] at h;show MW.mpr ⟨λz=>h.1 (List.mem_map_of_mem z),jm h.2⟩
theorem tY{H:Hp}{ks:List DK}{xs:List V}{k:DK}{y v:V}(g:H a=PB o)(q:cW K o (.dic t ks) xs)(h:iV d=PB k)(r:Rp K H S d y)(hk:g8 t k=PD)(w:xs.length<sizeLine) :
  (∀j,aR ks k=PB j->ks.Nodup->∃n:Nat->HO,DPut H a y v (λe=>upd H a (n e))/\∀e,(∀xs,n e≠.tup xs)/\cW K (n e) (.dic t ks) (xs.set j v))/\(aR ks k=PC->∃n:Nat->HO,DPut H a y v (λe=>upd H a (n e))/\∀e,(∀xs,n e≠.tup xs)/\cW K (n e) (.dic t (ks++[k])) (xs++[v])):=by
 rcases q with⟨rfl,c,rfl,e1,e2⟩|⟨m,rfl,c,C,rfl,e1,e2⟩
 ·rcases nk h r with⟨x,rfl,rfl⟩|⟨i,b,rfl,rfl,B⟩
  ·let e3:aR ks (.inl x)=c.findIdx? λz=>decide (z.1=x):=by
    unfold aR;rw[e1,N4];congr 1;funext p;simp[Sum.inl.injEq]
   let A:c.length<sizeLine:=by rw[e2] at w;simpa using w
   let u:=DPut.k (k:=x) (v:=v) g A;show⟨λj f s=>⟨λ_=>.dK (cC c x v),u,λ_=>⟨(λxs h=>by cases h),.inl ⟨rfl,_,rfl,?_,?_⟩⟩⟩,λf=>⟨λ_=>.dK (cC c x v),u,λ_=>⟨(λxs h=>by cases h),.inl ⟨rfl,_,rfl,?_,?_⟩⟩⟩⟩
   ·rw[e3] at f;unfold cC;rw[cL,f,if_pos (by rfl),e1];have:=congrArg (Oq (Sum.inl:aN->DK)) (tX (v:=v) c x);simp only[MV] at this⊢;show this.symm
   ·rw[e3] at f;unfold cC;rw[cL,f,if_pos (by rfl),e2]
    let l:(c.map (·.1)).Nodup:=by
     rw[e1] at s;have:c.map (λp=>(Sum.inl p.1:DK))=(c.map (·.1)).map Sum.inl:=by rw[MV];rfl
     rw[this] at s;show jm s
    show(nO c x j l f).symm
   ·rw[e3] at f;unfold cC;rw[cL,f,if_neg (by simp),e1];simp
   ·rw[e3] at f;unfold cC;rw[cL,f,if_neg (by simp),e2];simp
  ·cases hk
 ·rcases nk h r with⟨x,rfl,rfl⟩|⟨i,b,rfl,rfl,B⟩
  ·cases hk
  ·let e3:aR ks (.inr i)=c.findIdx? λz=>decide (z.1=i):=by
    unfold aR;rw[e1,N4];congr 1;funext p;simp[Sum.inr.injEq]
   let A:c.length<sizeLine:=by rw[e2] at w;simpa using w
   let u:=DPut.t (k:=i) (v:=v) g (B m hk) A;show⟨λj f s=>⟨λe=>.dT m e (cC c i v),u,λe=>⟨(λxs h=>by cases h),.inr ⟨m,rfl,_,e,rfl,?_,?_⟩⟩⟩,λf=>⟨λe=>.dT m e (cC c i v),u,λe=>⟨(λxs h=>by cases h),.inr ⟨m,rfl,_,e,rfl,?_,?_⟩⟩⟩⟩
   ·rw[e3] at f;unfold cC;rw[cL,f,if_pos (by rfl),e1];have:=congrArg (Oq (Sum.inr:List (aN ⊕ List aN)->DK)) (tX (v:=v) c i);simp only[MV] at this⊢;show this.symm
   ·rw[e3] at f;unfold cC;rw[cL,f,if_pos (by rfl),e2]
    let l:(c.map (·.1)).Nodup:=by
     rw[e1] at s;have:c.map (λp=>(Sum.inr p.1:DK))=(c.map (·.1)).map Sum.inr:=by rw[MV];rfl
     rw[this] at s;show jm s
    show(nO c i j l f).symm
   ·rw[e3] at f;unfold cC;rw[cL,f,if_neg (by simp),e1];simp
   ·rw[e3] at f;unfold cC;rw[cL,f,if_neg (by simp),e2];simp
section
variable {K:Mu} {H:Hp} {S:Pr}
theorem TrL.setAt:∀{ds:List D} {es:List Ow} {r:Ow} {xs:List V} {F F2:Pr} {j:Nat} {d:D} {v:V},TrL K H S ds es r xs F->j<ds.length->Tr K H S d (es.getD j r) v F2->(∀b,F b->¬F2 b)->∃F3:Pr,(∀b,F3 b->F b\/F2 b)/\TrL K H S (ds.set j d) es r (xs.set j v) F3
 |[],_,_,_,_,_,_,_,_,_,hj,_,_=>by simp at hj
 |d0::ds,es,r,xs,F,F2,0,d,v,h,hj,t,dj=>by
  unfold TrL at h;obtain⟨y,f,i,F3,rfl,a,c,n,g⟩:=h;show⟨λb=>F2 b\/F3 b,λb z=>z.elim .inr λz=>.inl ((a b).mpr (.inr z)),?_⟩;change TrL K H S (d::ds) es r (v::f) _;unfold TrL
  show⟨v,f,F2,F3,rfl,λb=>Iff.rfl,λb e k=>dj b ((a b).mpr (.inr k)) e,by cases es<;>simpa using t,g⟩
 |d0::ds,es,r,xs,F,F2,j+1,d,v,h,hj,t,dj=>by
  unfold TrL at h;obtain⟨y,f,i,F3,rfl,a,c,n,g⟩:=h
  let p:es.tail.getD j r=es.getD (j+1) r:=by cases es<;>simp
  obtain⟨m,l,o⟩:=TrL.setAt (j:=j) (d:=d) (v:=v) (F2:=F2) g (by simpa using hj) (by rw[p];show t) λb z=>dj b ((a b).mpr (.inr z));show⟨λb=>i b\/m b,λb z=>z.elim (λz=>.inl ((a b).mpr (.inl z))) λz=>(l b z).imp (λz=>(a b).mpr (.inr z)) id,?_⟩;change TrL K H S (d0::ds.set j d) es r (y::f.set j v) _;unfold TrL;show⟨y,_,i,m,rfl,λb=>Iff.rfl,λb e k=>?_,n,o⟩;rcases l b k with z|z
  ·show c b e z
  ·show dj b ((a b).mpr (.inl e)) z
end
def nP(es:List Ow)(r:Ow)(hd:Hd)(ds:List D)(dx:D)(x:KD):Option (Hd×List D):=match hd with
 |.lst=>(match dx with|.int z=>(match jL ds.length z with|some j=>if bM (es.getD j r) x=PD then PB (.lst,ds.set j x.2) else PC|none=>PC)|_=>PC)
 |.dic t ks=>(match iV dx with
  |some k=>if g8 t k=PD/\ds.length<100000 then(match aR ks k with
   |some j=>if bM (es.getD j r) x=PD/\ks.Nodup/\j<ds.length then PB (.dic t ks,ds.set j x.2) else PC
   |none=>if es.length<=ds.length/\bM r x=PD then PB (.dic t (ks++[k]),ds++[x.2]) else PC) else PC
  |none=>PC)
 |_=>PC
def yo(i:Nat)(q:Ro->Option (Ow×D×(D->D)))(fk:Ro->Option KD)(a:MR):Option Res:=match a with
 |some (kd,d,Z1)=>(match q Z1,fk Z1,Z1[i]? with
  |some (.own es r,.nd hd ds,up),PB (_,dx),PB (PB ⟨PF,k,_⟩)=>(match nP es r hd ds dx (dJ kd d,d) with
   |some (hd',ds')=>PB (.nx (Z1.set i (PB ⟨PF,k,up (.nd hd' ds')⟩)))
   |none=>PC)
  |_,_,_=>PC)
 |none=>PC
theorem vJ:swapsWithSole [.Subscript o b sp] e n env=pure PF:=by
 cases e<;>rfl
theorem Ba:swappedStores [.Subscript o b sp] e env=pure PC:=by
 cases e<;>rfl
section
variable {X:Cx} {U:Tab} {c:Cz} {pn:List Nat}
theorem yp{H H0:Hp}{g g0:Gh}{Z:Ro}{up:D->D}{xs:List V}{x:KD}{O:iL}(c:nP es r hd ds dx x=PB (hd',ds'))(f:nK K H g F Z Y i k es r hd ds up a o xs F')(ev:Evo g0 H0 g H F)(se:SE K (g.plus F) Z Y H)(vr:VR1 K H g F x.1 x.2 v F)(ry:Rp K H S dx y)(q:EndM K pn g0 H0 Y O (.nx (Z.set i (PB ⟨PF,k,up (.nd hd' ds')⟩)))) :
  (∃z j,hd=.lst/\y=.int z/\o=.lst xs/\H a=PB o/\jL xs.length z=PB j/\O.nx Y (upd H a (.lst (xs.set j v))))\/((∃t C,hd=.dic t C)/\∃F4,DPut H a y v F4/\∀e,O.nx Y (F4 e)):=by
 let W:∀b,F b->g b=PC:=λb z=>(ev.tmp b z).1;let mm:MuOk H (Sx g F):=λb z=>se.mu b ((al b).mpr z);let w:∀(d:Pr),(∀b,d b->F b)->∀b,Sg (g.give d i) b->Sg (g.plus F) b:=λd s2 b z=>(al b).mpr ((give_S.mp z).imp id (s2 b))
 let A:∀{T:Ow},bM T x=PD->∃d:Pr,(∀b,d b->F b)/\Tr K H (Sg (g.give d i)) x.2 T v d/\(∀b,F' b->¬d b):=λ{T} m=>by
  obtain⟨d,X,a2⟩:=VR1.fit (p:=x) m mm W (λb z=>z) vr;show⟨d,X,a2 _ λb z=>?_,λb z1 z2=>by have:=f.lab b z1;rw[W b (X b z2)] at this;cases this⟩;show(give_S.mp z).elim (λz=>.inr (.inl z)) λz=>.inr (.inr (.inl z))
 let B:∀{u:HO} {d:Pr},(∀b,d b->F b)->SE K (g.give d i) (Z.set i (PB ⟨PF,k,up (.nd hd' ds')⟩)) Y (upd H a u)->O.nx Y (upd H a u):=λ{u d} s2 s=>q Y _ _ (ev.give s2 f.own) s PinOk.refl;unfold nP at c;split at c
 ·split at c
  ·ext z;split at c
   ·ext j E;split at c
    ·ext m;cases c;obtain⟨d,b1,b2,N⟩:=A m;let ho:o=.lst xs:=f.ok;let l:=f.kids.len;let U:j<ds.length:=(m4 E).2.1;obtain⟨R,Q,L⟩:=(f.kids.go (S':=Sg (g.give d i)) (λ_ _ _ e=>e) λb o _ n z=>n (w d b1 b z)).setAt U b2 N;show .inl ⟨z,j,rfl,ry.int,ho,f.at_,by rw[l];show E,B b1 (f.put (.lst (xs.set j v)) .lst _ _ d R rfl rfl (λxs h=>by cases h) b1 Q L)⟩
    ·cases c
   ·cases c
  ·cases c
 ·ext t C;split at c
  ·ext kk hk;split at c
   ·ext M;let l:=f.kids.len;obtain⟨p1,p2⟩:=tY (v:=v) f.at_ f.ok hk ry M.1 (by rw[l];show MG M.2 (aL (Mz _)));split at c
    ·ext j E;split at c
     ·ext m;cases c;obtain⟨u,P,I⟩:=p1 j E m.2.1;obtain⟨d,b1,b2,N⟩:=A m.1;obtain⟨R,Q,L⟩:=(f.kids.go (S':=Sg (g.give d i)) (λ_ _ _ e=>e) λb o _ n z=>n (w d b1 b z)).setAt m.2.2 b2 N;show .inr ⟨⟨t,C,rfl⟩,_,P,λe=>B b1 (f.put (u e) (.dic t C) _ _ d R rfl (I e).2 (I e).1 b1 Q L)⟩
     ·cases c
    ·ext E;split at c
     ·ext m;cases c;obtain⟨u,P,I⟩:=p2 E;obtain⟨d,b1,b2,N⟩:=A m.2;let L:=TrL.snoc2 m.1 (f.kids.go (S':=Sg (g.give d i)) (λ_ _ _ e=>e) λb o _ n z=>n (w d b1 b z)) b2 N;show .inr ⟨⟨t,C,rfl⟩,_,P,λe=>B b1 (f.put (u e) (.dic t (C++[kk])) _ _ d _ rfl (I e).2 (I e).1 b1 (λb z=>z) L)⟩
     ·cases c
   ·cases c
  ·cases c
 ·cases c
theorem Ia(O:ao X U c){f:Ro->MR}(hf:bA X f e)(hp:lO X i fp b)(hk:SndE X fk k)(hb:cZ k=PD)(hn:fx e=PD):dD X pn (λZ=>yo i fp fk (f Z)) (.Assign [.Subscript b k sp] e pos):=by
 intro Z r h g Y H Dn se q;dsimp only[yo] at h;split at h
 ·ext kd d Q he;split at h
  ·ext es r0 R ds up kx dx kk d0 ep ek ei;split at h
   ·ext hg hh P;cases h
    let mu:R.mu=PD:=by
     cases R with
     |tup=>simp[nP] at P
     |_=>rfl
    let I:∀v m C F,Evo g H m C F->SE X.K (m.plus F) Q Y C->VR1 X.K C m F kd d v F->∀L A w N M T,Same C A->Q[i]?=PB (PB ⟨PF,M,T⟩)->Y[i]?=PB (PB w)->(∀b,N b->(m.plus F) b=PB (PB i))->FP X.K A (Sg (m.plus F)) M w N (.own es r0) (.nd R ds) L up->∀y u,Same A u->VR X.K (m.plus F) A u kx dx y->
      ∃a o E F',L=.ref a/\nK X.K u m F Q Y i kk es r0 R ds up a o E F'/\((∃z j,R=.lst/\y=.int z/\o=.lst E/\u a=PB o/\jL E.length z=PB j/\Dn.nx Y (upd u a (.lst (E.set j v))))\/((∃t ks,R=.dic t ks)/\∃F4,DPut u a y v F4/\∀e,Dn.nx Y (F4 e))):=by
     intro v m C F D l W L A w N M T s2 s ew V B y u S ry;rw[ei] at s;cases s;let rm:=s2.trans S;let ha:=l.same rm;let hc:Evo g H m u F:=⟨λb o n e=>rm _ _ (D.keep b o n e),D.out,D.new,D.tmp,λb o e=>let ⟨o',q1⟩:=D.dom b o e;⟨o',rm _ _ q1⟩⟩;obtain⟨a,o,E,F',rfl,nd⟩:=FP.node ha (λb z=>(D.tmp b z).1) ei ew V (B.same S) mu;show⟨a,o,E,F',rfl,nd,yp (x:=(dJ kd d,d)) P nd hc ha ((W.im l.mu).go rm λ_ _ _ z=>z) ry.rd q⟩
    cases R with
    |lst=>
     show ck (qr aw (Dk aw aw wU (by intro v;cases k<;>first|rfl|cases hb)) vJ Ba) ?_
     show hf Z _ _ _ he g Y H _ se λv m C F D l W=>hp Q _ _ _ ep (m.plus F) Y C _ l λL A w N M T s2 s ew V B=>hk Q _ _ ek (m.plus F) Y A _ (l.same s2) λy u S ry=>?_;obtain⟨a,o,E,F',rfl,nd,p⟩:=I v m C F D l W L A w N M T s2 s ew V B y u S ry;rcases p with⟨z,j,_,rfl,rfl,g3,hj,p⟩|⟨⟨t,ks,z⟩,_⟩
     ·show⟨a,E,z,j,rfl,rfl,g3,hj,p⟩
     ·cases z
    |dic t ks=>
     show ck (Ag (by have:=O.tab.units;lia) aw aw aw (j4 hn)) ?_;show hf Z _ _ _ he g Y H _ se λv m C F D l W=>hp Q _ _ _ ep (m.plus F) Y C _ l λL A w N M T s2 s ew V B=>hk Q _ _ ek (m.plus F) Y A _ (l.same s2) λy u S ry=>?_;obtain⟨a,o,E,F',rfl,nd,p⟩:=I v m C F D l W L A w N M T s2 s ew V B y u S ry;rcases p with⟨z,j,zz,_⟩|⟨_,H4,d1,p⟩
     ·cases zz
     ·show⟨a,H4,rfl,d1,p⟩
    |tup=>cases mu
    |obj c ns=>simp[nP] at P
   ·cases h
  ·cases h
 ·cases h
theorem TrL.snocG:∀{ds:List D} {es:List Ow} {r:Ow} {us:List V} {F F2:Pr} {d:D} {v:V},TrL K H S ds es r us F->Tr K H S d (es.getD ds.length r) v F2->(∀b,F b->¬F2 b)->TrL K H S (ds++[d]) es r (us++[v]) (λb=>F b\/F2 b)
 |[],es,r,us,F,F2,d,v,h,t,dj=>by
  unfold TrL at h;obtain⟨rfl,k⟩:=h;change TrL K H S [d] es r [v] _;unfold TrL
  show⟨v,[],F2,λ_=>False,rfl,λb=>⟨λz=>z.elim (λz=>absurd z (k b)) .inl,λz=>z.elim .inr λz=>z.elim⟩,λ_ _ z=>z,by cases es<;>simpa using t,?_⟩
  unfold TrL;show⟨rfl,λ_ z=>z⟩
 |d0::ds,es,r,us,F,F2,d,v,h,t,dj=>by
  unfold TrL at h;obtain⟨y,g,j,l,rfl,a,f,n,i⟩:=h
  let m:es.getD (d0::ds).length r=es.tail.getD ds.length r:=by cases es<;>simp
  rw[m] at t;have:=TrL.snocG i t λb e c=>dj b ((a b).mpr (.inr e)) c;change TrL K H S (d0::(ds++[d])) es r (y::(g++[v])) _;unfold TrL;show⟨y,g++[v],j,λb=>l b\/F2 b,rfl,λb=>⟨λz=>z.elim (λz=>((a b).mp z).imp id .inl) λz=>.inr (.inr z),λz=>z.elim (λz=>.inl ((a b).mpr (.inl z))) λz=>z.imp (λz=>(a b).mpr (.inr z)) id⟩,λb e c=>c.elim (f b e) λc=>dj b ((a b).mpr (.inl e)) c,n,this⟩
theorem tZ:∀{ns:List Str} {xs:List V} {j:Nat},a8 f ns=PB j->ns.length=xs.length->putF f v (ns.zip xs)=ns.zip (xs.set j v)
 |[],_,_,h,_=>by cases h
 |_::_,[],_,_,l=>by cases l
 |n::ns,x::xs,j,h,l=>by
  unfold a8 at h;rw[N0];unfold putF;split at h
  ·ext a;cases h;rw[if_pos a.symm];rfl
  ·ext a;obtain⟨c,b,rfl⟩:=bz h;rw[if_neg (Ne.symm a),OH,N0,tZ b (by simpa using l)]
theorem pI{f:Str}{v:V}:∀{ns:List Str} {xs:List V},a8 f ns=PC->ns.length=xs.length->putF f v (ns.zip xs)=(ns++[f]).zip (xs++[v])
 |[],[],_,_=>rfl
 |[],_::_,_,l=>by cases l
 |_::_,[],_,l=>by cases l
 |n::ns,x::xs,h,l=>by
  unfold a8 at h;rw[N0];unfold putF;split at h
  ·cases h
  ·ext a
   rw[if_neg (Ne.symm a),NJ,NJ,N0,pI (by cases q:a8 f ns with|none=>rfl|some z=>rw[q] at h;cases h) (by simpa using l)]
def Ib(es:List Ow)(r:Ow)(ns:List Str)(ds:List D)(f:Str)(x:KD):Option (List Str×List D):=match a8 f ns with
 |some j=>if bM (es.getD j r) x=PD/\j<ds.length/\ds.length<900 then PB (ns,ds.set j x.2) else PC
 |none=>if bM (es.getD ds.length r) x=PD/\ds.length<900 then PB (ns++[f],ds++[x.2]) else PC
def yq(i:Nat)(c f:Str)(q:Ro->Option (Ow×D×(D->D)))(a:MR):Option Res:=match a with
 |some (kd,d,Z1)=>(match q Z1,Z1[i]? with
  |some (.own es r,.nd (.obj c' ns) ds,up),PB (PB ⟨PF,k,_⟩)=>if c'=c then(match Ib es r ns ds f (dJ kd d,d) with
   |some (ns',ds')=>PB (.nx (Z1.set i (PB ⟨PF,k,up (.nd (.obj c ns') ds')⟩)))
   |none=>PC) else PC
  |_,_=>PC)
 |none=>PC
theorem EJ{f:Ro->MR}{i:Nat}{fp:Ro->Option (Ow×D×(D->D))}{b e:PK}{c z:Str}{sp pos:Pos}(ha:∀C,Nk X.K P0 c=PB (PB (.ref C))->Cls X.K C/\NoAttr X.K C z)(W:bA X f e)(hp:lO X i fp b)
  (hs:swapsWith e (PB (.Attribute b z sp)) pos.line X.env=pure PF):dD X pn (λZ=>yq i c z fp (f Z)) (.Assign [.Attribute b z sp] e pos):=by
 intro Z r h g Y H Dn se q;dsimp only[yq] at h;split at h
 ·ext kd d Z1 he;split at h
  ·ext es r0 c' ns ds up kk d0 ep ei;split at h
   ·ext hc;subst hc;split at h
    ·ext hi hb l;cases h;show ck (Dz aw aw hs) ?_;show W Z _ _ _ he g Y H _ se λv t H1 F A u vr=>hp Z1 _ _ _ ep (t.plus F) Y H1 _ u λv1 E w Fi k' d' s2 S ew lb hd=>?_;rw[ei] at S;cases S;let P:=u.same s2;let R:Evo g H t E F:=⟨λb o n e=>s2 _ _ (A.keep b o n e),A.out,A.new,A.tmp,λb o e=>let ⟨B,q1⟩:=A.dom b o e;⟨B,s2 _ _ q1⟩⟩;obtain⟨a,o,L,F',rfl,m⟩:=FP.node P (λb z=>(A.tmp b z).1) ei ew lb hd rfl;obtain⟨C,U,V,⟨T,na⟩,ho,N⟩:=m.ok;subst ho;let hF:∀b,F b->t b=PC:=λb z=>(R.tmp b z).1;let mm:MuOk E (Sx t F):=λb z=>P.mu b ((al b).mpr z);let M:∀(k:Pr),(∀b,k b->F b)->∀b,Sg (t.give k i) b->Sg (t.plus F) b:=λk s2 b z=>(al b).mpr ((give_S.mp z).imp id (s2 b));let hg:=(vr.im u.mu).go s2 λ_ _ _ z=>z
     let O:∀{kc:Ow},bM kc (dJ kd d,d)=PD->∃k:Pr,(∀b,k b->F b)/\Tr X.K E (Sg (t.give k i)) d kc v k/\(∀b,F' b->¬k b):=λ{kc} W=>by
      obtain⟨k,a1,a2⟩:=VR1.fit (p:=(dJ kd d,d)) W mm hF (λb z=>z) hg;show⟨k,a1,a2 _ λb z=>?_,λb z1 z2=>by have:=m.lab b z1;rw[hF b (a1 b z2)] at this;cases this⟩;show(give_S.mp z).elim (λz=>.inr (.inl z)) λz=>.inr (.inr (.inl z))
     let I:∀{B:HO} {k:Pr},(∀b,k b->F b)->SE X.K (t.give k i) (Z1.set i (PB ⟨PF,kk,up (.nd (.obj c' hi) hb)⟩)) Y (upd E a B)->Dn.nx Y (upd E a B):=λ{B k} s2 s=>q Y _ _ (R.give s2 m.own) s PinOk.refl;let Q:=m.kids.len;let hz:(ns.zip L).length=ds.length:=by rw[List.length_zip,N,Q,Nat.min_self]
     obtain⟨hm,nz⟩:=ha C V;unfold Ib at l;split at l
     ·ext j hj;split at l
      ·ext x;cases l;obtain⟨k,b1,b2,b3⟩:=O x.1;obtain⟨F3,c1,c2⟩:=(m.kids.go (S':=Sg (t.give k i)) (λ_ _ _ e=>e) λb o _ n z=>n (M k b1 b z)).setAt x.2.1 b2 b3;show⟨a,C,U,ns.zip L,rfl,m.at_,T,nz,by rw[hz];have:=x.2.2;lia,?_⟩;rw[tZ hj N];show I b1 (m.put _ (.obj c' ns) _ _ k F3 rfl ⟨C,U,V,⟨T,na⟩,rfl,by rw[Oe];show N⟩ (λL h=>by cases h) b1 c1 c2)
      ·cases l
     ·ext hj;split at l
      ·ext x;cases l;obtain⟨k,b1,b2,b3⟩:=O x.1;let c2:=TrL.snocG (m.kids.go (S':=Sg (t.give k i)) (λ_ _ _ e=>e) λb o _ n z=>n (M k b1 b z)) b2 b3;show⟨a,C,U,ns.zip L,rfl,m.at_,T,nz,by rw[hz];have:=x.2;lia,?_⟩;rw[pI hj N];show I b1 (m.put _ (.obj c' (ns++[z])) _ _ k _ rfl ⟨C,U,V,⟨T,λy hy=>(M5.mp hy).elim (na y) λhy=>by rw[MY.mp hy];show nz⟩,rfl,by rw[MN,MN,N];rfl⟩ (λL h=>by cases h) b1 (λb z=>z) c2)
      ·cases l
    ·cases h
   ·cases h
  ·cases h
 ·cases h
end
mutual
inductive IS where
 |asg (i:Nat) (a:ME)
 |unp (is:List Nat) (a:ME)
 |aug (i:Nat) (op:P2) (a:ME)
 |put (b:BP) (k:IE) (a:ME)
 |putF (c:Str) (b:BP) (f:Str) (a:ME)
 |ret (a:ME)
 |ifs (t:MT) (a b:bB)
 |fo (fg:List Nat) (tg:IT) (it:MI) (b:bB)
 |wh (fg:List Nat) (t:MT) (b:bB)
 |pas
 |exp (a:ME)
 |stk
inductive bB where
 |nil
 |cons (s:IS) (r:bB)
end
mutual
def ow(U:GG)(N:Nat):IS->List Nat->Ro->Option Res
 |.asg i a,pn,Z=>fy pn i (bp U a Z)
 |.unp is a,pn,Z=>A4 pn is (bp U a Z)
 |.aug i op a,pn,Z=>A8 pn i op Z[i]? (bp U a Z)
 |.put b k a,_,Z=>yo b.slot (rC U.fn b) (aa U.fn k) (bp U a Z)
 |.putF c b f a,_,Z=>yq b.slot c f (rC U.fn b) (bp U a Z)
 |.ret a,_,Z=>rJ (bp U a Z)
 |.ifs t a b,pn,Z=>A5 (k4 U t Z) (aq U N a pn) (aq U N b pn)
 |.fo fg tg it b,pn,Z=>pG pn fg tg (aq U N b) (nM U it Z)
 |.wh fg t b,pn,Z=>jO fg (k4 U t) (aq U N b pn) N Z
 |.pas,_,Z=>PB (.nx Z)
 |.exp a,_,Z=>vH (bp U a Z)
 |.stk,_,_=>PC
def aq(U:GG)(N:Nat):bB->List Nat->Ro->Option Res
 |.nil,_,Z=>PB (.nx Z)
 |.cons s r,pn,Z=>cm (ow U N s pn Z) (aq U N r pn)
end
section
theorem Bb:ow U N (.asg i a) pn Z=fy pn i (bp U a Z):=rfl
theorem Bc:ow U N (.unp is a) pn Z=A4 pn is (bp U a Z):=rfl
theorem Bd:ow U N (.aug i op a) pn Z=A8 pn i op Z[i]? (bp U a Z):=rfl
theorem Be{U:GG}:ow U N (.put b k a) z0 Z=yo b.slot (rC U.fn b) (aa U.fn k) (bp U a Z):=rfl
theorem Bf:ow U N (.ret a) z0 Z=rJ (bp U a Z):=rfl
theorem t5:ow U N (.ifs t a b) pn Z=A5 (k4 U t Z) (aq U N a pn) (aq U N b pn):=rfl
theorem EK:ow U N (.fo fg tg it b) pn Z=pG pn fg tg (aq U N b) (nM U it Z):=rfl
theorem EL:ow U N (.wh fg t b) pn Z=jO fg (k4 U t) (aq U N b pn) N Z:=rfl
theorem Bg:ow U N (.exp a) z0 Z=vH (bp U a Z):=rfl
end
theorem KM{f:Ro->Option Res}(h:∀Z,f Z=PC):dD X pn f e:=λZ r a=>by rw[h] at a;cases a
structure An where
 fg:Nat->List Nat:=λ_=>[]
 sk:Nat->Bool:=λ_=>PF
noncomputable def rL(f:PV->Option IS):List PV->Option bB
 |[]=>PB .nil
 |s::r=>match f s,rL f r with|some a,PB b=>PB (.cons a b)|_,_=>PC
noncomputable def yr:PV->Nat
 |.Assign _ _ p=>p.line
 |.AugAssign _ _ _ p=>p.line
 |.Return _ p=>p.line
 |.Expr _ p=>p.line
 |.If _ _ _ p=>p.line
 |.For _ _ _ _ p=>p.line
 |.While _ _ _ p=>p.line
 |.Raise _ _ p=>p.line
 |.Try _ _ _ _ p=>p.line
 |.Delete _ p=>p.line
 |_=>0
noncomputable def t6:PK->Bool
 |.ListComp _ gs _ _=>(match gs with|[]=>PF|g::gs=>(match gs with|[]=>g.is_async==0|_::_=>PF))
 |_=>PF
noncomputable def Cn:PK->Bool
 |.Constant (.str _) _ _=>PD
 |_=>PF
noncomputable def Co(f:Str):List (Str×List Str)->Option Str
 |[]=>PC
 |(c,fs)::r=>if f∈fs then PB c else Co f r
def Cp(fns:Nms)(f:Str):Option Str:=match Co f fns.cls with
 |some c=>(match fns.cls.lookup c with|some fs=>if f∈fs then PB c else PC|none=>PC)
 |none=>PC
def Ga(fns:Nms)(m:Nat)(c:Cz)(q:List PK)(e:PK):Option IS:=match q with
 |[]=>PC
 |t::q=>match q with
  |_::_=>PC
  |[]=>match t with
   |.Name x _=>if lK c x&&(fx e||t6 e) then(match a8 x c.N,cM fns (m+1) c e with|some i,PB a=>PB (.asg i a)|_,_=>PC) else PC
   |.Tuple es _ _=>if yf e then(match yg c es,cM fns (m+1) c e with|some is,PB a=>PB (.unp is a)|_,_=>PC) else PC
   |.Subscript b k _=>if cZ k&&fx e then(match Cg c (cE fns (m+1) c) 6 b,cE fns (m+1) c k,cM fns (m+1) c e with|some b,PB k,PB a=>PB (.put b k a)|_,_,_=>PC) else PC
   |.Attribute b z _=>if fx e then(match Cp fns z,Cg c (cE fns (m+1) c) 6 b,cM fns (m+1) c e with|some cl,PB b,PB a=>PB (.putF cl b z a)|_,_,_=>PC) else PC
   |_=>PC
def KN(fns:Nms)(m:Nat)(c:Cz)(t:PK)(op:P2)(e:PK):Option IS:=match t with
 |.Name x _=>if lK c x then(match a8 x c.N,cM fns (m+1) c e with|some i,PB a=>PB (.aug i op a)|_,_=>PC) else PC
 |_=>PC
def LL(fns:Nms)(an:An)(m:Nat)(c:Cz)(B:List PV->Option bB)(tg iter:PK)(body q:List PV)(p:Pos):Option IS:=match q with
 |_::_=>PC
 |[]=>if dh iter then(match nC c 4 tg,yb (Eg c (cE fns (m+1) c) tg iter),B body with|some t,PB it,PB b=>PB (.fo (an.fg p.line) t it b)|_,_,_=>PC) else PC
def Gb(fns:Nms)(an:An)(m:Nat)(c:Cz)(q:List PV->Option bB):PV->Option IS
 |.Assign ts e _=>Ga fns m c ts e
 |.AugAssign t op e _=>KN fns m c t op e
 |.Return e _=>(match e with|some e=>(cM fns (m+1) c e).map .ret|none=>PC)
 |.Expr e _=>if Cn e then PB .pas else if fx e then(cM fns (m+1) c e).map .exp else PC
 |.If t a b _=>(match KC fns (m+1) c t,q a,q b with|some t,PB a,PB b=>PB (.ifs t a b)|_,_,_=>PC)
 |.For tg iter body els p=>LL fns an m c q tg iter body els p
 |.While t body els p=>(match els with|_::_=>PC|[]=>(match KC fns (m+1) c t,q body with|some t,PB b=>PB (.wh (an.fg p.line) t b)|_,_=>PC))
 |.Pass _=>PB .pas
 |_=>PC
def cS(fns:Nms)(an:An)(m:Nat)(c:Cz):Nat->PV->Option IS
 |0,_=>PC
 |n+1,s=>if an.sk (yr s)=PD then PB .stk else Gb fns an m c (rL (cS fns an m c n)) s
abbrev cB(fns:Nms)(an:An)(m:Nat)(c:Cz)(n:Nat):List PV->Option bB:=rL (cS fns an m c n)
section
variable {X:Cx} {c:Cz} (fns:Nms) (U:GG)
theorem vK:∃b:Bool,swapsWith (.ListComp elt [⟨tg,iter,ifs,0⟩] scope cp) (PB (.Name x p)) n env=pure b:=⟨_,rfl⟩
theorem EM(O:ao X (a9 fns U) c){m i:Nat}(hl:lK c x=PD)(hi:a8 x c.N=PB i)(hc:t6 e=PD)(W:cM fns (m+1) c e=PB a):dD X pn (λZ=>fy pn i (bp U a Z)) (.Assign [.Name x p] e pos):=by
 let hs:∃elt tg iter ifs scope cp,e=.ListComp elt [⟨tg,iter,ifs,0⟩] scope cp:=by
  cases e with
  |ListComp elt gs scope cp=>cases gs with
   |nil=>cases hc
   |cons g gs=>cases gs with
    |cons _ _=>cases hc
    |nil=>
     cases g with
     |mk tg iter ifs as=>
      let h0:as=0:=eq_of_beq (show(as==0)=PD from hc);subst h0;show⟨_,_,_,_,_,_,rfl⟩
  |_=>cases hc
 obtain⟨elt,tg,iter,ifs,scope,cp,rfl⟩:=hs;let l:=iZ O hl;let hf:=(k5 fns U (m+1)).1 X c O _ _ W;intro Z r h g Y H Dn se q
 cases f:bp U a Z with
 |none=>dsimp only at h;rw[f] at h;cases h
 |some w=>
  obtain⟨kd,d,Z1⟩:=w;dsimp only at h;rw[f] at h;obtain⟨b,hb⟩:=vK (elt:=elt) (tg:=tg) (iter:=iter) (ifs:=ifs) (scope:=scope) (cp:=cp) (p:=p) (x:=x) (n:=pos.line) (env:=X.env)
  cases b with
  |false=>show ck (qt (i:=i) (by rw[O.N];show O.nd) (by rw[O.N];show aT hi) l.1 aw hb l.2) (hf Z kd d Z1 f g Y H _ se λv g1 H1 F ev P vr=>ir h q ev P vr)
  |true=>
   let hd:∀{hck:bc c scope=PD} {hns:dh iter=PD},iR (wI X tg iter) (λv Y H Q=>∀C s A j,wG (ai X (ac scope) scope C s A j) tg v Y H Q) (λY H Q=>∀C s A j,Ed (ai X (ac scope) scope C s A j) ifs Y H Q) (λY H Q=>∀C s A j,wE (ai X (ac scope) scope C s A j) elt Y H Q) (aA c scope) Y H (λv H1=>gR i v Y H1 Dn.nx)->Jt X (.Assign [.Name x p] (.ListComp elt [⟨tg,iter,ifs,0⟩] scope cp) pos) Dn Y H:=λ{hck hns} ht=>
    ck (xi (N':=ac scope) (cap:=aA c scope) O.calm (df O hck) vi
     (λC s A j y s' Y' B v u Q' I r hh=>vj y s' Y' B v u Q' I r (hh C s A j)) (λC s A j y s' Y' B Q' I hh=>hh C s A j y s' I) (λC s A j y s' Y' B Q' I hh=>hh C s A j y s' I) (c8 hns)
     (by rw[O.N];show O.nd) (by rw[O.N];show aT hi) l.1 l.2 hb) ht
   let E:∀v g' B F,Evo g H g' B F->SE X.K (g'.plus F) Z1 Y B->VR1 X.K B g' F kd d v F->gR i v Y B Dn.nx:=λv g1 H1 F ev P vr=>ir h q ev P vr
   cases D:cE fns m c (.ListComp elt [⟨tg,iter,ifs,0⟩] scope cp) with
   |some V=>
    let T:PB (ME.p V)=PB a:=by rw[<- W];change _=(match cE fns m c _ with|some V=>PB (ME.p V)|none=>_);rw[D]
    cases T
    cases m with
    |zero=>cases(show(PC:Option IE)=PB _ from D)
    |succ m=>
     let k:HI fns c (cE fns m) (cT fns m) elt [⟨tg,iter,ifs,0⟩] scope cp=PB V:=D;unfold HI at k;dsimp only at k;rw[if_pos rfl] at k;split at k
     ·ext hn;rw[Mw] at hn;split at k
      ·ext t it ts el ht S L M;cases k;let o:=cH (fm:=lP fns U) fns U.fn m;let CO:=c6 O hn.2
       let hv:aa U.fn (.comp ((fns.an cp.line cp.col).getD Ow.fz) (aA c scope) t it ts el) Z=PB (kd,d)/\Z1=Z:=by
        rw[xZ] at f;unfold Jq at f;split at f
        ·ext e';cases f;show⟨e',rfl⟩
        ·cases f
       obtain⟨hv,rfl⟩:=hv;rw[pi] at hv
       show hd (hck:=hn.2) (hns:=hn.1) (xF O hn.2 (tB fns U.fn O (o.1 X c O) S) ht (λC s H j=>tF U.fn (o.2 _ _ (CO C s H j)) L) (λC s H j=>o.1 _ _ (CO C s H j) _ _ M) hv se λv B s ⟨F,h1,h2⟩=>
        E v g B F (cI s h1 λb z=>eL se.mu (h1 b z)) (se.plus s h1 h2.dom) h2)
      ·cases k
     ·cases k
   |none=>
    let T:vF fns c (cM fns m) (cE fns m) elt [⟨tg,iter,ifs,0⟩] scope cp=PB a:=by
     replace W:(match cE fns m c (.ListComp elt [⟨tg,iter,ifs,0⟩] scope cp) with|some V=>PB (ME.p V)|none=>vF fns c (cM fns m) (cE fns m) elt [⟨tg,iter,ifs,0⟩] scope cp)=PB a:=W
     rw[D] at W;show W
    obtain⟨hm,hg,hj,t,it,ts,el,hq,he,R,ht,S,L,M,rfl⟩:=tR fns T;cases hq;let o:=cH (fm:=lP fns U) fns U.fn m;let CO:=c6 O R;rw[pz] at f
    first|(cases f;done)|show hd (hck:=R) (hns:=he) (tL O R (rE fns U O (o.1 X c O) S) ht (λC s H j=>pA U L) (λC s H j=>(k5 fns U m).1 _ _ (CO C s H j) _ _ M) f se E)
theorem eN{f:PV->Option IS}(c:∀s a,f s=PB a->∀pn,dD X pn (ow U N a pn) s):∀{st:List PV} {b:bB},rL f st=PB b->∀pn,a5 X pn (aq U N b pn) st
 |[],b,h,pn=>by
  cases h;show HY
 |s::st,b,h,pn=>by
  unfold rL at h;split at h
  ·ext a r e d;cases h;show EG (c s a e pn) (eN c d pn)
  ·cases h
theorem KO(O:ao X (a9 fns U) c){m N:Nat}{j:List PK}{e:PK}{pos:Pos}{a:IS}(h:Ga fns m c j e=PB a)(pn:List Nat):dD X pn (ow U N a pn) (.Assign j e pos):=by
 let n:=(k5 fns U (m+1)).1 X c O;let s:=(cH (fm:=lP fns U) fns U.fn (m+1)).1 X c O
 cases j with
 |nil=>cases h
 |cons t j=>cases j with
  |cons _ _=>cases h
  |nil=>cases t with
   |Name x p=>
    dsimp only[Ga] at h;split at h
    ·ext o;rw[Mw,NE] at o;split at h
     ·ext i l y f;cases h;rw[show ow U N (.asg i l) pn=λZ=>fy pn i (bp U l Z) from funext λ_=>rfl];rcases o.2 with w|w
      ·show tT O o.1 y w (n _ _ f)
      ·show EM fns U O o.1 y w f
     ·cases h
    ·cases h
   |Tuple P k p=>
    dsimp only[Ga] at h;split at h
    ·ext g;split at h
     ·ext M l r f;cases h;show HV O (n _ _ f) r g
     ·cases h
    ·cases h
   |Subscript b k p=>
    dsimp only[Ga] at h;split at h
    ·ext g;rw[Mw] at g;split at h
     ·ext H L l q hk f;cases h;show Ia O (n _ _ f) (vG U O s _ q) (s _ _ hk) g.1 g.2
     ·cases h
    ·cases h
   |Attribute b z p=>
    dsimp only[Ga] at h;split at h
    ·ext g;split at h
     ·ext A H l d q f;cases h
      let v:∀C,Nk X.K P0 A=PB (PB (.ref C))->Cls X.K C/\NoAttr X.K C z:=λC B=>by
       unfold Cp at d;split at d
       ·split at d
        ·ext F u;split at d
         ·ext D;cases d;obtain⟨I,E⟩:=O.tab.cf A F C u B;show⟨I,E z D⟩
         ·cases d
        ·cases d
       ·cases d
      show EJ v (n _ _ f) (vG U O s _ q) (j4 g)
     ·cases h
    ·cases h
   |_=>cases h
theorem KP(O:ao X (a9 fns U) c)(h:KN fns m c t op e=PB a)(pn:List Nat):dD X pn (ow U N a pn) (.AugAssign t op e pos):=by
 let b:=(k5 fns U (m+1)).1 X c O
 cases t with
 |Name x p=>
  dsimp only[KN] at h;split at h
  ·ext d;split at h
   ·ext i j f g;cases h;show H9 O d f (b _ _ g)
   ·cases h
  ·cases h
 |_=>cases h
theorem jI(O:ao X (a9 fns U) c)(r:PassesOwn (PQ X.prog X.w) X.A X.env X.xe):∀(n:Nat) {s:PV} {a:IS},cS fns an m c n s=PB a->∀pn,dD X pn (ow U N a pn) s
 |0,s,a,h,pn=>by cases h
 |n+1,s,a,h,pn=>by
  let z:=(k5 fns U (m+1)).1 X c O;let B:=(k5 fns U (m+1)).2 X c O;let H:=(cH (fm:=lP fns U) fns U.fn (m+1)).1 X c O;let f:∀{C:List PV} {b:bB},rL (cS fns an m c n) C=PB b->∀pn,a5 X pn (aq U N b pn) C:=λh=>eN U (λs a h=>jI O r n h) h
  let k:∀{a:IS},Gb fns an m c (rL (cS fns an m c n)) s=PB a->dD X pn (ow U N a pn) s:=λ{a} h=>by
   cases s with
   |Assign K e d=>show KO fns U O h pn
   |AugAssign t L e d=>show KP fns U O h pn
   |Return e d=>cases e with
    |some e=>
     obtain⟨D,j,rfl⟩:=bz (show(cM fns (m+1) c e).map .ret=PB a from h);show Ck (z _ _ j)
    |none=>cases h
   |Expr e d=>
    dsimp only[Gb] at h;split at h
    ·ext u;cases h;rw[show ow U N .pas pn=λZ=>PB (.nx Z) from funext λ_=>rfl];unfold Cn at u;split at u
     ·show HW
     ·cases u
    ·split at h
     ·ext p;obtain⟨D,j,rfl⟩:=bz h;show yh p (z _ _ j)
     ·cases h
   |If t x y d=>
    dsimp only[Gb] at h;split at h
    ·ext v D E o j i;cases h;show HX (B _ _ o) (f j pn) (f i pn)
    ·cases h
   |For M F l g d=>cases g with
    |cons _ _=>cases h
    |nil=>
     dsimp only[Gb,LL] at h;split at h
     ·ext p;split at h
      ·ext v I E o q i;cases h;show ym O r o (rE fns U O H q) (f i) p
      ·cases h
     ·cases h
   |While t l g d=>cases g with
    |cons _ _=>cases h
    |nil=>
     dsimp only[Gb] at h;split at h
     ·ext v E o i;cases h;show HZ r (B _ _ o) (f i pn) N
     ·cases h
   |Pass d=>
    cases h;show EH
   |_=>cases h
  unfold cS at h;by_cases hk:an.sk (yr s)=PD
  ·rw[if_pos hk] at h;cases h;show KM λZ=>rfl
  rw[if_neg hk] at h;show k h
end
end J
namespace L2
open PyProof.Rows
theorem lQ{R:Result->PM->Prop}{s:PM}(I:Nat->PM->Prop)(d:∀n s,I n s->PP (PQ prog w) A (pyNext it) (λr i=>match r with
   |none=>R (.ok .next) i
   |some v=>PP (PQ prog w) A (letOwnedTupleGo target it v) (λ_ b=>PP (PQ prog w) A (assign target env v) (λ_ l=>
     PP (PQ prog w) A (forIn ifs PD λc r=>if r=PD then do let e <- isTrue c env (eval c env);pure (ForInStep.yield e) else pure (ForInStep.yield r)) (λe g=>
      if e=PD then PP (PQ prog w) A (eval kx env) (λkv t=>PP (PQ prog w) A (eval vx env) (λp o=>
       PP (PQ prog w) A (dictSet D kv p) (λ_ j=>∃m,m<n/\I m j) (λ_ _=>False) o) (λ_ _=>False) t) (λ_ _=>False) g
      else ∃m,m<n/\I m g) (λ_ _=>False) l) (λ_ _=>False) b) (λ_ _=>False) i) (λ_ _=>False) s)(n:Nat)(h:I n s) :
  codeAny (PQ prog w) A (.compLoop (.DictComp kx vx [⟨target,iter,ifs,0⟩] scope pos) 0 it (.ref D) env) R s:=by
 show codeAny_loop rfl I (λn s y=>?_) n h;show wpAny_noted ?_;rw[compTurn_dict];show PJ (wpAny_standAt (PJ (wpAny_mono (d n s y) (λr i q=>?_) λ_ _ a=>a.elim)))
 cases r with
 |none=>show PN q
 |some v=>
  show PJ (wpAny_mono q (λ_ b f=>?_) λ_ _ a=>a.elim);show PJ (wpAny_mono f (λ_ l B=>PJ (wpAny_mono B (λe g k=>?_) λ_ _ a=>a.elim)) λ_ _ a=>a.elim)
  cases e with
  |false=>show PN ⟨rfl,k⟩
  |true=>
   show PJ (PJ (wpAny_mono k (λkv t z=>PJ (P8 (wpAny_mono z (λp o u=>PJ (wpAny_standAt (P8 (wpAny_mono u (λ_ j x=>PN ⟨rfl,x⟩) λ_ _ a=>a.elim)))) λ_ _ a=>a.elim))) λ_ _ a=>a.elim))
section
variable {X:Cx} {pins:List (PL×Obj)} {Y:St} {H:Hp} {s:PM}
theorem vL{A:PY}{F:Nat->Hp}{Q:Unit->PM->Prop}(T:A.units+9<cLine)(I:Inv X pins Y H s)(g:DPut H a y v F)(K:RelV y u)(C:RelV v r)(h:∀e s',Inv X pins Y (F e) s'->Q () s') :
  PP (PQ X.prog X.w) A (dictSet a u r) Q E s:=by
 rcases g with⟨d,k,e,o,l,x⟩|⟨m,N,d,k,b,e,o,L,l,x⟩
 ·subst o x;obtain⟨z,B,S,f,p⟩:=me I.hok e;let R:S.length<=sizeLine:=by rw[<- f.length];show z
  let n:(cC d k v).length<=sizeLine:=by have:=dE d k v;lia
  show wpAny_dictSet_pairs (kr K) p λM i t=>h 0 _ ?_;let V:∃q,M.get? a=PB q:=let ⟨q,_,_,j,_⟩:=i;⟨q,j⟩;show jS I (by rw[e];show True.intro) t V (w6 n B (f.put k C) i)
 ·subst o x;cases(K);obtain⟨z,B,W,f,p⟩:=w5 I.hok e;let R:W.length<=sizeLine:=by rw[<- Paired.length f];show z
  let n:(cC d k v).length<=sizeLine:=by have:=dE d k v;lia
  show wpAny_dictSet_heap (Nat.lt_of_succ_lt T) (eG I.hok L) p λM i t=>?_;obtain⟨q,U,N,j,Z,O,P,_,h5⟩:=i;show h N _ ?_;show jS I (by rw[e];show True.intro) t ⟨q,j⟩ ⟨n,B,_,(f.put k L C).keeps λc ys D=>?_,q,U,j,Z,O,P,h5⟩
  rw[ag (BV D e (λz=>nomatch z))]
  show D
def nQ(wi:TI)(g:TG)(tt:TT)(tk te:TE)(o0:HO)(cap:List (Option Nat)):TE:=λY H Q=>wi Y H λJ H1=>∀D,H1 D=PC->∃W:Nat->Nat->St->Hp->Prop,(∃m,W 0 m (cF Y cap) (upd H1 D o0))/\∀i m Y' H',W i m Y' H'->
 (J.stop i H'/\Q (.ref D) H')\/(J.go i H'/\∀x H2,J.yld i H' x H2->g x Y' H2 λq O=>tt q O λok O=>if ok=PD then tk q O λy R=>te q R λv H5=>∃F,DPut H5 D y v F/\∀e,∃B,B<m/\W (i+1) B q (F e) else ∃B,B<m/\W (i+1) B q O)
theorem mB(hc:X.calm=PD)(O:e6 X N' scope cap)(hi:PI X tg iter wi)(hg:∀C s H ex,PG (ai X N' scope C s H ex) tg g)(ht:∀C s H ex,Ai (ai X N' scope C s H ex) ifs tt)(hk:∀C s H ex,PE (ai X N' scope C s H ex) kx tk)(he:∀C s H ex,PE (ai X N' scope C s H ex) elt te)(ho:o0=.dK []\/∃m,o0=.dT m 0 [])(hu:X.A.units+9<cLine){Q:VK}(I:Inv X pins Y H s)(h:nQ wi g tt tk te o0 cap Y H Q)(hs:∀x,foldedSetIterable iter X.env x=pure x)(hX:X.xe=E)(hQ:∀(C D:PL) (s1:PM) (H1:Hp) (f:List PL) (Y':St) (H':Hp) (s':PM),Inv X pins Y H1 s1->(∀b∈f,iM X pins H1 b)->Inv (ai X N' scope C s1 H1 f) [] Y' H' s'->Q (.ref D) H'->
   compPost (PQ X.prog X.w) X.A E use Q' (.ref D) C (.ok .next) s') :
  PP (PQ X.prog X.w) X.A (comprehension (.DictComp kx elt [⟨tg,iter,ifs,0⟩] scope pos) scope X.env cpos newDict PF (eval iter X.env) use) Q' E s:=by
 let h6:closureFor scope X.env=pure (f6 X.env.cells scope.names []):=gr λy hy e=>I.ok.has _ (O.free y hy e);show wpAny_comprehension_free rfl hs h6 O.kind O.names ?_;subst hX;show aY (hi pins s Y H _ I h) λv s1 h1=>aY h1 λga s2 h2=>?_;obtain⟨it,f,tn,J,B,e,I2,T,hd,f2,hW⟩:=h2;subst e;show P6 (gu ?_);dsimp only;generalize M:s2.heap.push { cls:=.type "dict",dict:=PC,data:=.dict #[] }=HH;let R:HH.objs.size=s2.heap.objs.size+1:=by rw[<- M,NW]
 let hw:s2.heap.objs.size<HH.objs.size:=by rw[R];show NH _
 generalize L:pushCells (HH.push { cls:=.type "dict",data:=.dict #[] }) scope.names=h₁;let kp:∀b o,HH.get? b=PB o->h₁.get? b=PB o:=λb o e=>L▸pushCells_keeps _ _ b o (Mx _ e);let hf:h₁.Ns HH.objs.size λ_=>PC:=L▸(Heap.Ns.new HH (.type "dict")).keeps (pushCells_keeps _ _)
 let h0:∀x c,(P3 (HH.objs.size+1) scope.names []).lookup x=PB c->h₁.IsCell c PC:=λx c e=>by
  let ok:=cellsFrom_ok scope.names (HH.push { cls:=.type "dict",data:=.dict #[] }) 0 [] ⟨λ_ _ hm=>(nomatch hm),List.Pairwise.nil⟩ (M3 _)
  rw[NW] at ok;show L▸(ok.empty x c (bU e)).1
 let S:∀b o,s2.heap.get? b=PB o->h₁.get? b=PB o:=λb o e=>kp b o (M▸Mx _ e)
 let h3:ObjOk X.prog X.w (upd B s2.heap.objs.size o0) h₁ s2.heap.objs.size o0:=by
  let h9:=I2.big;let a:(s2.heap.objs.size==sysModules)=PF:=beq_eq_false_iff_ne.mpr (Ne.symm (MM h9));let eo:h₁.get? s2.heap.objs.size=PB { cls:=.type "dict",data:=.dict #[] }:=kp _ _ (M▸ML _ rfl);rcases ho with rfl|⟨m,rfl⟩
  ·show⟨M3 _,a,[],.nil,let ⟨q,es,ep,hq,r⟩:=Heap.DictOf.new s2.heap;⟨q,es,ep,by rw[eo,<- hq];show(ML _ rfl).symm,r⟩⟩
  ·show⟨M3 _,a,[],.nil,_,#[],eo,⟨rfl,rfl,rfl⟩,rfl,rfl,OD⟩
 let hj:∀b∈f,b<s2.heap.objs.size:=λb a=>let ⟨o,e,_⟩:=T.obj 0 _ hd b a;MC e;let N:=I2.hok.fresh (Mz s2.heap.objs.size);obtain⟨W,⟨m0,w0⟩,U⟩:=hW s2.heap.objs.size N;let J0:=oU (tk:=s2.toks) I2 O f2 hj (by rw[R];show NK _) (Mz _) hw h0 hf S h3;let P:tn 0 h₁:=T.keep 0 _ _ hd λb _ o e=>S b o e
 let h8:∀b∈f,(upd B s2.heap.objs.size o0) b=PC:=λb a=>by
  rw[ag (MM (hj b a))];show(f2 b a).1
 let k:∀{H':Hp},(∀b∈f,H' b=PC)->∀b∈f,iM (ai X N' scope HH.objs.size s2 B f) [] H' b:=λhn b a=>
  ⟨hn b a,(J0.ok.exf b a).1,J0.ok.exfs b a,.inl a,(J0.ok.exf b a).2,λp hp=>absurd hp (by simp[ai])⟩
 let K:codeAny (PQ X.prog X.w) X.A (.compLoop (.DictComp kx elt [⟨tg,iter,ifs,0⟩] scope pos) 0 (.ref it) (.ref s2.heap.objs.size) (compEnvC scope (DL X.env.cells scope.names HH.objs.size) HH.objs.size X.env))
   (compPost (PQ X.prog X.w) X.A X.xe use Q' (.ref s2.heap.objs.size) HH.objs.size) { s2 with heap:=h₁,toks:=s2.toks }:=by
  show lQ (λn s'=>∃i Y' H',Inv (ai X N' scope HH.objs.size s2 B f) [] Y' H' s'/\tn i s'.heap/\(∀b∈f,H' b=PC)/\W i n Y' H') ?_ m0 ⟨0,_,_,J0,P,h8,w0⟩
  rintro n s3 ⟨i,Y3,H3,I3,ha,hl,w3⟩
  rcases U i n Y3 H3 w3 with⟨hh,qn⟩|⟨go,Z⟩
  ·show aY (T.done (ai X N' scope HH.objs.size s2 B f) rfl rfl rfl hc i [] s3 Y3 H3 _ I3 (k hl) ha hh) λr s4 ⟨hr,I4⟩=>?_;subst hr;show hQ _ _ s2 B f Y3 H3 s4 I2 f2 I4 qn
  ·show aY (T.item (ai X N' scope HH.objs.size s2 B f) rfl rfl rfl hc i [] s3 Y3 H3 _ I3 (k hl) ha go) λr s4 ⟨u,hr,h4⟩=>?_;subst hr;show aY h4 λ_ s5 t=>?_;obtain⟨x,H5,I5,r5,y5,j,hx⟩:=t;let h7:=I5.pinned (k hx) (T.obj _ _ j);show aY (hg _ _ _ _ _ s5 Y3 H5 x u _ h7 r5 (Z x H5 y5)) λ_ s6 t=>?_;obtain⟨V,H6,I6,q6⟩:=t;show aY (ht _ _ _ _ _ s6 V H6 _ I6 q6) λok hv t=>?_;obtain⟨h5,l,z⟩:=t
   cases ok with
   |false=>
    rw[if_neg M4] at z⊢;obtain⟨m',hm,w7⟩:=z;show⟨m',hm,i+1,V,_,l.unpinned,T.keep _ _ _ j λb a o e=>(l.pin (b,o) (MJ _ (MJ _ (bj a e)))).1,λb a=>?_,w7⟩;obtain⟨o,e,d⟩:=T.obj _ _ j b a;show(l.pin (b,o) (MJ _ (MJ _ (bj a e)))).2.1
   |true=>
   rw[if_pos rfl] at z⊢;show aY (hk _ _ _ _ _ hv V h5 _ l z) λkv s7 t=>?_;obtain⟨y,H7,I7,r7,q7⟩:=t;show aY (he _ _ _ _ _ s7 V H7 _ I7 q7) λvv s8 t=>?_;obtain⟨v,H8,I8,r8,F,gF,qF⟩:=t;show vL (X:=ai X N' scope HH.objs.size s2 B f) hu I8 gF r7 r8 λe s9 I9=>?_;obtain⟨m',hm,w7⟩:=qF e;show⟨m',hm,i+1,V,_,I9.unpinned,T.keep _ _ _ j λb a o e=>(I9.pin (b,o) (MJ _ (MJ _ (bj a e)))).1,λb a=>?_,w7⟩;obtain⟨o,e,d⟩:=T.obj _ _ j b a;show(I9.pin (b,o) (MJ _ (MJ _ (bj a e)))).2.1
 show codeAny_compStart_dict K (T.self _ 0 _ _ _ P K)
theorem yt(k:X.calm=PD)(O:e6 X N' scope cap)(hi:PI X tg iter wi)(e:∀C s H ex,PG (ai X N' scope C s H ex) tg g)(o:∀C s H ex,Ai (ai X N' scope C s H ex) ifs tt)(hk:∀C s H ex,PE (ai X N' scope C s H ex) kx tk)(c:∀C s H ex,PE (ai X N' scope C s H ex) elt te)(p:o0=.dK []\/∃m,o0=.dT m 0 [])(n:X.A.units+9<cLine)(i:∀x,foldedSetIterable iter X.env x=pure x:=by intro _;rfl):PE X (.DictComp kx elt [⟨tg,iter,ifs,0⟩] scope pos) (nQ wi g tt tk te o0 cap):=by
 intro b s Y H Q I h;show mB k O hi e o hk c p n I h i rfl λC D s1 w t r f v l d J q=>?_;obtain⟨m,j,_⟩:=J.loc;show⟨m,j,λu a=>⟨.ref D,f,g6 l d J a,rfl,q⟩⟩
theorem yu{cpos pos' pos:Pos}{i:Nat}(hc:X.calm=PD)(O:e6 X N' scope cap)(hi:PI X tg iter wi)(P:∀C s H ex,PG (ai X N' scope C s H ex) tg g)(ht:∀C s H ex,Ai (ai X N' scope C s H ex) ifs tt)(hk:∀C s H ex,PE (ai X N' scope C s H ex) kx tk)(he:∀C s H ex,PE (ai X N' scope C s H ex) elt te)(ho:o0=.dK []\/∃m,o0=.dT m 0 [])(T:X.A.units+9<cLine)(hs:∀x,foldedSetIterable iter X.env x=pure x)(Z:X.N.Nodup)(u:X.N[i]?=PB x)(M:BW X.env.scope x)(S:X.fn x=PD\/X.env.scope.names.lookup x=PB .local)(w:swapsWith (.DictComp kx elt [⟨tg,iter,ifs,0⟩] scope cpos) (PB (.Name x pos')) pos.line X.env=pure PD) :
  PS X (.Assign [.Name x pos'] (.DictComp kx elt [⟨tg,iter,ifs,0⟩] scope cpos) pos) (zR (nQ wi g tt tk te o0 cap) (gR i)):=by
 intro d s Y H D I h;rw[exec_Assign_Name_used _ _ _ _ w];show PJ (wpAny_standAt (PJ ?_));show PJ (wpAny_mono (mB hc O hi P ht hk he ho T I h hs rfl λC Q s1 H1 fp Y' F t l L J q=>?_) (λ_ t hq=>PN (PN hq)) λ_ _ e=>e);let V:Inv X d Y F t:=g6 l L J (Heap.SameBut.refl C t.heap);let B:s1.heap.objs.size<=C:=J.ok.above;let f:∀b o,s1.heap.get? b=PB o->b≠C:=λb o e=>MM (MG (MC e) B);obtain⟨m1,⟨oL,_,_,K,_⟩,_⟩:=id l.loc;let E:X.env.locals≠C:=f _ _ K
 let k:∀x c,X.env.cells.lookup x=PB c->c≠C:=λx c e=>by
  obtain⟨v,o,g,_⟩:=l.cell x c e;show f _ _ g
 let n:∀p∈X.pn++d,p.1≠C:=λp hp=>f _ _ (l.pin p hp).1
 let W:X.s₀.heap.objs.size<=C:=by
  show Nb ?_ B;show Of (Nw l.ok.above (MC K))
 obtain⟨m,R,_⟩:=J.loc;show wpAny_assign_Name (iK V Z u M (v:=.ref Q) rfl (λs3 U j=>?_) S);obtain⟨a,j,y⟩:=j
 let r:C≠a:=by
  rcases y with rfl|y
  ·show Ne.symm E
  ·show Ne.symm (k _ _ y)
 show⟨m,R.sameBut j r,λh' z=>⟨_,F,U.junk z W E k n J.free,q⟩⟩
end
end L2
namespace J
def gJ(tg:IT)(ft:Ro->Option Bool)(fk B:Ro->Option KD)(q:Ro)(d:D):Option (Option (D×D)):=match pc tg d with
 |some ps=>if bX ps q=PD then(match ft (setAll ps q) with
  |some PD=>(match fk (setAll ps q) with
   |some k=>(match B (setAll ps q) with
    |some y=>if qR y.1 y.2=PD then PB (PB (k.2,y.2)) else PC
    |none=>PC)
   |none=>PC)
  |some PF=>PB PC
  |none=>PC) else PC
 |none=>PC
def vM(t:Nat)(a:List DK×List D)(k y:D):Option (List DK×List D):=match iV k with
 |some k=>if g8 t k=PD then(match aR a.1 k with
  |some j=>if a.1.Nodup then PB (a.1,a.2.set j y) else PC
  |none=>PB (a.1++[k],a.2++[y])) else PC
 |none=>PC
def eA(t:Nat)(f:D->Option (Option (D×D))):List D->List DK×List D->Option (List DK×List D)
 |[],a=>PB a
 |d::ds,a=>match f d with
  |some (PB p)=>(match vM t a p.1 p.2 with
   |some q=>eA t f ds q
   |none=>PC)
  |some PC=>eA t f ds a
  |none=>PC
def eO(t:Nat)(it:Option (List Nat×List D))(f:D->Option (Option (D×D))):Option KD:=match it with
 |some (_,ds)=>if ds.length<=100000 then(match eA t f ds ([],[]) with
  |some a=>PB (.fr (.own [] .fz),.nd (.dic t a.1) a.2)
  |none=>PC) else PC
 |none=>PC
noncomputable def rM:Nat->HO
 |0=>.dK []
 |m+1=>.dT m 0 []
theorem Bh:∀t,cW K (rM t) (.dic t []) []
 |0=>.inl ⟨rfl,[],rfl,rfl,rfl⟩
 |m+1=>.inr ⟨m,rfl,[],0,rfl,rfl,rfl⟩
theorem t7:∀t xs,rM t≠.tup xs
 |0,_,h=>by cases h
 |_+1,_,h=>by cases h
section
variable {X:Cx} {U:Tab} {c:Cz}
abbrev KQ(K:Mu)(f:List J.D->List DK×List J.D->Option (List DK×List J.D))(z:Nat)(q:List DK×List J.D)(ds:List J.D)(g':Gh)(Z:Ro)(H1:Hp)(D:PL):Nat->Nat->L2.St->Hp->Prop:=λi m Y' H'=>m=ds.length-i/\i<=ds.length/\∃(a:List DK×List J.D) (us:List V) (o:HO),f (ds.drop i) a=PB q/\us.length<=i/\SE K (g'.plus λb=>b=D) Z Y' H'/\
  (∀b o,H1 b=PB o->H' b=PB o)/\H' D=PB o/\(∀xs,o≠.tup xs)/\cW K o (.dic z a.1) us/\RpL K H' (Sg (g'.plus λb=>b=D)) a.2 us
theorem t8(O:ao X U c){fi:Ro->Option (List Nat×List D)}(hck:bc c scope=PD)(hi:SndI X fi tg iter)(hs:nC ⟨f9 scope c.sc,ac scope,gE scope⟩ n tg=PB t)(ho:∀C s H ex,jE (ai X (ac scope) scope C s H ex) ft ifs)(gd:∀C s H ex,SndE (ai X (ac scope) scope C s H ex) fk kx)(h0:∀C s H ex,SndE (ai X (ac scope) scope C s H ex) fe elt)(h:eO z (fi Z) (gJ t ft fk fe (aQ Z (aA c scope)))=PB (kd,d)){Y:L2.St}{Q:VK}(se:SE X.K g Z Y H)(q:∀v H',Same H H'->VR X.K g H H' kd d v->Q v H') :
  nQ (wI X tg iter) (λv Y H Q=>∀C s B ex,wG (ai X (ac scope) scope C s B ex) tg v Y H Q) (λY H Q=>∀C s B ex,Ed (ai X (ac scope) scope C s B ex) ifs Y H Q) (λY H Q=>∀C s B ex,wE (ai X (ac scope) scope C s B ex) kx Y H Q) (λY H Q=>∀C s B ex,wE (ai X (ac scope) scope C s B ex) elt Y H Q) (rM z) (aA c scope) Y H Q:=by
 let hh:kN (aA c scope)=PD:=by
  simp only[bc,Mw] at hck;show hck.1.2
 unfold eO at h;split at h
 ·ext bs k h9;split at h
  ·ext hc;split at h
   ·ext af hm;cases h;let CO:=c6 O hck;show hi Z bs k h9 g Y H _ se λjj h4 H1 s1 jt sp sf D hD=>?_;let F:SE X.K (g.re (i9 (aA c scope))) (aQ Z (aA c scope)) (cF Y (aA c scope)) H1:=(se.same s1).cap hh;generalize hw:g.re (i9 (aA c scope))=g' at F;let gS:∀b,Sg g' b↔Sg g b:=λb=>by rw[<- hw];show jN b
    generalize hZ:aQ Z (aA c scope)=Zc at F hm;generalize hY:cF Y (aA c scope)=Yc at F;clear hZ hY
    show⟨KQ X.K (eA z (gJ t ft fk fe Zc)) z af k g' Zc H1 D,
     ⟨k.length,by simp,M3 _,([],[]),[],rM z,hm,Mz _,?_,λb o e=>ae hD _ _ e,ak,t7 z,Bh z,.nil⟩,?_⟩
    ·show F.plus (ae hD) (λb w=>w▸hD) λb w=>⟨rM z,w▸ak,t7 z⟩
    rintro i m Y' H' ⟨rfl,gk,a,A,o,f,h5,S,kk,gD,ge,R,rl⟩
    let hb:∀b,Sg (g'.plus λb=>b=D) b↔Sx g (λb=>b=D) b:=λb=>(al b).trans (or_congr (gS b) Iff.rfl);let L:∀b o,H1 b=PB o->b≠D:=λb o e w=>by rw[w,hD] at e;cases e
    let h7:h4.P X.K (g'.plus λb=>b=D) H':=Src.mono (λb o e n w=>((hb b).mp w).elim n (L b o e)) (λb o _ e=>kk b o e) (λa e=>sf.from_t e) sp;obtain⟨j1,j2⟩:=jt i _ H' h7 S.mu;by_cases u:i<k.length
    ·let hd:k[i]?=PB k[i]:=MF u;obtain⟨go,yl⟩:=j2 _ hd;rw[Ni u] at f;show .inr ⟨go,λx H2 hy C s0 B ex=>?_⟩;obtain⟨s2,rx⟩:=yl x H2 hy
     cases I:gJ t ft fk fe Zc k[i] with
     |none=>unfold eA at f;rw[I] at f;cases f
     |some o1=>
      let l:=I;unfold gJ at l;split at l
      ·ext ps gi;split at l
       ·ext h1;show sN (ph (CO C s0 B ex) n hs) (hZq gi rx λvs hf C1 T hg hn=>?_);let t1:=SE.setAll hf (S.same s2);obtain⟨t2,t3⟩:=SE.passAll hf h1 (S.same s2);split at l
        ·ext hT;show ho C1 T hg hn _ PD hT _ _ _ _ t1 λH3 M=>ve λC2 h8 gb ht=>?_;split at l
         ·ext ke hx;split at l
          ·ext ye gj;split at l
           ·ext h6;cases l;obtain⟨hv,dk⟩:=ke;obtain⟨ky,dy⟩:=ye
            let j:(match vM z a dk dy with|some N=>eA z (gJ t ft fk fe Zc) (k.drop (i+1)) N|none=>PC)=PB af:=by
             unfold eA at f;rw[I] at f;show f
            show gd C2 h8 gb ht _ hv dk hx _ _ H3 _ (t1.same M) λvk H4 s4 r4 C3 hu gc h2=>?_;show h0 C3 hu gc h2 _ ky dy gj _ _ H4 _ ((t1.same M).same s4) λvy E s5 r5=>?_;let Gc:Same H' E:=((s2.trans M).trans s4).trans s5;let ry:=r5.sh h6 ((t1.same M).same s4).mu s5;let rk:Rp X.K E (λ_=>False) dk vk:=r4.rd.go λb o n e=>⟨s5 b o e,λw=>w⟩;let h3:E D=PB o:=Gc _ _ gD;let W:RpL X.K E (Sg (g'.plus λb=>b=D)) a.2 A:=rl.go λb o n e=>⟨Gc b o e,n⟩;let hr:Sg (g'.plus λb=>b=D) D:=(al D).mpr (.inr rfl)
            let ha:∀(r:HO) (N:List DK×List J.D) (y:List V),eA z (gJ t ft fk fe Zc) (k.drop (i+1)) N=PB af->y.length<=i+1->(∀xs,r≠.tup xs)->cW X.K r (.dic z N.1) y->RpL X.K E (Sg (g'.plus λb=>b=D)) N.2 y->
              ∃m',m'<k.length-i/\m'=k.length-(i+1)/\i+1<=k.length/\∃(a:List DK×List J.D) (A:List V) (o:HO),eA z (gJ t ft fk fe Zc) (k.drop (i+1)) a=PB af/\A.length<=i+1/\SE X.K (g'.plus λb=>b=D) Zc (hV vs Y') (upd E D r)/\
              (∀b o,H1 b=PB o->upd E D r b=PB o)/\upd E D r D=PB o/\(∀xs,o≠.tup xs)/\cW X.K o (.dic z a.1) A/\RpL X.K (upd E D r) (Sg (g'.plus λb=>b=D)) a.2 A:=λr N y e1 e2 e3 e4 e5=>
             ⟨_,by lia,rfl,u,N,y,r,e1,e2,SE.upd (((t2.same M).same s4).same s5) (aS rfl) e3,λb o e=>by rw[ag (L b o e)];show Gc _ _ (kk b o e),ak,e3,e4,e5.go λb o n e=>⟨by rw[ag (λw=>n (by rw[w];show hr))];show e,n⟩⟩
            let hz:A.length<sizeLine:=Nw h5 (MG u (aL hc))
            cases p:vM z a dk dy with
            |none=>rw[p] at j;cases j
            |some N=>
             rw[p] at j;unfold vM at p;split at p
             ·ext k' hq;split at p
              ·ext hl;obtain⟨p1,p2⟩:=tY h3 R hq rk hl hz;split at p
               ·ext jn hj;split at p
                ·ext ga;cases p;obtain⟨r,dp,po⟩:=p1 jn hj ga;show⟨_,dp,λe=>ha (r e) _ (A.set jn vy) j (by rw[Oe];lia) (po e).1 (po e).2 (RpL.set jn W ry)⟩
                ·cases p
               ·ext hj;cases p;obtain⟨r,dp,po⟩:=p2 hj;show⟨_,dp,λe=>ha (r e) _ (A++[vy]) j (by rw[MN,Ot];lia) (po e).1 (po e).2 (W.append (.cons ry .nil))⟩
              ·cases p
             ·cases p
           ·cases l
          ·cases l
         ·cases l
        ·ext hT;cases l;let j:eA z (gJ t ft fk fe Zc) (k.drop (i+1)) a=PB af:=by unfold eA at f;rw[I] at f;show f
         show ho C1 T hg hn _ PF hT _ _ _ _ t1 λH3 M=>vd ?_;let rm:=s2.trans M;show⟨k.length-(i+1),by lia,rfl,u,a,A,o,j,by lia,t2.same M,λb o e=>rm _ _ (kk b o e),rm _ _ gD,ge,R,rl.go λb o n e=>⟨rm b o e,n⟩⟩
        ·cases l
       ·cases l
      ·cases l
    ·let e:i=k.length:=by lia
     subst e;rw[OS] at f;cases f;show .inl ⟨j1 (Mz _),q _ H' (λb o e=>kk b o (s1 _ _ e)) ⟨λb=>b=D,λb w=>s1.free (w▸hD),?_⟩⟩;change Tr _ _ _ _ _ _ _;unfold Tr
     show⟨D,o,A,λ_=>False,rfl,gD,R,λ_ w=>w,(λh=>nomatch h),λb=>⟨λw=>.inl ⟨rfl,w⟩,λw=>w.elim (λw=>w.2) λw=>w.elim⟩,.ofFz (rl.weak λb w=>(hb b).mpr w)⟩
   ·cases h
  ·cases h
 ·cases h
theorem t9:∀z,rM z=.dK []\/∃m,rM z=.dT m 0 []
 |0=>.inl rfl
 |m+1=>.inr ⟨m,rfl⟩
theorem Bi(O:ao X U c){w:Ro->Option (List Nat×List D)}(hck:bc c scope=PD)(hns:dh iter=PD)(hi:SndI X w tg iter)(l:nC ⟨f9 scope c.sc,ac scope,gE scope⟩ n tg=PB t)(m:∀C s H ex,jE (ai X (ac scope) scope C s H ex) ft ifs)(p:∀C s H ex,SndE (ai X (ac scope) scope C s H ex) fk kx)(o:∀C s H ex,SndE (ai X (ac scope) scope C s H ex) fe elt) :
  SndE X (λZ=>eO z (w Z) (gJ t ft fk fe (aQ Z (aA c scope)))) (.DictComp kx elt [⟨tg,iter,ifs,0⟩] scope pos):=by
 intro Z y d h g Y H Q x q
 show am (yt O.calm (df O hck) vi
  (λC s e ex a f i j v u k I r b=>vj a f i j v u k I r (b C s e ex)) (λC s e ex a f i j k I b=>b C s e ex a f I) (λC s e ex a f i j k I b=>b C s e ex a f I) (λC s e ex a f i j k I b=>b C s e ex a f I) (t9 z) (Nw (OB (by decide:9<=100) _) O.tab.units) (c8 hns)) (t8 O hck hi l m p o h x q)
theorem rN:∃b:Bool,swapsWith (.DictComp kx elt [⟨tg,iter,ifs,0⟩] scope cp) (PB (.Name x p)) n env=pure b:=⟨_,rfl⟩
theorem EN(O:ao X U c){S:Ro->Option (List Nat×List D)}(W:lK c x=PD)(V:a8 x c.N=PB i)(hck:bc c scope=PD)(hns:dh iter=PD)(hi:SndI X S tg iter)(A:nC ⟨f9 scope c.sc,ac scope,gE scope⟩ n tg=PB t)(E:∀C s H ex,jE (ai X (ac scope) scope C s H ex) ft ifs)(y:∀C s H ex,SndE (ai X (ac scope) scope C s H ex) fk kx)(o:∀C s H ex,SndE (ai X (ac scope) scope C s H ex) fe elt) :
  dD X pn (λZ=>fy pn i ((eO z (S Z) (gJ t ft fk fe (aQ Z (aA c scope)))).map λB=>(B.1,B.2,Z))) (.Assign [.Name x p] (.DictComp kx elt [⟨tg,iter,ifs,0⟩] scope cp) pos):=by
 let l:=iZ O W;let hf:=(Bi O (pos:=cp) (z:=z) hck hns hi A E y o);intro Z r h g Y H Dn Q q
 cases L:eO z (S Z) (gJ t ft fk fe (aQ Z (aA c scope))) with
 |none=>dsimp only at h;rw[L] at h;cases h
 |some w=>
  obtain⟨B,d⟩:=w;dsimp only at h;rw[L] at h
  let f:∀v e,Same H e->VR X.K g H e B d v->gR i v Y e Dn.nx:=λv e s r=>by
   obtain⟨F,R,f2⟩:=r;show ir h q (cI s R λb w=>eL Q.mu (R b w)) (Q.plus s R λb w=>f2.dom b w) f2
  obtain⟨b,T⟩:=rN
  cases b with
  |false=>show ck (qt (by rw[O.N];show O.nd) (by rw[O.N];show aT V) l.1 aw T l.2) (hf Z B d L g Y H _ Q f)
  |true=>
   show ck (yu O.calm (df O hck) vi
    (λC s m ex a k M e v u P I r j=>vj a k M e v u P I r (j C s m ex)) (λC s m ex a k M e P I j=>j C s m ex a k I) (λC s m ex a k M e P I j=>j C s m ex a k I) (λC s m ex a k M e P I j=>j C s m ex a k I) (t9 z) (Nw (OB (by decide:9<=100) _) O.tab.units) (c8 hns)
    (by rw[O.N];show O.nd) (by rw[O.N];show aT V) l.1 l.2 T) (t8 O hck hi A E y o L Q f)
end
end J
namespace L2
open PyProof.Rows
section
variable {X:Cx} {pins:List (PL×Obj)} {Y:St} {H:Hp} {s:PM}
theorem Inv.frz(I:Inv X pins Y H s)(e:H a=PB u)(j:s.heap.get? a=PB ob)(h1:∀xs,u≠.tup xs)(h2:∀o v,u≠.frz o v)(i:∀ps,u≠.tbl ps)(h:∀x,u≠.own x):Inv X pins Y (upd H a (.frz ob u)) s:=by
 let d:∀{b:PL} {o:HO},H b=PB o->o≠u->upd H a (.frz ob u) b=PB o:=λ{b o} q n=>by
  rw[ag (λz=>by rw[z,e] at q;cases q;show n rfl)];show q
 let f:HOk X.prog X.w (upd H a (.frz ob u)) s.heap:=λb o q=>by
  by_cases g:b=a
  ·subst g;rw[ak] at q;cases q;show⟨j,(I.hok b _ e).stay (λ_ _ _ y=>y) (λc y=>d y λz=>h _ z.symm) λc xs y=>d y λz=>h1 _ z.symm⟩
  ·rw[ag g] at q;show(I.hok b o q).stay (λ_ _ _ y=>y) (λc y=>d y λz=>h _ z.symm) λc xs y=>d y λz=>h1 _ z.symm
 let k:Un X.fs [] H (upd H a (.frz ob u)) s.heap s.heap:=⟨λ_ _ q _ _ _=>q,λb o q _ _ _=>⟨o.slots,q⟩,λb o q n _=>by rw[ag (λz=>by rw[z,e] at n;cases n)];show n,λb o q _=>⟨o,q⟩,λb xs q=>d q λz=>h1 _ z.symm,λb o v q=>d q λz=>h2 _ _ z.symm,λb ps q=>⟨#[],by rw[d q λz=>i _ z.symm];simp⟩⟩;show I.un k f
end
def Bj(v a:PL):PZ->Prop:=λh=>h.IsValuesView v a
def Cq:V->List V->Hp->VK->Prop:=λx xs H Q=>∃a kvs,x=.ref a/\xs=[]/\H a=PB (.dK kvs)/\∀v,H v=PC->Q (.ref v) (upd H v (.ext (Bj v a)))
theorem vN:FX X "dict.values" Cq:=by
 intro b s Y H x m v p Q I r j h;obtain⟨a,f,rfl,rfl,e,q⟩:=h;cases j;cases(r);obtain⟨z,d,g,l,c⟩:=me I.hok e;let i:s.TypeIs (.ref a) "dict":=c.typeIs;show call_meetsIn F.slot_dict_values i F.entry_dict_values (F.args_dict_values_1 _) (meets_dict_values (aK X.prog X.w) a d) ⟨⟨g,c⟩,?_⟩;show⟨.ref s.heap.objs.size,_,I.laid (λ_ _ q=>Mx _ q) (Mz _) ?_,rfl,q _ (I.hok.fresh (Mz _))⟩;show⟨⟨_,ML _ rfl,rfl,rfl⟩,⟨_,ML _ rfl⟩,λt n ⟨o,e1,e2⟩ k=>⟨o,k o e1,e2⟩⟩
end L2
namespace J
def Le{α:Type}(a b:Option α):Prop:=∀r,a=PB r->b=PB r
theorem Le.refl{α:Type}(a:Option α):Le a a:=λ_ h=>h
def rO(P:PR)(w:PX)(K:Mu)(mg:Str->Option PH)(base:PZ)(k:Nat)(x:Str)(B:Fn):Prop:=if ql x=PD then ∃C f fd ps,Nk K P0 (mC x)=PB (PB (.ref C))/\Cls K C/\oH K C (mM x) f/\FnOk P w K mg base iQ k f fd ps (ny K B)/\Binds K fd ps []/\∀ds r,B ds=PB r->FZ (mC x) (mM x) ds=PD else
  (∃f fd ps,FnOk P w K mg base iQ k f fd ps (ny K B)/\mg x=PB (.ref f)/\Nr K (.ref f)=PD/\Binds K fd ps []/\(x==("__debug__":Str))=PF)\/
  (∃j C f fd ps q,j+1<=k/\Mk K C f/\FnOk P w K mg base iQ j f fd ps q/\mg x=PB (.ref C)/\Binds K fd ps []/\(x==("__debug__":Str))=PF/\qT C (ny K B) q)
structure TabF(P:Program)(w:World)(K:Mu)(mg:Str->Option Value)(base:Heap)(U:Tab)(k:Nat):Prop where
 fn:∀x B,U.fn x=PB B->rO P w K mg base k x B
 cf:∀c fs C,U.cf c=PB fs->Nk K P0 c=PB (PB (.ref C))->Cls K C/\∀a∈fs,NoAttr K C a
 fm:∀x sp,U.fm x=PB sp->∃f fd ps,FnOk P w K mg base iQ k f fd ps (sp K)/\mg x=PB (.ref f)/\Nr K (.ref f)=PD/\Binds K fd ps []/\(x==("__debug__":Str))=PF
 bl:∀x∈aG,mg x=PC
 cst:∀x d,U.cst x=PB d->∃u v,mg x=PB u/\RelV v u/\(∀H S,Rp K H S d v)/\(x==("__debug__":Str))=PF
theorem TabF.ok{X:Cx}(T:TabF X.prog X.w X.K X.mg X.base U k)(i:Room k X.A):B6 X U:=
 ⟨λy B q=>by
  let h:=T.fn y B q;unfold rO at h;unfold g9;split at h
  ·ext n;rw[if_pos n];obtain⟨C,f,r,s,e,c,a,b,d,o⟩:=h;show⟨C,k,f,r,s,e,c,a,b,i,d,o⟩
  ·ext n;rw[if_neg n];rcases h with⟨g,l,m,e,c,a,b,d⟩|⟨j,C,g,l,m,p,t,e,c,a,b,d,o⟩
   ·show .inl ⟨k,g,l,m,e,i,c,a,b,d⟩
   ·show .inr ⟨C,j,g,l,m,p,e,c,i.mono t,a,b,d,o⟩,T.cf,λy B q=>by
  obtain⟨g,l,m,e,c,a,b,d⟩:=T.fm y B q;show⟨k,g,l,m,e,i,c,a,b,d⟩,T.bl,(by let h:=i.un;show Nw (Nb (OB (by decide:100<=200) _) (Nat.add_le_add_right (NY _ _) 200)) h),i.gd,T.cst⟩
def k9(k:Nat)(ks:List kW):Ro:=ks.map Et++Nc (k-ks.length) PC
noncomputable def ua(d:D):kW:=(.fz,d)
def gg(r:Option Res):Option KD:=match r with
 |some (.rt kd d _)=>if bE kd=PD then PC else PB (kd,d)
 |some (.nx _)=>PB (.sh,.non)
 |_=>PC
def bN(U:GG)(N m k:Nat)(body:bB)(ds:List D):Option KD:=if ds.length=m then gg (aq U N body [] (k9 k (ds.map ua))) else PC
noncomputable def outs(m:Nat)(pn:List Nat)(Z:Ro):List (Option kW):=(Na m).map λj=>if j∈pn then(match Z[j]? with|some (PB ⟨PF,k,d⟩)=>PB (k,d)|_=>PC) else PC
def iu(m:Nat)(pn:List Nat)(r:Option Res):Option (Kd×D×List (Option kW)):=match r with
 |some (.rt kd d Z)=>if bE kd=PD then PC else PB (kd,d,outs m pn Z)
 |some (.nx Z)=>PB (.sh,.non,outs m pn Z)
 |_=>PC
def la(U:GG)(N m k:Nat)(pn:List Nat)(body:bB)(ks:List kW):Option (Kd×D×List (Option kW)):=if ks.length=m then iu m pn (aq U N body pn (k9 k ks)) else PC
def pJ(fns:Nms)(an:An)(n:Nat)(N:List Str)(st:PV):Option bB:=cB fns an n ⟨ab st,N,λ_=>PD⟩ n (aF st)
theorem jo{vs:List V}{i:Nat}(h:i<vs.length):(bP N vs)[i]?=(vs.map PB)[i]?:=by
 unfold L2.bP;rw[MP (by simpa using h)]
theorem nR{N:List Str}{ks:List kW}{vs:List V}(b:SE K g (ks.map Et) (vs.map PB) H)(k:ks.length<=N.length):SE K g (k9 N.length ks) (bP N vs) H:=by
 let f:ks.length=vs.length:=by simpa using b.len
 show⟨λi j e=>?_,b.mu,?_⟩
 ·unfold k9 at e;by_cases a:i<ks.length
  ·rw[MP (by simpa using a)] at e;obtain⟨v,F,h,d,c⟩:=b.slot i j e;show⟨v,F,by rw[jo (by rw[<- f];show a)];show h,d,c⟩
  ·rw[MZ (by simpa using a),OU] at e
   split at e<;>cases e
 ·unfold k9 L2.bP;simp only[MN,My,O3]
  lia
theorem Cr{ds:List D}{vs:List V}(r:RpL K H (Sg g) ds vs)(m:MuOk H (Sg g)):SE K g ((ds.map ua).map Et) (vs.map PB) H:=by
 show⟨λi a e=>?_,m,by simp[r.len]⟩;rw[MA,MA] at e
 cases q:ds[i]? with
 |none=>rw[q] at e;cases e
 |some d=>
  rw[q] at e;cases e;obtain⟨v,e1,e2⟩:=r.getD q;show⟨v,jZ,by rw[MA,e1];rfl,λ_ z=>z.elim,.fz e2⟩
theorem j7{g:Gh}:g.re (λ_=>PC) b≠PB (PB i):=λe=>by
 unfold Gh.re at e
 cases q:g b with
 |none=>rw[q] at e;cases e
 |some x=>cases x<;>(rw[q] at e;cases e)
theorem ub{g:Gh}(h:g b≠PC):g.re (λ_=>PC) b=PB PC:=by
 unfold Gh.re
 cases q:g b with
 |none=>show absurd q h
 |some x=>cases x<;>rfl
theorem fY{K:Mu}{g g':Gh}{H H':Hp}{F:Pr}(a:Evo (g.re λ_=>PC) H g' H' F):Same H H'/\(∀b,F b->H b=PC)/\∀b,Sg g b->Sg g' b:=
 ⟨λb o e=>a.keep b o (λi q=>j7 q) e,λb z=>(a.tmp b z).2.elim (λ⟨j,q⟩=>absurd q j7) id,λb z=>by rw[Sg,(a.out b).mp (ub z)];simp⟩
section
variable {P:PR} {w:PX} {K:Mu} {mg:Str->Option PH} {base:PZ} {fns:Nms} {U:GG} {x qual:Str} {st:PV} {f:PL} {fd:P4} {N ps:List Str} {k n M:Nat} {an:An} {body:bB}
theorem uc(F:Fun K x qual st f fd)(S:a6 N ps (ab st))(T:TabF P w K mg base (a9 fns U) k)(hc:pJ fns an n N st=PB body) :
  FnOk P w K mg base iQ (k+1) f fd ps (ny K (bN U M ps.length N.length body)):=by
 let hN:ps.length<=N.length:=by
  have:=congrArg NU S.pre;rw[M8] at this
  lia
 show F.ok S (λi H Q E h=>?_) (λo A e s H i Q E W h=>?_)
 ·obtain⟨D,g,X,d,r,B,a,q⟩:=h;unfold bN at a;split at a
  ·ext j;rw[r.len,j]
  ·cases a
 ·obtain⟨D,g,X,d,r,B,a,q⟩:=h;unfold bN at a;split at a
  ·ext j
   let O:ao (lG iQ P w K mg base N qual (ab st) f o A e s H E).nox (a9 fns U) ⟨ab st,N,λ_=>PD⟩:=
    ⟨rfl,rfl,λ_ _=>rfl,rfl,S.nd,T.ok W⟩
   let Y:MuOk H (Sg (g.re λ_=>PC)):=λb z=>B b ((jN b).mp z);let V:RpL K H (Sg (g.re λ_=>PC)) D i:=r.weak λb z=>(jN b).mp z;let I:=nR (N:=N) (Cr V Y) (by simpa[j] using hN);let C:a5 _ [] (aq U M body []) (aF st):=eN U (λs is h=>jI fns U O PassesOwn.never n h) hc [];show⟨_,fw,?_⟩;unfold gg at a;split at a
   ·ext k2 d2 Z2 c;split at a
    ·cases a
    ·ext R;cases a;show C _ _ c _ (bP N i) H _ I λv Y' L m F p t pk Z=>?_;obtain⟨l,u,y⟩:=fY (K:=K) p;show q v m l ⟨F,u,Z.unlend (by simpa using R) y⟩
   ·ext Z' c;cases a;show C _ _ c _ (bP N i) H _ I λY' L m p t pk=>?_;obtain⟨l,u,y⟩:=fY (K:=K) p;show q .non m l DP
   ·cases a
  ·cases a
theorem mE{m:Nat}{pn:List Nat}{Z:Ro}{j:Nat}(h:((outs m pn Z).map Cb)[j]?=PB (PB sl)):j<m/\j∈pn/\Z[j]?=PB (PB sl):=by
 unfold outs at h;rw[MA,MA] at h;by_cases a:j<m
 ·rw[No a] at h;simp only[OY,Option.some.injEq] at h;split at h
  ·ext b;split at h
   ·ext k d e;cases h;show⟨a,b,e⟩
   ·cases h
  ·cases h
 ·rw[Np (by simpa using a)] at h;cases h
theorem pK:(outs m pn Z).length=m:=by simp[outs]
theorem ud(F:Fun K x qual st f fd)(S:a6 N ps (ab st))(T:TabF P w K mg base (a9 fns U) k)(hc:pJ fns an n N st=PB body) :
  FnOk P w K mg base iQ (k+1) f fd ps (vD K (la U M ps.length N.length pn body)):=by
 let hN:ps.length<=N.length:=by
  have:=congrArg NU S.pre;rw[M8] at this
  lia
 show F.ok S (λo H Q E h=>?_) (λC A l s H o Q E W h=>?_)
 ·obtain⟨I,g,Y,d,os,B,a,q⟩:=h;unfold la at a;split at a
  ·ext p;have:=B.len;simp only[My] at this;rw[<- this,p]
  ·cases a
 ·obtain⟨I,g,Y,d,os,B,a,q⟩:=h;unfold la at a;split at a
  ·ext p;let L:I.length=o.length:=by simpa using B.len
   let O:ao (lG iQ P w K mg base N qual (ab st) f C A l s H E).nox (a9 fns U) ⟨ab st,N,λ_=>PD⟩:=
    ⟨rfl,rfl,λ_ _=>rfl,rfl,S.nd,T.ok W⟩
   let u:=nR (N:=N) B (by rw[p];show hN);let R:a5 _ pn (aq U M body pn) (aF st):=eN U (λs is h=>jI fns U O PassesOwn.never n h) hc pn
   let r:∀{b:Gh} {i:Hp} {F:Pr} {t:L2.St} {y:Ro},SE K (b.plus F) y t i->PinOk pn (bP N o) t->SE K (b.plus F) ((outs ps.length pn y).map Cb) (o.map PB) i:=λ{b i F t y} s1 pk=>by
    show⟨λj sl e=>?_,s1.mu,by simp[pK,<- L,p]⟩;obtain⟨h1,h2,V⟩:=mE e;obtain⟨v,Fj,X,q2,Z⟩:=s1.slot j sl V;show⟨v,Fj,by rw[<- X,pk j h2,jo (by rw[<- L,p];show h1)],q2,Z⟩
   show⟨_,fw,?_⟩;unfold iu at a;split at a
   ·ext k2 d2 Z2 c;split at a
    ·cases a
    ·ext hb;cases a;show R _ _ c _ (bP N o) H _ u λv t b i F D m pk vr=>q v b i F D (r m pk) vr
   ·ext y c;cases a;show R _ _ c _ (bP N o) H _ u λt b i D m pk=>q .non b i jZ D (r (by rw[aV λ_ z=>z];show m) pk) ⟨λ_ z=>z,by unfold Rp;rfl⟩
   ·cases a
  ·cases a
end
noncomputable def pL{α:Type}(U:Nat->Option α)(i:Nat)(B:α):Nat->Option α:=λj=>if j=i then PB B else U j
abbrev GG.addI(U:GG)(i:Nat)(B:Fn):GG:=⟨pL U.fn i B,U.fm⟩
abbrev GG.addM(U:GG)(i:Nat)(B:Fm):GG:=⟨U.fn,pL U.fm i B⟩
theorem nS{B ψ:Fn}(h:∀ds,Le (ψ ds) (B ds))(s:ny K ψ vs H Q E):ny K B vs H Q E:=by
 obtain⟨ds,S,k,d,e,c,a,b⟩:=s;show⟨ds,S,k,d,e,c,h ds _ a,b⟩
theorem EO{B ψ:Fm}(h:∀ds,Le (ψ ds) (B ds))(s:vD K ψ vs H Q E):vD K B vs H Q E:=by
 obtain⟨a,g,c,d,f,i,e,b⟩:=s;show⟨a,g,c,d,f,i,h a _ e,b⟩
section
variable {P:PR} {w:PX} {K:Mu} {mg:Str->Option PH} {base:PZ} {fns:Nms} {U:GG} {x qual:Str} {st:PV} {f:PL} {fd:P4} {N ps:List Str} {k n M i:Nat} {an:An} {body:bB}
theorem TabF.up(T:TabF P w K mg base (a9 fns U) k):TabF P w K mg base (a9 fns U) (k+1):=
  ⟨λy B o=>by
    let h:=T.fn y B o;unfold rO at h⊢;split at h
    · ext m;rw[if_pos m];obtain⟨C,f,q,r,a,e,b,c,i⟩:=h;show⟨C,f,q,r,a,e,b,c.mono (NK k),i⟩
    · ext m;rw[if_neg m];rcases h with⟨g,d,l,a,e,b,c,i⟩|⟨j,C,g,d,l,n,p,a⟩
      · show .inl ⟨g,d,l,a.mono (NK k),e,b,c,i⟩
      · show .inr ⟨j,C,g,d,l,n,OO p,a⟩,T.cf,
   λy B o=>by obtain⟨g,d,l,a,e,b,c,i⟩:=T.fm y B o;show⟨g,d,l,a.mono (NK k),e,b,c,i⟩,T.bl,T.cst⟩
theorem TabF.put(T:TabF P w K mg base (a9 fns U) k)(hi:fns.fns[i]?=PB x)(h:rO P w K mg base k x ψ):TabF P w K mg base (a9 fns (U.addI i ψ)) k:=by
 show⟨λy B b=>?_,T.cf,T.fm,T.bl,T.cst⟩;let b:(a8 y fns.fns).bind (pL U.fn i ψ)=PB B:=b
 cases c:a8 y fns.fns with
 |none=>rw[c] at b;cases b
 |some j=>
  rw[c] at b;let a:pL U.fn i ψ j=PB B:=b;unfold pL at a;split at a
  ·ext e;subst e;cases a;have:=aT c;rw[hi] at this;cases this;show h
  ·show T.fn y B (by change(a8 y fns.fns).bind U.fn=_;rw[c];show a)
theorem TabF.addX{ψ B:Fn}(T:TabF P w K mg base (a9 fns U) k)(F:Fun K x qual st f fd)(d:FnOk P w K mg base iQ (k+1) f fd ps (ny K B))(c:mg x=PB (.ref f))(b:Binds K fd ps [])(hd:(x==("__debug__":Str)||ql x)=PF)
  (hi:fns.fns[i]?=PB x) (hψ:∀a,Le (ψ a) (B a)):TabF P w K mg base (a9 fns (U.addI i ψ)) (k+1):=by
 rw[N9] at hd;show T.up.put hi ?_;unfold rO;rw[if_neg (by rw[hd.2];show M4)];show .inl ⟨f,fd,ps,d.imp λe H Q E s=>nS hψ s,c,F.kp,b,hd.1⟩
theorem TabF.addI{ψ:Fn}(T:TabF P w K mg base (a9 fns U) k)(F:Fun K x qual st f fd)(S:a6 N ps (ab st))(c:mg x=PB (.ref f))(b:Binds K fd ps [])(hd:(x==("__debug__":Str)||ql x)=PF)
  (hi:fns.fns[i]?=PB x) (hc:pJ fns an n N st=PB body) (hψ:∀a,Le (ψ a) (bN U M ps.length N.length body a)):TabF P w K mg base (a9 fns (U.addI i ψ)) (k+1):=
 T.addX F (uc (n:=n) (an:=an) (M:=M) F S T hc) c b hd hi hψ
theorem TabF.addM{ψ:Fm}(T:TabF P w K mg base (a9 fns U) k)(F:Fun K x qual st f fd)(S:a6 N ps (ab st))(l:mg x=PB (.ref f))(g:Binds K fd ps [])(hd:(x==("__debug__":Str)||ql x)=PF)(hi:fns.fns[i]?=PB x)(h:pJ fns an n N st=PB body)(m:∀ds,Le (ψ ds) (la U M ps.length N.length pn body ds)):TabF P w K mg base (a9 fns (U.addM i ψ)) (k+1):=by
 show⟨T.up.fn,T.cf,λy sp b=>?_,T.bl,T.cst⟩;let b:(a8 y fns.fns).bind (λj=>(pL U.fm i ψ j).map λB=>λK=>vD K B)=PB sp:=b
 cases c:a8 y fns.fns with
 |none=>rw[c] at b;cases b
 |some j=>
  rw[c] at b;obtain⟨B,a,rfl⟩:=bz (show(pL U.fm i ψ j).map _=PB sp from b);unfold pL at a;split at a
  ·ext e;subst e;cases a
   let d:y=x:=by
    have:=aT c;rw[hi] at this;show(Option.some.inj this).symm
   subst d;show⟨f,fd,ps,(ud (n:=n) (an:=an) (M:=M) (pn:=pn) F S T h).imp λo H Q E s=>EO m s,l,F.kp,g,(N9.mp hd).1⟩
  ·show T.up.fm y _ (by change lP fns U y=_;unfold lP;rw[c,Nl,a];rfl)
end
theorem EQ{ns:List Int}(c:SqL K H a (ns.map V.int))(h:B [.scr ns]=PB (.sh,.bl PD)):ny K B [.ref a] H (λv _=>v=.bl PD) λ_ _ _=>False:=by
 show⟨[.scr ns],λ_=>PC,.sh,.bl PD,.cons ?_ .nil,λb z=>absurd rfl z,h,λv d _ r=>r.rd.bl⟩;unfold Rp;show⟨a,rfl,?_⟩;rcases c with h|h
 ·show .inl ⟨λz=>z rfl,h⟩
 ·show .inr h
theorem Mj{P:List PH->Prop}(h:P [])(us:List PH)(e:us.length=0):P us:=by
 cases us with
 |nil=>show h
 |cons=>cases e
theorem KR{P:List PH->Prop}(h:∀a,P [a])(us:List PH)(e:us.length=1):P us:=by
 cases us with
 |nil=>cases e
 |cons a us=>show Mj (P:=λus=>P (a::us)) (h a) us (Nat.succ.inj e)
theorem us2{P:List PH->Prop}(h:∀a b,P [a,b])(us:List PH)(e:us.length=2):P us:=by
 cases us with
 |nil=>cases e
 |cons a us=>show KR (P:=λus=>P (a::us)) (h a) us (Nat.succ.inj e)
theorem Ic{P:List PH->Prop}(h:∀a b c,P [a,b,c])(us:List PH)(e:us.length=3):P us:=by
 cases us with
 |nil=>cases e
 |cons a us=>show us2 (P:=λus=>P (a::us)) (h a) us (Nat.succ.inj e)
theorem Ju{P:List PH->Prop}(h:∀a b c d,P [a,b,c,d])(us:List PH)(e:us.length=4):P us:=by
 cases us with
 |nil=>cases e
 |cons a us=>show Ic (P:=λus=>P (a::us)) (h a) us (Nat.succ.inj e)
theorem LM{P:List PH->Prop}(h:∀a b c d e,P [a,b,c,d,e])(us:List PH)(e:us.length=5):P us:=by
 cases us with
 |nil=>cases e
 |cons a us=>show Ju (P:=λus=>P (a::us)) (h a) us (Nat.succ.inj e)
theorem fA{X:Cx}{pn:List Nat}{j fb:Ro->Option Res}{a b:List PV}(i:a5 X pn j a)(l:a5 X pn fb b):a5 X pn (λZ=>cm (j Z) fb) (a++b):=by
 intro Z r h g Y H m f q;dsimp only at h;show A9 ?_
 cases e:j Z with
 |none=>rw[e] at h;cases h
 |some n=>
  rw[e] at h
  cases n with
  |nx c=>show i Z _ e g Y H _ f λs o t p k pk=>l c r h o s t m k (q.from p pk)
  |rt u d c=>cases h;show i Z _ e g Y H _ f q
  |ct c=>cases h;show i Z _ e g Y H _ f q
  |bk c=>cases h;show i Z _ e g Y H _ f q
def jP(f:Ro->Option Res)(m k:Nat)(ds:List D):Option KD:=if ds.length=m then gg (f (k9 k (ds.map ua))) else PC
section
variable {P:PR} {w:PX} {K:Mu} {mg:Str->Option PH} {base:PZ} {fns:Nms} {U:GG} {x qual:Str} {st:PV} {f:PL} {fd:P4} {N ps:List Str} {k n M:Nat} {an:An} {body:bB}
theorem nT{fb:Ro->Option Res}(F:Fun K x qual st f fd)(S:a6 N ps (ab st))(T:TabF P w K mg base (a9 fns U) k)(l:∀X:Cx,ao X (a9 fns U) ⟨ab st,N,λ_=>PD⟩->PassesOwn (PQ X.prog X.w) X.A X.env X.xe->a5 X [] fb (aF st)) :
  FnOk P w K mg base iQ (k+1) f fd ps (ny K (jP fb ps.length N.length)):=by
 let hN:ps.length<=N.length:=by
  have:=congrArg NU S.pre;rw[M8] at this
  lia
 show F.ok S (λi H Q E h=>?_) (λo A e s H i Q E V h=>?_)
 ·obtain⟨D,g,W,d,r,B,a,q⟩:=h;unfold jP at a;split at a
  ·ext j;rw[r.len,j]
  ·cases a
 ·obtain⟨D,g,W,d,r,B,a,q⟩:=h;unfold jP at a;split at a
  ·ext j
   let O:ao (lG iQ P w K mg base N qual (ab st) f o A e s H E).nox (a9 fns U) ⟨ab st,N,λ_=>PD⟩:=
    ⟨rfl,rfl,λ_ _=>rfl,rfl,S.nd,T.ok V⟩
   let Y:MuOk H (Sg (g.re λ_=>PC)):=λb z=>B b ((jN b).mp z);let R:RpL K H (Sg (g.re λ_=>PC)) D i:=r.weak λb z=>(jN b).mp z;let I:=nR (N:=N) (Cr R Y) (by simpa[j] using hN);let C:a5 _ [] fb (aF st):=l _ O PassesOwn.never;show⟨_,fw,?_⟩;unfold gg at a;split at a
   ·ext k2 d2 Z2 c;split at a
    ·cases a
    ·ext M;cases a;show C _ _ c _ (bP N i) H _ I λv Y' L n F p t pk Z=>?_;obtain⟨m,u,y⟩:=fY (K:=K) p;show q v n m ⟨F,u,Z.unlend (by simpa using M) y⟩
   ·ext Z' c;cases a;show C _ _ c _ (bP N i) H _ I λY' L n p t pk=>?_;obtain⟨m,u,y⟩:=fY (K:=K) p;show q .non n m DP
   ·cases a
  ·cases a
theorem TabF.addB{i:Nat}{ψ:Fn}(T:TabF P w K mg base (a9 fns U) k)(F:Fun K x qual st f fd)(S:a6 N ps (ab st))(c:mg x=PB (.ref f))(b:Binds K fd ps [])(hd:(x==("__debug__":Str)||ql x)=PF)(hi:fns.fns[i]?=PB x)(a:∀X:Cx,ao X (a9 fns U) ⟨ab st,N,λ_=>PD⟩->PassesOwn (PQ X.prog X.w) X.A X.env X.xe->a5 X [] fb (aF st))(d:∀ds,Le (ψ ds) (jP fb ps.length N.length ds)):TabF P w K mg base (a9 fns (U.addI i ψ)) (k+1):=
 T.addX F (nT F S T a) c b hd hi d
end
def yw(k:Ow)(c:Str)(B:Fm):Fn:=λds=>match B ((k,.nd (.obj c []) [])::ds.map ua) with
 |some (.sh,.non,PB (k',d')::_)=>PB (.fr k',d')
 |_=>PC
theorem Bk(W:Nk K P0 c=PB (PB (.ref C)))(cl:Cls K C):qT C (ny K (yw (.own es r0) c B)) (vD K B):=by
 intro vs H Q s a I t P hc;obtain⟨U,g,kd,d,r,m,y,q⟩:=s;unfold yw at y;split at y
 ·ext T d' os O;cases y
  let E:Same H (upd (upd H I (.own a)) a (.ins C I [])):=λb o e=>by
   rw[ag (λz=>by rw[z,t] at e;cases e),ag (λz=>by rw[z,P] at e;cases e)];show e
  let Z:g a=PC:=by
   cases q:g a with
   |none=>rfl
   |some x=>obtain⟨o,e,_⟩:=m a (by rw[Sg,q];simp);rw[t] at e;cases e
  show let l:Gh:=λb=>if b=a then PB (PB 0) else(g.re λ_=>PC) b;?_
  let k:∀b,b≠a->l b=(g.re λ_=>PC) b:=λb h=>if_neg h;let N:l a=PB (PB 0):=if_pos rfl;let u:∀b,b≠a->(Sg l b↔Sg g b):=λb h=>by rw[Sg,k b h];show jN b
  show⟨_,l,.sh,.non,_,⟨λi sl e=>?_,λb z=>?_,by simp[r.len]⟩,O,λv L D F S se vr=>?_⟩
  ·cases i with
   |zero=>
    cases e;show⟨.ref a,λb=>b=a,rfl,λb z=>by rw[z];show N,?_⟩;change Tr K _ (Sg l) (.nd (.obj c []) []) (.own es r0) (.ref a) _;unfold Tr;show⟨a,.ins C I [],[],λ_=>False,rfl,ak,⟨C,I,W,⟨cl,λf hf=>by cases hf⟩,rfl,rfl⟩,λ_ z=>z,(λh=>by cases h),(λb=>⟨λz=>.inl ⟨rfl,z⟩,λz=>z.elim (λz=>z.2) λz=>z.elim⟩),?_⟩;unfold TrL;show⟨rfl,λ_ z=>z⟩
   |succ i=>
    let e:((U.map ua).map Et)[i]?=PB (PB sl):=by simpa using e
    rw[MA,MA] at e
    cases R:U[i]? with
    |none=>rw[R] at e;cases e
    |some d0=>
     rw[R] at e;cases e;obtain⟨v,e1,e2⟩:=r.getD R;show⟨v,jZ,by rw[MQ,OV,MA,e1];rfl,λ_ z=>z.elim,.fz (e2.go λb o n e=>⟨E b o e,λz=>n ((u b λh=>?_).mp z)⟩)⟩;rw[h,t] at e;cases e
  ·by_cases j:b=a
   ·rw[j];show⟨_,ak,λxs h=>by cases h⟩
   ·obtain⟨o,e,n⟩:=m b ((u b j).mp z);show⟨o,E b o e,n⟩
  ·obtain⟨X,A⟩:=(show(∀b,¬F b)/\Rp K D (Sx L F) .non v from vr);let A:v=.non:=by unfold Rp at A;show A
   obtain⟨Y,M,e1,e2,e3⟩:=se.slot 0 ⟨PF,T,d⟩ rfl;cases(show PB (PB (V.ref a))=PB (PB Y) from e1);let pl:L.plus F=L:=aV X;rw[pl] at e2 e3
   let w:Same H D:=λb o e=>S.keep b o (λi z=>by
    let j:b≠a:=λh=>by rw[h,t] at e;cases e
    rw[k b j] at z;show j7 z) (E b o e)
   show⟨A,q (.ref a) D w ⟨M,λb z=>?_,?_⟩⟩
   ·rcases S.new b 0 (e2 b z) with⟨i,p⟩|p
    ·by_cases j:b=a
     ·rw[j];show t
     ·rw[k b j] at p;show absurd p j7
    ·cases qh:H b with
     |none=>rfl
     |some o=>rw[E b o qh] at p;cases p
   ·change Tr K D (Sx g M) d T (.ref a) M;show e3.go (λ_ _ _ e=>e) λb o _ n z=>n ?_;rcases z with z|z
    ·let j:b≠a:=λh=>by rw[h] at z;show z Z
     have:l b=PB PC:=by rw[k b j];show ub z
     rw[Sg,(S.out b).mp this];simp
    ·rw[Sg,e2 b z];simp
 ·cases y
section
variable {P:PR} {w:PX} {K:Mu} {mg:Str->Option PH} {base:PZ} {fns:Nms} {U:GG} {x y qual:Str} {st:PV} {f C:PL} {fd:P4} {N ps:List Str} {k n M i:Nat} {an:An} {body:bB}
def vO(y:Str)(B:Fn):Fn:=λds=>if FZ (mC y) (mM y) ds=PD then B ds else PC
end
def Wp{α:Type}(a:Option α)(Q:α->Prop):Prop:=∃r,a=PB r/\Q r
theorem Wp.mono{α:Type}{a:Option α}{Q R:α->Prop}(h:Wp a Q)(k:∀r,Q r->R r):Wp a R:=let ⟨r,e,q⟩:=h;⟨r,e,k r q⟩
theorem nU{α:Type}{r:α}{Q:α->Prop}(q:Q r):Wp (PB r) Q:=⟨r,rfl,q⟩
section
variable {U:Nat->Option Fn} {Z:Ro} {Q:KD->Prop}
theorem aJ{i:Nat}(h:Z[i]?=PB (PB s))(q:Q (oW i s)):Wp (aa U (.var i) Z) Q:=⟨_,by rw[AI,h];rfl,q⟩
theorem ba(q:Q (.sh,d)):Wp (aa U (.lit d) Z) Q:=⟨_,by rw[tf],q⟩
theorem bb(h:Wp (aa U a Z) λx=>Wp (aa U b Z) λy=>Wp (ed op x y) Q):Wp (aa U (.bin op a b) Z) Q:=by
 obtain⟨x,c,y,d,z,e,q⟩:=h;show⟨z,by rw[AJ,c,d];show e,q⟩
theorem yx(h:Wp (aa U a Z) λx=>Wp (vp x.2) λb=>Q (.sh,.bl (!b))):Wp (aa U (.not a) Z) Q:=by
 obtain⟨x,d,b,c,q⟩:=h;show⟨_,by rw[AL,d];change bV ((vp x.2).map _)=_;rw[c];rfl,q⟩
theorem yy(h:Wp (aO U t Z) λr=>(r=PD->Wp (aa U a Z) Q)/\(r=PF->Wp (aa U b Z) Q)):Wp (aa U (.ifx t a b) Z) Q:=by
 obtain⟨r,d,e,f⟩:=h
 cases r with
 |true=>obtain⟨x,c,q⟩:=e rfl;show⟨x,by rw[tj,d];show c,q⟩
 |false=>obtain⟨x,c,q⟩:=f rfl;show⟨x,by rw[tj,d];show c,q⟩
theorem rP(h:Wp (aZ U es Z) λkds=>Wp (qV k (PB kds)) Q):Wp (aa U (.lst k es) Z) Q:=by
 obtain⟨x,a,z,b,q⟩:=h;show⟨z,by rw[AM,a];show b,q⟩
theorem yz(h:Wp (aZ U es Z) λkds=>Wp (i4 k (PB kds)) Q):Wp (aa U (.tup k es) Z) Q:=by
 obtain⟨x,a,z,b,q⟩:=h;show⟨z,by rw[AN,a];show b,q⟩
theorem pM(h:Wp (aa U a Z) λx=>Wp (eY U lo Z) λl=>Wp (eY U hi Z) λu=>Wp (F5 (PB x) (PB l) (PB u)) Q):Wp (aa U (.sl a lo hi) Z) Q:=by
 obtain⟨x,b,l,d,u,c,z,e,q⟩:=h;show⟨z,by rw[Ef,b,d,c];show e,q⟩
theorem yA(h:Wp (aa U a Z) λx=>Wp (eY U lo Z) λl=>Wp (aa U st Z) λy=>Wp (xv (PB x) (PB l) (PB y)) Q):Wp (aa U (.stp a lo st) Z) Q:=by
 obtain⟨x,b,l,d,y,c,z,e,q⟩:=h;show⟨z,by rw[AO,b,d,c];show e,q⟩
theorem yB(c:U i=PB B)(h:Wp (aZ U es Z) λkds=>Wp (AG B kds) Q):Wp (aa U (.fn i es) Z) Q:=by
 obtain⟨x,a,z,b,q⟩:=h;show⟨z,by rw[xH,a,c];show b,q⟩
theorem du(h:Wp (aZ U es Z) λkds=>Wp (eK x kds) Q):Wp (aa U (.blt x es) Z) Q:=by
 obtain⟨y,b,z,a,q⟩:=h;show⟨z,by rw[tu,b];show a,q⟩
theorem rQ(h:Wp (aa U a Z) λx=>Wp (nB T x.2) λb=>Q (.sh,.bl b)):Wp (aa U (.isi T a) Z) Q:=by
 obtain⟨y,c,z,d,q⟩:=h;show⟨_,by rw[tq,c];change bV (nB T y.2)=_;rw[d];rfl,q⟩
theorem pN(h:Wp (aa U a Z) Q):Wp (aa U (.bool op (.cons a .nil)) Z) Q:=by
 obtain⟨y,b,q⟩:=h;show⟨y,by rw[ia,lM];show b,q⟩
theorem lg(h:Wp (aa U a Z) λx=>∃z,x.2=.bl z/\((op==.And)=z->Wp (aa U (.bool op (.cons b r)) Z) Q)/\((op==.And)≠z->Q (.sh,.bl z))):Wp (aa U (.bool op (.cons a (.cons b r))) Z) Q:=by
 obtain⟨⟨k,d⟩,f,z,e,g,i⟩:=h;let e:d=.bl z:=e;subst e;by_cases c:(op==.And)=z
 ·obtain⟨y,e2,q⟩:=g c;rw[ia] at e2;show⟨y,by rw[ia,lM,f];show(if_pos c).trans e2,q⟩
 ·show⟨_,by rw[ia,lM,f];show if_neg c,i c⟩
theorem dL(h:Wp (gf U it Z) λp=>p.2.length<=100000/\Wp (aP r (dS tg (di U ts) (aa U elt) (aQ Z cap)) p.2) λys=>Q (.fr (.own [] r),.lst ys)):Wp (aa U (.comp r cap tg it ts elt) Z) Q:=by
 obtain⟨p,c,a,ys,b,q⟩:=h;obtain⟨e,d⟩:=p
 show⟨_,by rw[pi,c];change(if d.length<=100000 then _ else _)=_;rw[if_pos a,b],q⟩
variable {T:Bool->Prop}
theorem rR(h:Wp (aa U a Z) λx=>Wp (aa U b Z) λy=>Wp (cY op x.2 y.2) T):Wp (aO U (.cmp op a b) Z) T:=by
 obtain⟨x,c,y,d,z,e,q⟩:=h;show⟨_,by rw[pj,c,d];show e,q⟩
theorem pO(h:Wp (aO U a Z) T):Wp (aO U (.bool op (.cons a .nil)) Z) T:=by
 obtain⟨y,b,q⟩:=h;show⟨y,by rw[fV,gy];show b,q⟩
theorem li(h:Wp (aO U a Z) λz=>((op==.And)=z->Wp (aO U (.bool op (.cons b r)) Z) T)/\((op==.And)≠z->T z)):Wp (aO U (.bool op (.cons a (.cons b r))) Z) T:=by
 obtain⟨z,d,e,f⟩:=h;by_cases c:(op==.And)=z
 ·obtain⟨y,e2,q⟩:=e c;rw[fV] at e2;show⟨y,by rw[fV,gy,d];show(if_pos c).trans e2,q⟩
 ·show⟨_,by rw[fV,gy,d];show if_neg c,f c⟩
variable {L:List KD->Prop}
theorem aU(q:L []):Wp (aZ U .nil Z) L:=⟨_,by rw[aZ],q⟩
theorem aB(h:Wp (aa U a Z) λx=>Wp (aZ U r Z) λxs=>L (x::xs)):Wp (aZ U (.cons a r) Z) L:=by
 obtain⟨x,c,xs,b,q⟩:=h;show⟨_,by rw[aZ,c,b];rfl,q⟩
theorem jp{P:Option Int->Prop}(q:P PC):Wp (eY U .non Z) P:=⟨_,by rw[eY],q⟩
theorem lj{P:Option Int->Prop}(h:Wp (aa U a Z) λx=>∃i,x.2=.int i/\P (PB i)):Wp (eY U (.som a) Z) P:=by
 obtain⟨⟨k,d⟩,c,i,b,q⟩:=h;let b:d=.int i:=b;subst b;show⟨_,by rw[eY,c];rfl,q⟩
variable {P:List Nat×List D->Prop}
theorem gh(h:Wp (aa U a Z) λx=>Wp (q5 (PB x)) P):Wp (gf U (.e a) Z) P:=by
 obtain⟨x,b,z,c,q⟩:=h;show⟨z,by rw[gf,b];show c,q⟩
theorem nV(h:Wp (aa U a Z) λx=>Wp (vA (PB x)) P):Wp (gf U (.enm a) Z) P:=by
 obtain⟨x,b,z,c,q⟩:=h;show⟨z,by rw[gf,b];show c,q⟩
theorem ue(h:Wp (aa U a Z) λx=>Wp (aa U b Z) λy=>Wp (q8 (PB x) (PB y)) P):Wp (gf U (.zp a b) Z) P:=by
 obtain⟨x,e,y,c,h⟩:=h;change Wp (q8 (aa U a Z) (aa U b Z)) P;rw[e,c];show h
theorem gM(h:Wp (aa U a Z) λx=>Wp (aa U b Z) λy=>Wp (q9 (PB x) (PB y)) P):Wp (gf U (.rng a b) Z) P:=by
 obtain⟨x,c,y,d,z,e,q⟩:=h;show⟨z,by rw[gf,c,d];show e,q⟩
end
section
variable {Q:KD->Prop} {k k':Kd} {i j:Int}
theorem yC(q:Q (.sh,.int (i+j))):Wp (ed .Add (k,.int i) (k',.int j)) Q:=nU q
theorem rS(q:Q (.sh,.int (i-j))):Wp (ed .Sub (k,.int i) (k',.int j)) Q:=nU q
theorem yD(h:i.natAbs<lim/\j.natAbs<lim)(q:Q (.sh,.int (i*j))):Wp (ed .Mult (k,.int i) (k',.int j)) Q:=⟨_,fP (if_pos h),q⟩
theorem uf(h:0<j/\j.natAbs<lim)(q:Q (.sh,.int (i / j))):Wp (ed .FloorDiv (k,.int i) (k',.int j)) Q:=⟨_,fP (if_pos h),q⟩
theorem ER(h:0<j)(q:Q (.sh,.int (i%j))):Wp (ed .Mod (k,.int i) (k',.int j)) Q:=⟨_,fP (if_pos h),q⟩
theorem yE(h:0<=j/\j<=1000000/\i.natAbs<2^64)(q:Q (.sh,.int (i^j.toNat))):Wp (ed .Pow (k,.int i) (k',.int j)) Q:=⟨_,fP (if_pos h),q⟩
theorem rT(h:0<=j/\j<=1000000/\i.natAbs<lim)(q:Q (.sh,.int (i*2^j.toNat))):Wp (ed .LShift (k,.int i) (k',.int j)) Q:=⟨_,fP (if_pos h),q⟩
theorem ES(h:0<=j)(q:Q (.sh,.int (i / 2^j.toNat))):Wp (ed .RShift (k,.int i) (k',.int j)) Q:=⟨_,fP (if_pos h),q⟩
theorem ET{xs ys:List D}(h:dF k xs=PD/\dF k' ys=PD/\xs.length+ys.length<=100000)(q:Q (.fr bQ,.lst (xs++ys))):Wp (ed .Add (k,.lst xs) (k',.lst ys)) Q:=⟨_,if_pos h,q⟩
variable {T:Bool->Prop}
theorem Cs(q:T (decide (j<=i))):Wp (cY .GtE (.int i) (.int j)) T:=nU q
theorem EU(h:d9 90 x=PD/\d9 90 y=PD)(q:T (gx x y)):Wp (cY .Eq x y) T:=⟨_,if_pos h,q⟩
theorem EV(h:d9 90 x=PD/\d9 90 y=PD)(q:T (!gx x y)):Wp (cY .NotEq x y) T:=⟨_,if_pos h,q⟩
theorem j8:gx (.int i) (.int j)=decide (i=j):=by
 unfold gx py;simp[PyData.eqv]
 try rfl
theorem Ct(q:T (decide (i=j))):Wp (cY .Eq (.int i) (.int j)) T:=EU ⟨rfl,rfl⟩ (by rw[j8];show q)
theorem Cu(q:T (!decide (i=j))):Wp (cY .NotEq (.int i) (.int j)) T:=EV ⟨rfl,rfl⟩ (by rw[j8];show q)
variable {xs:List D} {d:D} {n:Nat}
theorem EW(a:jL xs.length z=PB n)(hd:xs[n]?=PB d)(q:Q (o5 k n,d)):Wp (xr (PB (k,.nd .lst xs)) (PB (k',.int z))) Q:=⟨_,by change(match jL xs.length z with|some j=>(xs[j]?).map (λd=>(o5 k j,d))|none=>PC)=_;rw[a];change(xs[n]?).map _=_;rw[hd];rfl,q⟩
theorem EX(a:jL xs.length z=PB n)(hd:xs[n]?=PB d)(q:Q (o5 k n,d)):Wp (xr (PB (k,.nd .tup xs)) (PB (k',.int z))) Q:=⟨_,by change(match jL xs.length z with|some j=>(xs[j]?).map (λd=>(o5 k j,d))|none=>PC)=_;rw[a];change(xs[n]?).map _=_;rw[hd];rfl,q⟩
theorem ug{m:Nat}{z:Int}(a:0<=z)(h1:z<m):jL m z=PB z.toNat:=by unfold jL;rw[if_pos a,if_pos h1]
end
theorem EY{Q:KD->Prop}(h:Az d=PB n)(q:Q (.sh,.int n)):Wp (eK "len" [(k,d)]) Q:=by
 show⟨(.sh,.int n),?_,q⟩;let e:eK "len" = xw:=by unfold eK;rw[if_pos rfl]
 rw[e];unfold xw;dsimp only;rw[h];rfl
theorem uh{Q:KD->Prop}(h:dF k ds=PD)(q:Q (.fr bQ,.lst ds)):Wp (eK "list" [(k,.nd .lst ds)]) Q:=⟨_,if_pos h,q⟩
theorem lm{Q:KD->Prop}(h:dF k ds=PD)(q:Q (D3 k,.tup ds)):Wp (eK "tuple" [(k,.nd .lst ds)]) Q:=⟨_,if_pos h,q⟩
theorem EZ{Q:KD->Prop}{bs:List Bool}(q:Q (.sh,.bl (bs.all id))):Wp (eK "all" [(k,.nd .lst (bs.map D.bl))]) Q:=by
 show⟨(.sh,.bl (bs.all id)),?_,q⟩;let e:eK "all" [(k,.nd .lst (bs.map D.bl))]=(c4 (bs.map D.bl)).map λbs=>(Kd.sh,D.bl (bs.all id)):=rfl;rw[e,jD];rfl
theorem ui{B:Fn}{kds:List KD}{Q:KD->Prop}(h:Wp (B (kds.map (·.2))) λr=>bE r.1=PF/\((kds.all λp=>qR p.1 p.2)=PD\/kK r.1 r.2=PD)/\Q r):Wp (AG B kds) Q:=by
 obtain⟨⟨c,d⟩,e,b,f,q⟩:=h;show⟨(c,d),?_,q⟩;unfold AG;rw[e];dsimp only;by_cases a:(kds.all λp=>qR p.1 p.2)=PD
 ·rw[if_pos a,if_neg (by simpa using b)]
 ·rw[if_neg a,if_pos (f.resolve_left a)]
section
variable {U:GG} {Z:Ro} {Q:Kd×D×Ro->Prop}
theorem ce(h:Wp (aa U.fn e Z) λx=>Q (x.1,x.2,Z)):Wp (bp U (.p e) Z) Q:=by
 obtain⟨x,a,q⟩:=h;show⟨_,by rw[xZ,a];rfl,q⟩
theorem dv{i:Nat}(h:Z[i]?=PB (PB ⟨PF,.own es r,d⟩))(q:Q (.fr (.own es r),d,Z.set i PC)):Wp (bp U (.mv i) Z) Q:=⟨_,by rw[EC];unfold xU;rw[h];rfl,q⟩
theorem uj{B:Fm}(c:U.fm f=PB B)(h:Wp (fu U as Z) λp=>(cJ p.1).Nodup/\∃ks,eM p.2 p.1=PB ks/\Wp (B ks) λo=>bE o.1=PF/\o.2.2.length=p.1.length/\Q (o.1,o.2.1,cQ p.1 (o.2.2.map Cb) p.2)):Wp (bp U (.io f as) Z) Q:=by
 obtain⟨⟨e,k⟩,j,g,ks,hk,⟨l,d,m⟩,b,a,i,q⟩:=h;show⟨_,?_,q⟩;rw[rD,c,j];unfold AV;dsimp only;rw[if_pos g,hk];dsimp only;rw[b];dsimp only;show if_neg (by rw[a];simpa using i)
theorem uk{f:List KD->Option KD}(h:Wp a λp=>Wp (f p.1) λr=>Q (r.1,r.2,p.2)):Wp (oS f a) Q:=by
 obtain⟨⟨b,e⟩,g,r,c,q⟩:=h
 show⟨_,by rw[g];change(match f b with|some (kd,d)=>PB (kd,d,e)|none=>PC)=_;rw[c],q⟩
theorem yF(h:Wp (cu U as Z) λp=>Wp (eK x p.1) λr=>Q (r.1,r.2,p.2)):Wp (bp U (.blt x as) Z) Q:=by rw[A1];show uk h
theorem dU(h:Wp (cu U as Z) λp=>Wp (i4 k (PB p.1)) λr=>Q (r.1,r.2,p.2)):Wp (bp U (.tup k as) Z) Q:=by rw[A2];show uk h
theorem nW(h:Wp (cu U as Z) λp=>∃x y,p.1=[x,y]/\Wp (ed op x y) λr=>Q (r.1,r.2,p.2)):Wp (bp U (.bin op as) Z) Q:=by
 rw[A3];show uk (h.mono λp ⟨x,y,e,w⟩=>by rw[e];show w)
theorem Cv(h:Wp (cu U as Z) λp=>∃x y,p.1=[x,y]/\Wp (xr (PB x) (PB y)) λr=>Q (r.1,r.2,p.2)):Wp (bp U (.ix as) Z) Q:=by
 rw[ED];show uk (h.mono λp ⟨x,y,e,w⟩=>by rw[e];show w)
theorem nX{cap:List (Option Nat)}(h:Wp (nM U it Z) λp=>p.1=[]/\p.2.1.length<=100000/\Wp (aH r (ik cap tg (A0 U ts) (bp U elt)) p.2.1 (aQ p.2.2 cap)) λz=>z.2.length=cap.length/\Q (.fr (.own [] r),.lst z.1,cQ (jf cap) z.2 p.2.2)):Wp (bp U (.comp r cap tg it ts elt) Z) Q:=by
 obtain⟨⟨j,k,i⟩,e,a,b,⟨f,g⟩,c,d,q⟩:=h;show⟨_,?_,q⟩;rw[pz,e];unfold jg;dsimp only at a b c d⊢;rw[if_pos ⟨a,b⟩,c];dsimp only;rw[if_pos d]
theorem E1{i:Nat}(g:Z[i]?=PB (PB ⟨PF,.own es0 r0,.nd .lst ds0⟩))(h:Wp (bp U a Z) λp=>∃es r ds,p.2.2[i]?=PB (PB ⟨PF,.own es r,.nd .lst ds⟩)/\(es.length<=ds.length/\bM r (dJ p.1 p.2.1,p.2.1)=PD/\ds.length<100000)/\Q (.sh,.non,p.2.2.set i (PB ⟨PF,.own es r,.lst (ds++[p.2.1])⟩))):Wp (bp U (.mutM "append" i a) Z) Q:=by
 obtain⟨⟨c,d,b⟩,j,es,r,ds,e,f,q⟩:=h;show⟨_,?_,q⟩;rw[ya,j,g];change iq "append" i (gA b[i]?) (PB [(dJ c d,d)]) b=_;dsimp only at e f;rw[e]
 change(match ji "append" es r ds [(dJ c d,d)],b[i]? with|some (d',ds'),PB (PB ⟨PF,k,_⟩)=>PB (Kd.sh,d',b.set i (PB ⟨PF,k,id (.lst ds')⟩))|_,_=>PC)=_
 have:ji "append" es r ds [(dJ c d,d)]=PB (.non,ds++[d]):=if_pos f;rw[this,e];rfl
theorem iw{i:Nat}(h:Wp (aa U.fn e Z) λx=>∃es r ds,Z[i]?=PB (PB ⟨PF,.own es r,.nd .lst ds⟩)/\(es.length<=ds.length/\bM r x=PD/\ds.length<100000)/\Q (.sh,.non,Z.set i (PB ⟨PF,.own es r,.lst (ds++[x.2])⟩))):Wp (bp U (.mut "append" (.nm i) (.cons e .nil)) Z) Q:=by
 obtain⟨x,b,es,r,ds,a,c,q⟩:=h;show⟨_,?_,q⟩;rw[j0,aZ,aZ,b];change iq "append" i (rC U.fn (.nm i) Z) (PB [x]) Z=_;rw[rC,a]
 change(match ji "append" es r ds [x],Z[i]? with|some (d',ds'),PB (PB ⟨PF,k,_⟩)=>PB (Kd.sh,d',Z.set i (PB ⟨PF,k,id (.lst ds')⟩))|_,_=>PC)=_
 have:ji "append" es r ds [x]=PB (.non,ds++[x.2]):=if_pos c;rw[this,a];rfl
variable {A:List RA×Ro->Prop}
theorem ln(q:A ([],Z)):Wp (fu U .nil Z) A:=⟨_,by rw[fu],q⟩
theorem lp{i:Nat}(c:Z[i]?=PB (PB s))(h:Wp (fu U r Z) λp=>A (.ref i::p.1,p.2)):Wp (fu U (.ref i r) Z) A:=by
 obtain⟨⟨b,d⟩,a,q⟩:=h;show⟨_,by rw[fu,c,a];rfl,q⟩
theorem eP(h:Wp (bp U a Z) λx=>bE (dJ x.1 x.2.1)=PF/\Wp (fu U r x.2.2) λp=>A (.val (dJ x.1 x.2.1) x.2.1::p.1,p.2)):Wp (fu U (.val a r) Z) A:=by
 obtain⟨⟨e,d,i⟩,f,b,⟨g,j⟩,c,q⟩:=h;show⟨_,?_,q⟩;rw[fu,f]
 change(if bE (dJ e d)=PD then PC else _)=_
 dsimp only at b c;rw[if_neg (by rw[b];decide),c]
variable {S:List KD×Ro->Prop}
theorem bY(h:Wp (bp U a Z) λx=>Wp (aZ U.fn r x.2.2) λxs=>S ((x.1,x.2.1)::xs,x.2.2)):Wp (cu U (.fin a r) Z) S:=by
 obtain⟨⟨e,d,c⟩,f,xs,b,q⟩:=h;show⟨_,?_,q⟩;rw[cu,f]
 change(match aZ U.fn r c with|some kds=>PB ((e,d)::kds,c)|none=>PC)=_
 dsimp only at b;rw[b]
theorem bd(h:Wp (bp U a Z) λx=>bE (dJ x.1 x.2.1)=PF/\Wp (cu U r x.2.2) λp=>S ((dJ x.1 x.2.1,x.2.1)::p.1,p.2)):Wp (cu U (.cons a r) Z) S:=by
 obtain⟨⟨f,d,i⟩,g,b,⟨e,j⟩,c,q⟩:=h;show⟨_,?_,q⟩;rw[cu,g]
 change(if bE (dJ f d)=PD then PC else _)=_
 dsimp only at b c;rw[if_neg (by rw[b];decide),c]
variable {T:Bool×Ro->Prop}
theorem mF(h:Wp (aO U.fn e Z) λb=>T (b,Z)):Wp (k4 U (.p e) Z) T:=by
 obtain⟨x,a,q⟩:=h;show⟨_,by rw[k4,a];rfl,q⟩
variable {I:List Nat×List D×Ro->Prop}
theorem cb(h:Wp (gf U.fn it Z) λp=>I (p.1,p.2,Z)):Wp (nM U (.p it) Z) I:=by
 obtain⟨x,a,q⟩:=h;show⟨_,by rw[nM,a];rfl,q⟩
end
theorem jq{P:List Nat×List D->Prop}(h:fU i j=PD)(q:P ([],dR i j)):Wp (q9 (PB (k,.int i)) (PB (k',.int j))) P:=⟨_,if_pos h,q⟩
theorem cy{i j:Int}(h1:-100000<=i)(h2:i<=100000)(a:-100000<=j)(b:j<=100000)(c:j-i<=100000):fU i j=PD:=by
 simp only[fU,Mw,decide_eq_true_eq]
 lia
theorem fB{i j:Int}{n:Nat}(h:(dR i j)[n]?=PB d):d=.int (i+n)/\i+n<j:=by
 unfold dR at h;rw[MA] at h;obtain⟨m,a,rfl⟩:=bz h;let b:=(Mv.mp a).1;rw[N5] at b;rw[No b] at a;cases a;show⟨rfl,by lia⟩
theorem dw{P:List Nat×List D->Prop}(h:dF k ds=PD)(q:P (q0 k,ds)):Wp (q5 (PB (k,.nd .lst ds))) P:=⟨_,if_pos h,q⟩
theorem nY{P:List Nat×List D->Prop}(h:dF k ds=PD)(q:P ([],ds)):Wp (q5 (PB (k,.nd .tup ds))) P:=⟨_,if_pos h,q⟩
theorem yG{ns:List Int}{P:List Nat×List D->Prop}(q:P ([],ns.map D.int)):Wp (q5 (PB (k,.scr ns))) P:=⟨_,rfl,q⟩
def Kt(U:GG)(N:Nat)(rest:bB)(pn:List Nat)(Q:Res->Prop):Res->Prop
 |.nx Z=>Wp (aq U N rest pn Z) Q
 |r=>Q r
section
variable {U:GG} {N:Nat} {pn:List Nat} {Z:Ro} {Q:Res->Prop} {rest:bB}
theorem eB(h:Wp (aq U N rest pn Z) Q):Kt U N rest pn Q (.nx Z):=h
theorem ul(h:Q (.rt k d Z)):Kt U N rest pn Q (.rt k d Z):=h
theorem a7(q:Q (.nx Z)):Wp (aq U N .nil pn Z) Q:=⟨_,by rw[aq],q⟩
theorem dW(h:Wp (ow U N s pn Z) (Kt U N rest pn Q)):Wp (aq U N (.cons s rest) pn Z) Q:=by
 obtain⟨r,a,q⟩:=h
 cases r with
 |nx b=>obtain⟨z,c,q⟩:=q;show⟨z,by rw[aq,a];show c,q⟩
 |rt k d b=>show⟨_,by rw[aq,a];rfl,q⟩
 |ct b=>show⟨_,by rw[aq,a];rfl,q⟩
 |bk b=>show⟨_,by rw[aq,a];rfl,q⟩
theorem eC(h:Wp (bp U a Z) λx=>(bE (dJ x.1 x.2.1)=PF/\i∉pn)/\Wp (aq U N rest pn (x.2.2.set i (PB ⟨PF,F9 (dJ x.1 x.2.1),x.2.1⟩))) Q):Wp (aq U N (.cons (.asg i a) rest) pn Z) Q:=by
 obtain⟨⟨e,d,f⟩,c,b,w⟩:=h;show dW ⟨.nx _,?_,eB w⟩;rw[Bb,c];show if_neg (by dsimp only at b;rw[b.1];simpa using b.2)
theorem E2{b:List Nat}(h:Wp (bp U a Z) λx=>∃ds es r,x.2.1=.nd .tup ds/\jk x.1 ds=PB (es,r)/\(b.length=ds.length/\(b.all λi=>!pn.contains i)=PD)/\Wp (aq U N rest pn (rH b ds es r x.2.2)) Q):Wp (aq U N (.cons (.unp b a) rest) pn Z) Q:=by
 obtain⟨⟨e,d,g⟩,j,ds,es,r,c,hk,f,w⟩:=h;dsimp only at c hk;subst c;show dW ⟨.nx _,?_,eB w⟩;rw[Bc,j]
 change(match jk e ds with|some (es,r)=>if b.length=ds.length/\(b.all λi=>!pn.contains i)=PD then PB (Res.nx (rH b ds es r g)) else PC|none=>PC)=_
 rw[hk];show if_pos f
theorem Ie{i:Nat}{s:Sl}(f:Z[i]?=PB (PB s))(h:Wp (bp U a Z) λx=>i∉pn/\Wp (A7 op s.d x.2.1) λz=>Wp (aq U N rest pn (x.2.2.set i (PB (F6 z)))) Q):Wp (aq U N (.cons (.aug i op a) rest) pn Z) Q:=by
 obtain⟨⟨g,d,j⟩,e,c,z,b,w⟩:=h;show dW ⟨.nx _,?_,eB w⟩;rw[Bd,e,f]
 change(if i∈pn then PC else _)=_
 dsimp only at b;rw[if_neg c,b]
theorem pP{b:BP}(h:Wp (bp U a Z) λx=>Wp (rC U.fn b x.2.2) λp=>Wp (aa U.fn k x.2.2) λy=>∃es r hd ds kk g,p.1=.own es r/\p.2.1=.nd hd ds/\x.2.2[b.slot]?=PB (PB ⟨PF,kk,g⟩)/\Wp (nP es r hd ds y.2 (dJ x.1 x.2.1,x.2.1)) λz=>Wp (aq U N rest pn (x.2.2.set b.slot (PB ⟨PF,kk,p.2.2 (.nd z.1 z.2)⟩))) Q):Wp (aq U N (.cons (.put b k a) rest) pn Z) Q:=by
 obtain⟨⟨q,d,o⟩,i,⟨pk,t,n⟩,f,⟨s,m⟩,c,es,r,hd,ds,kk,g,e1,e2,e3,⟨j,l⟩,e,w⟩:=h;dsimp only at e1 e2 e3 f c e;subst e1 e2;show dW ⟨.nx _,?_,eB w⟩;rw[Be,i];unfold yo;dsimp only;rw[f,c,e3];dsimp only;rw[e]
theorem cR(h:Wp (bp U a Z) λx=>bE (dJ x.1 x.2.1)=PF/\Q (.rt (dJ x.1 x.2.1) x.2.1 x.2.2)):Wp (aq U N (.cons (.ret a) rest) pn Z) Q:=by
 obtain⟨⟨e,d,f⟩,c,b,q⟩:=h;show dW ⟨.rt _ _ _,?_,ul q⟩;rw[Bf,c];show if_neg (by dsimp only at b;rw[b];decide)
theorem jJ(h:Wp (bp U a Z) λx=>Wp (aq U N rest pn x.2.2) Q):Wp (aq U N (.cons (.exp a) rest) pn Z) Q:=by
 obtain⟨⟨e,d,c⟩,b,w⟩:=h;show dW ⟨.nx _,?_,eB w⟩;rw[Bg,b];rfl
theorem Ig(h:Wp (k4 U t Z) λp=>(p.1=PD->Wp (aq U N a pn p.2) (Kt U N rest pn Q))/\(p.1=PF->Wp (aq U N b pn p.2) (Kt U N rest pn Q))):Wp (aq U N (.cons (.ifs t a b) rest) pn Z) Q:=by
 obtain⟨⟨r,g⟩,d,e,f⟩:=h
 cases r with
 |true=>obtain⟨x,c,q⟩:=e rfl;show dW ⟨x,by rw[t5,d];show c,q⟩
 |false=>obtain⟨x,c,q⟩:=f rfl;show dW ⟨x,by rw[t5,d];show c,q⟩
theorem pQ{fb:Ro->Option Res}(I:Nat->Ro->Prop):∀(ds:List D) (j:Nat) (Z:Ro),I j Z->(∀(i:Nat) d Z,ds[i]?=PB d->I (j+i) Z->∃ps,pc tg d=PB ps/\(ps.all λp=>!pn.contains p.1)=PD/\Wp (fb (setAll ps (clrN fg Z))) λr=>∃Z',(r=.nx Z'\/r=.ct Z')/\I (j+i+1) Z')->
  ∃Z',gB pn fg tg fb ds Z=PB (.nx (clrN fg Z'))/\I (j+ds.length) Z'
 |[],j,Z,h0,_=>⟨Z,rfl,h0⟩
 |d::ds,j,Z,h0,hs=>by
  obtain⟨ps,e1,e2,r,a,b,c,k⟩:=hs 0 d Z rfl h0
  obtain⟨l,e3,f⟩:=pQ I ds (j+1) b k λi h Z' e g=>by
   have:=hs (i+1) h Z' (by simpa using e) (by rw[show j+(i+1)=j+1+i by lia];show g);rw[show j+(i+1)+1=j+1+i+1 by lia] at this;show this
  show⟨l,?_,by rw[Nh,show j+(ds.length+1)=j+1+ds.length by lia];show f⟩;unfold gB;rw[e1];dsimp only;rw[if_pos e2,a];rcases c with rfl|rfl
  ·show e3
  ·show e3
theorem cU(h:Wp (nM U it Z) λp=>∃I:Nat->Ro->Prop,I 0 (clrN p.1 p.2.2)/\(∀(i:Nat) d Z,p.2.1[i]?=PB d->I i Z->∃ps,pc tg d=PB ps/\(ps.all λq=>!(pn++p.1).contains q.1)=PD/\Wp (aq U N b (pn++p.1) (setAll ps (clrN fg Z))) λr=>∃Z',(r=.nx Z'\/r=.ct Z')/\I (i+1) Z')/\
  ∀Z',I p.2.1.length Z'->Wp (aq U N rest pn (zG p.1 p.2.2 (clrN fg Z'))) Q):Wp (aq U N (.cons (.fo fg tg it b) rest) pn Z) Q:=by
 obtain⟨⟨a,f,c⟩,g,I,k,j,l⟩:=h
 obtain⟨Z',e1,n⟩:=pQ (pn:=pn++a) I f 0 (clrN a c) k λi d Z e m=>by
  have:=j i d Z e (by simpa using m);simpa using this
 show dW ⟨.nx _,?_,eB (l Z' (by simpa using n))⟩;rw[EK,g];change yk a c (gB (pn++a) fg tg (aq U N b (pn++a)) f (clrN a c))=_;rw[e1];rfl
end
theorem yH{f:D->Ro->Option (Option KD×Ro)}{Q:List D×Ro->Prop}{ds:List D}{Z:Ro}(I:Nat->List D->Ro->Prop)(t:I 0 [] Z)(q:∀(i:Nat) d ys Z,ds[i]?=PB d->I i ys Z->Wp (f d Z) λo=>∃a,o.1=PB a/\bM r a=PD/\I (i+1) (ys++[a.2]) o.2)(u:∀ys Z,I ds.length ys Z->Q (ys,Z)):Wp (aH r f ds Z) Q:=by
 let c:∀n,n<=ds.length->∃ys b,aH r f (ds.take n) Z=PB (ys,b)/\I n ys b:=by
  intro n
  induction n with
  |zero=>intro _;show⟨[],Z,by simp[aH],t⟩
  |succ n m=>
   intro y;obtain⟨ys,p,e1,v⟩:=m (by lia);let k:ds[n]?=PB ds[n]:=MF (by lia);obtain⟨⟨o,x⟩,l,a,g,s,j⟩:=q n _ ys p k v;dsimp only at g j;subst g;let w:ds.take (n+1)=ds.take n++[ds[n]]:=by rw[Oj,k];rfl
   show⟨ys++[a.2],x,?_,j⟩;rw[w];show cK e1 (by simp[aH,l,s])
 obtain⟨ys,b,e,h⟩:=c ds.length (Mz _);rw[Nx] at e;show⟨_,e,u ys b h⟩
theorem KS{f:D->Option (Option KD)}{Q:List D->Prop}{ds:List D}(P:Nat->D->Prop)(k:∀(i:Nat) d,ds[i]?=PB d->Wp (f d) λo=>∃a,o=PB a/\bM r a=PD/\P i a.2)(n:∀ys,ys.length=ds.length->(∀(i:Nat) y,ys[i]?=PB y->P i y)->Q ys):Wp (aP r f ds) Q:=by
 let b:∀(ds:List D) (j:Nat),(∀(i:Nat) d,ds[i]?=PB d->Wp (f d) λo=>∃a,o=PB a/\bM r a=PD/\P (j+i) a.2)->∃ys,aP r f ds=PB ys/\ys.length=ds.length/\∀(i:Nat) y,ys[i]?=PB y->P (j+i) y:=by
  intro ds
  induction ds with
  |nil=>intro j _;show⟨[],rfl,rfl,λi y e=>by simp at e⟩
  |cons d ds g=>
   intro j h;obtain⟨o,c,a,rfl,m,l⟩:=h 0 d rfl
   obtain⟨ys,e1,e2,e3⟩:=g (j+1) λi p e=>by
    have:=h (i+1) p (by simpa using e);rw[show j+(i+1)=j+1+i by lia] at this;show this
   show⟨a.2::ys,by simp[aP,c,e1,m],by simp[e2],λi y e=>?_⟩
   cases i with
   |zero=>simp at e;subst e;show l
   |succ i=>
    rw[show j+(i+1)=j+1+i by lia];show e3 i y (by simpa using e)
 obtain⟨ys,e1,e2,e3⟩:=b ds 0 λi d e=>by simpa using k i d e
 show⟨ys,e1,n ys e2 λi y e=>by simpa using e3 i y e⟩
theorem um{ft:Ro->Option Bool}{a:Ro->Option KD}{Q:Option KD->Prop}(h1:pc tg d=PB ps)(h2:bX ps Z0=PD)(c:ft (setAll ps Z0)=PB PD)(h:Wp (a (setAll ps Z0)) λx=>Q (PB x)):Wp (dS tg ft a Z0 d) Q:=by
 obtain⟨x,b,q⟩:=h;show⟨_,?_,q⟩;unfold dS;rw[h1];dsimp only;rw[if_pos h2,c];dsimp only;rw[b];rfl
theorem E3{ft:Ro->Option (Bool×Ro)}{a:Ro->MR}{Q:Option KD×Ro->Prop}(h1:pc tg d=PB ps)(h2:bX ps Z0=PD/\xS cap ps=PD)(h:Wp (ft (setAll ps Z0)) λb=>(b.1=PD->Wp (a b.2) λx=>Q (PB (dJ x.1 x.2.1,x.2.1),clr ps x.2.2))/\(b.1=PF->Q (PC,clr ps b.2))):Wp (ik cap tg ft a d Z0) Q:=by
 obtain⟨⟨b,i⟩,e,g,f⟩:=h
 cases b with
 |true=>
  obtain⟨⟨j,l,k⟩,c,q⟩:=g rfl;show⟨_,?_,q⟩;unfold ik;rw[h1];dsimp only;rw[if_pos h2,e];dsimp only at c⊢;rw[c]
 |false=>
  show⟨_,?_,f rfl⟩;unfold ik;rw[h1];dsimp only;rw[if_pos h2,e]
theorem rU{ft:Ro->Option (Bool×Ro)}{a:Ro->MR}{Q:Option KD×Ro->Prop}(h1:pc tg d=PB ps)(h2:bX ps Z0=PD/\xS cap ps=PD)(b:ft (setAll ps Z0)=PB (PD,setAll ps Z0))(h:Wp (a (setAll ps Z0)) λx=>Q (PB (dJ x.1 x.2.1,x.2.1),clr ps x.2.2)):Wp (ik cap tg ft a d Z0) Q:=
 E3 h1 h2 ⟨_,b,λ_=>h,λe=>by cases e⟩
theorem nZ{ds:List D}(b:ds.length=m)(h:Wp (aq U N body [] (k9 k (ds.map ua))) λr=>Wp (gg (PB r)) Q):Wp (bN U N m k body ds) Q:=by
 obtain⟨r,a,z,c,q⟩:=h;show⟨z,by unfold bN;rw[if_pos b,a];show c,q⟩
theorem Bl{ks:List kW}(b:ks.length=m)(h:Wp (aq U N body pn (k9 k ks)) λr=>Wp (iu m pn (PB r)) Q):Wp (la U N m k pn body ks) Q:=by
 obtain⟨r,a,z,c,q⟩:=h;show⟨z,by unfold la;rw[if_pos b,a];show c,q⟩
theorem eD{Q:KD->Prop}(a:bE kd=PF)(q:Q (kd,d)):Wp (gg (PB (.rt kd d Z))) Q:=⟨_,if_neg (by rw[a];decide),q⟩
theorem pR{Q:Kd×D×List (Option kW)->Prop}(a:bE kd=PF)(q:Q (kd,d,outs m pn Z)):Wp (iu m pn (PB (.rt kd d Z))) Q:=⟨_,if_neg (by rw[a];decide),q⟩
theorem Cw{Q:Kd×D×List (Option kW)->Prop}(q:Q (.sh,.non,outs m pn Z)):Wp (iu m pn (PB (.nx Z))) Q:=⟨_,rfl,q⟩
theorem lq{b:Ow}{p2:D}{o:Option (Option Sl)}{es:List Ow}{r:Ow}{hd:Hd}{ds:List D}{kk:Ow}{a:D}{P:List Ow->Ow->Hd->List D->Ow->D->Prop}(e1:b=.own es r)(e2:p2=.nd hd ds)(e3:o=PB (PB ⟨PF,kk,a⟩))(h:P es r hd ds kk a):∃es r hd ds kk a,b=.own es r/\p2=.nd hd ds/\o=PB (PB ⟨PF,kk,a⟩)/\P es r hd ds kk a:=⟨es,r,hd,ds,kk,a,e1,e2,e3,h⟩
theorem yI{Q:Ow×D×(D->D)->Prop}(h:rC U b Z=PB r)(q:Q r):Wp (rC U b Z) Q:=⟨r,h,q⟩
theorem lr{Q:Hd×List D->Prop}(h:nP es k hd ds d x=PB r)(q:Q r):Wp (nP es k hd ds d x) Q:=⟨r,h,q⟩
theorem rV{Q:KD->Prop}(h:qV k a=PB r)(q:Q r):Wp (qV k a) Q:=⟨r,h,q⟩
theorem dA{Q:KD->Prop}(h:i4 k a=PB r)(q:Q r):Wp (i4 k a) Q:=⟨r,h,q⟩
mutual
theorem uo:∀{d:D} {n:Nat},d9 n d=PD->(py d).canLay0=PD
 |.non,_,_=>by simp[py,PyData.canLay0]
 |.bl _,_,_=>by simp[py,PyData.canLay0]
 |.int _,_,_=>by simp[py,PyData.canLay0]
 |.str x,_,h=>by simpa[py,PyData.canLay0,d9] using h
 |.scr ns,_,_=>by simpa[py,PyData.canLay0] using(jU ns).1
 |.nd .lst ds,n,h=>by
  simp only[d9,Mw] at h;simpa[py,PyData.canLay0] using ls h.2
 |.nd .tup ds,n,h=>by
  simp only[d9,Mw] at h;simpa[py,PyData.canLay0] using ls h.2
 |.nd (.dic _ _) _,n,h=>by simp[d9] at h
 |.nd (.obj _ _) _,n,h=>by simp[d9] at h
theorem ls:∀{ds:List D} {n:Nat},g7 n ds=PD->PyData.canLayAll0 (sO ds)=PD
 |[],_,_=>by simp[sO,PyData.canLayAll0]
 |d::ds,n,h=>by
  simp only[g7,Mw] at h;simp[sO,PyData.canLayAll0,uo h.1,ls h.2]
end
theorem fC(h:d9 n d=PD):gx d d=PD:=by unfold gx;show PySem.SeqAt.eqv_refl _ (uo h)
theorem iy:∀{ds:List D},(∀d∈ds,d9 n d=PD)->g7 n ds=PD
 |[],_=>rfl
 |d::ds,h=>by simp only[g7,Mw];show⟨h d MX,iy λd a=>h d (MK _ a)⟩
noncomputable def Ge:DK->Option (Int×Int)
 |.inr [.inl (.inl a),.inl (.inl b)]=>PB (a,b)
 |_=>PC
def vP:List DK->Option (List (Int×Int))
 |[]=>PB []
 |k::ks=>(Ge k).bind λp=>(vP ks).map λps=>p::ps
noncomputable def hs2(p:Int×Int):Int:=reduceHash (Builtin.Tuple.tupleHashOf [hashInt p.1,hashInt p.2])
def pS(ks:List DK):Bool:=match vP ks with
 |some ps=>decide (ps.map hs2).Nodup
 |none=>PF
def pT(a:Option KD):Option KD:=match a with
 |some (k,.nd (.dic (m+1) ks) ds)=>if dF k ds=PD/\pS ks=PD/\ds.length<=100000 then PB (.fr (.own [] .fz),.nd (.dic (m+1) ks) ds) else PC
 |_=>PC
noncomputable def lu(p q:Int×Int):Bool:=decide (p.1<q.1)||(decide (p.1=q.1)&&decide (p.2<q.2))
def pD(p:Int×Int):D:=.tup [.int p.1,.int p.2]
def rW:List (Int×Int)->Option (List (Int×Int))
 |[]=>PB []
 |[p]=>PB [p]
 |[p,q]=>PB (if lu q p=PD then [q,p] else [p,q])
 |_=>PC
def vQ(a:Option KD):Option KD:=match a with
 |some (_,.nd (.dic (m+1) ks) _)=>(vP ks).bind λps=>(rW ps).map λr=>(.fr (.own [] .fz),.lst (r.map pD))
 |_=>PC
def KU(a:Option KD):Option KD:=match a with
 |some (k,.nd (.dic 0 _) ds)=>if dF k ds=PD/\ds.length<=100000 then PB (.fr (.own [] .fz),.lst ds) else PC
 |_=>PC
noncomputable def E4(i:Nat)(Z:Ro):IR:=match Z[i]? with
 |some (PB ⟨PF,.own [] .fz,.nd (.dic 0 []) []⟩)=>PB ([],[],Z.set i PC)
 |_=>PC
noncomputable def wj(a:Option KD)(Z:Ro):MR:=a.map λp=>(p.1,p.2,Z)
def lw(f:Ro->Option Res)(m k:Nat)(pn:List Nat)(ks:List kW):Option (Kd×D×List (Option kW)):=if ks.length=m then iu m pn (f (k9 k ks)) else PC
noncomputable def bq:bB->Nat->bB
 |.cons s r,n+1=>.cons s (bq r n)
 |_,_=>.nil
noncomputable def br:bB->Nat->bB
 |b,0=>b
 |.cons _ r,n+1=>br r n
 |.nil,_+1=>.nil
end J
namespace L2
open PyProof.Rows
section
variable {prog:PR} {w:PX} {A:PY} {E:PH->PM->Prop} {s:PM}
theorem pU{y:Int}:∀{l:List DictEntry},(l.map (·.hash)).Nodup->(l.filter λx=>x.hash==y).length<=1
 |[],_=>by simp
 |a::l,hn=>by
  rw[MQ,MW] at hn;rw[List.filter_cons];split
  ·ext c;let c:=eq_of_beq c
   have:l.filter (λx=>x.hash==y)=[]:=by
    rw[List.filter_eq_nil_iff];intro b d z;show hn.1 (Nd.mpr ⟨b,d,(eq_of_beq z).trans c.symm⟩)
   rw[this];simp
  ·show pU hn.2
theorem pW{id:String}{o:Obj}{es:Array DictEntry}{Q:Array DictEntry->PM->Prop}(p:s.heap.get? d=PB o)(hd:o.data=.dict es ep)(hk:∀e∈es.toList,∃b,e.key=.ref b/\s.TypeIs (.ref b) "tuple")(k:(es.toList.map (·.hash)).Nodup)(h:Q es s) :
  PP (PQ prog w) A (Builtin.Dict.entriesForEmpty id d) Q E s:=by
 unfold Builtin.Dict.entriesForEmpty;show PJ (wpAny_dictEntries p hd ?_);show PJ (show PP _ _ (forIn es PUnit.unit _) _ _ s from ?_);rw[<- OE];show wpAny_forIn_list _ (λrest _ z=>z=s/\∀e∈rest,e∈es.toList) _ (λe rest _ z c=>?_) (λ_ z c=>?_) _ _ ⟨rfl,λe a=>a⟩
 ·obtain⟨rfl,g⟩:=c;let a:=g e MX;obtain⟨b,i,j⟩:=hk e a
  let n:¬(es.filter λx=>x.hash==e.hash).size > 1:=by
   let e1:(es.filter λx=>x.hash==e.hash).size=(es.toList.filter λx=>x.hash==e.hash).length:=by
    rw[<- Oc,Array.toList_filter]
   rw[e1];have:=pU (y:=e.hash) k
   lia
  show PJ ?_;rw[i];show wpAny_mono (Q:=λq f=>q=PF/\f=z) ?_ (λq f m=>?_) (λ_ _ x=>x)
  ·show PJ (wpAny_specialOf j F.slot_tuple_eq.lookup (PN ⟨by decide,rfl⟩))
  ·obtain⟨rfl,rfl⟩:=m;simp only[Bool.not_false,if_true];rw[if_neg n];show PN ⟨rfl,λu l=>g u (MK _ l)⟩
 ·obtain⟨rfl,_⟩:=c;show PN h
theorem vR{nm:String}{l j:Obj}{es:Array DictEntry}{Q:Unit->PM->Prop}(h:d≠o)(i:(o==sysModules)=PF)(hd:s.heap.get? d=PB l)(c:l.data=.dict #[] epd)(f:s.heap.get? o=PB j)(a:j.data=.dict es ep)(hk:∀e∈es.toList,∃b,e.key=.ref b/\s.TypeIs (.ref b) "tuple")(p:(es.toList.map (·.hash)).Nodup)(n:es.size<=sizeLine)(r:es=#[]->Q () s)(h1:Q () { s with heap:=s.heap.update d (Obj.mapDictKeys λ_=>es) }) :
  PP (PQ prog w) A (Builtin.Dict.mergeDict nm d o) Q E s:=by
 unfold Builtin.Dict.mergeDict;rw[if_neg (by simpa using h)];unfold Builtin.Dict.showsAll;rw[if_neg (by rw[i];show M4)];show PJ (PN ?_);show PJ (wpAny_dictEntries f a ?_);by_cases g:es=#[]
 ·subst g;let e1:(!(decide ((#[]:Array DictEntry).size<=8)&&(#[]:Array DictEntry).all λe=>(keyPart e.key).isSome))=PF:=by simp
  dsimp only;rw[e1,if_neg M4];show PJ (wpAny_dictEpoch f a ?_);show PJ (wpAny_dictEntries f a ?_);show PJ ?_;rw[Std.Legacy.Range.forIn_eq_forIn_range'];show PN (PN (r rfl))
 ·let e1:(!(decide (es.size<=8)&&es.all λe=>(keyPart e.key).isSome))=PD:=by
   rw[NF,Bool.and_eq_false_iff];right
   let k:0<es.toList.length:=by
    rcases Pg es.toList.length with q|q
    ·show absurd (Ps.mp (NG.mp q)) g
    ·show q
   obtain⟨b,m,_⟩:=hk es.toList[0] (OR k);rw[<- Array.all_toList,List.all_eq_false];show⟨es.toList[0],OR k,by rw[m];show M4⟩
  dsimp only;rw[if_pos e1];show PJ (wpAny_dictEntries hd c ?_);rw[if_pos (by rfl)];show PJ (pW f a hk p ?_);rw[if_pos (by simpa using g)];show PJ (wpAny_updateDictKeysTo hd c (PN h1) (OO n))
theorem yJ{i:Obj}{es:Array DictEntry}{Q:PH->PM->Prop}(p:(o==sysModules)=PF)(t:s.heap.get? o=PB i)(l:i.ExactDict)(k:i.data=.dict es ep)(hk:∀e∈es.toList,∃b,e.key=.ref b/\s.TypeIs (.ref b) "tuple")(z:(es.toList.map (·.hash)).Nodup)(x:es.size<=sizeLine)(h:∀h' n,(∀b q,s.heap.get? b=PB q->h'.get? b=PB q)->h'.get? s.heap.objs.size=PB { cls:=.type "dict",data:=.dict es n }->Q (.ref s.heap.objs.size) { s with heap:=h' }) :
  PP (PQ prog w) A (call (.type "dict") [.ref o]) Q E s:=by
 show callType_codes (Q₁:=λg r=>g=.ref s.heap.objs.size/\r={ s with heap:=s.heap.push { cls:=.type "dict",data:=.dict #[] } }) F.kt_called_dict (F.kt_typeCall_dict_1 _) F.entry_dict_init (kt_code_dict_new _ ⟨rfl,rfl⟩) ?_
 rintro g r ⟨rfl,rfl⟩
 let B:o<s.heap.objs.size:=MC t;let a:(s.heap.push { cls:=.type "dict",data:=.dict #[] }).get? s.heap.objs.size=PB { cls:=.type "dict",data:=.dict #[] }:=ML _ rfl;let f:(Shared.mk (s.heap.push { cls:=.type "dict",data:=.dict #[] }) s.gens s.drawn s.toks s.os).TypeIs (.ref s.heap.objs.size) "dict":=⟨_,a,rfl⟩;let d:(s.heap.push { cls:=.type "dict",data:=.dict #[] }).get? o=PB i:=Mx _ t;let c:(Shared.mk (s.heap.push { cls:=.type "dict",data:=.dict #[] }) s.gens s.drawn s.toks s.os).TypeIs (.ref o) "dict":=⟨_,d,l.1⟩;show⟨f,F.args_dict_init_2 _ _,?_⟩;unfold Builtin.«dict.__init__»;show PJ ?_;unfold Builtin.Dict.selfAndRest;show PJ (wpAny_notOrdered_dict f ?_);change PP _ _ (pure (s.heap.objs.size,[Value.ref o])) _ _ _;show PN ?_;change PP _ _ (Builtin.Dict.updateFrom "dict.__init__" s.heap.objs.size (.ref o) [] .none) _ _ _;unfold Builtin.Dict.updateFrom;show PJ (wpAny_typeOf c ?_);rw[if_neg (by decide)];show PJ ?_;unfold Builtin.Dict.merge;show PJ ?_;unfold Builtin.Dict.readDirectly;show PJ (wpAny_isInstance c isSubtype_dict_dict ?_);simp only[Oa,Nn,if_false];show PJ (wpAny_specialOf c F.slot_dict_iter.lookup (PN ?_));simp only[beq_self_eq_true,if_true];show PJ (PN ?_);let m:∀b q,b≠s.heap.objs.size->s.heap.get? b=PB q->((s.heap.push { cls:=.type "dict",data:=.dict #[] }).update s.heap.objs.size (Obj.mapDictKeys λ_=>es)).get? b=PB q:=λb q u e=>(N1 _ _ (Ne.symm u)).trans (Mx _ e);show vR (NL B) p a rfl d k (λe j=>?_) z x (λj=>?_) ?_
 ·obtain⟨b,v,y,e1,e2⟩:=hk e j;show⟨b,v,y,Mx _ e1,e2⟩
 ·subst j;show PJ (PN (PN ⟨rfl,h _ 0 (λb q e=>Mx _ e) a⟩))
 ·have:=Os (Obj.mapDictKeys λ_=>es) a rfl;show PJ (PN (PN ⟨rfl,h _ 1 (λb q e=>m b q (MM (MC e)) e) this⟩))
end
section
variable {X:Cx}
def KW(X:Cx)(ta:TA):TE:=λY H Q=>ta Y H λvs H1=>∃a m ep kvs,vs=[.ref a]/\H1 a=PB (.dT m ep kvs)/\(kvs.map λp=>(bH m (aK X.prog X.w)).hash p.1).Nodup/\∀p n,H1 p=PC->Q (.ref p) (upd H1 p (.dT m n kvs))
theorem E5{a:PK}(P:Gl X "dict")(hm:X.mg "dict" = PC)(ha:PA X [a] ta)(hs:PU [a] X.env=[(PF,eval a X.env)]):PE X (.Call (.Name "dict" p) [a] [] pos) (KW X ta):=by
 intro j s Y H Q I h;show Call_ (dP I P hm boot_dict (PyProof.Rows.callWith_type1 (aY (ha pos j s Y H _ I h) λus s1 ⟨vs,H1,f,r1,C,m,ep,d,e,r,K,q⟩=>?_) hs rfl));subst e;obtain⟨u,rfl,ru⟩:=r1.one;cases(show u=Value.ref C from ru);let B:=w5 f.hok r;obtain⟨hd,xs,o,l,g,N,h2,D,k⟩:=w4 f.hok r;let L:l.size=d.length:=by rw[size_of_entries k,Paired.length g]
 let hk:∀e∈l.toList,∃b,e.key=.ref b/\s1.TypeIs (.ref b) "tuple":=λe M=>by
  rw[k] at M;obtain⟨x,O,rfl⟩:=Nd.mp M;obtain⟨i,U,rfl⟩:=Pb.mp O;obtain⟨p,_,e1,e2,_⟩:=Paired.get g (MF U);show⟨_,rfl,IsDeep.ty (eG f.hok e2)⟩
 let S:(l.toList.map (·.hash)).Nodup:=by
  rw[k,MV]
  have:(xs.map ((λx=>x.hash)∘entryOfKey (bH m (aK X.prog X.w))))=d.map λp=>(bH m (aK X.prog X.w)).hash p.1:=by
   clear K k L hk B r q
   induction g with
   |nil=>rfl
   |cons h t V=>rw[MQ,MQ,V,h.1];rfl
  rw[this];show K
 show yJ hd N h2 D hk S (by rw[L];show B.1) λh' n Z W=>?_;show⟨.ref s1.heap.objs.size,_,f.laid (t':=s1.toks) (a:=s1.heap.objs.size) (o:=.dT m n d) Z (Mz _) ?_,rfl,q _ n (f.hok.fresh (Mz _))⟩;obtain⟨_,y,A,r',o',hb,F,g2,E,R,T⟩:=(show ObjOk X.prog X.w H1 s1.heap C (.dT m ep d) from f.hok C _ r);rw[N] at F;cases F;rw[D] at E;cases E
 show⟨B.1,beq_eq_false_iff_ne.mpr (Ne.symm (MM f.big)),A,KT.keeps r' λc ys v=>(by
  rw[ag (λz=>by rw[z,f.hok.fresh (Mz _)] at v;cases v)];show v),_,l,W,⟨rfl,rfl,rfl⟩,rfl,R,T⟩
end
end L2
namespace L2
open PySem PySem.Spec PySem.W PyProof.Rows
noncomputable def E6{α:Type}(lt:Nat->Nat->Bool):KasT α->α
 |.ret a=>a
 |.ask i j k=>E6 lt (k (lt i j))
noncomputable def Bm{α:Type}(P lt:Nat->Nat->Bool):KasT α->Bool
 |.ret _=>PD
 |.ask i j k=>P i j&&Bm P lt (k (lt i j))
theorem uq{α:Type}{a:Nat->Nat->(Bool->PM->Prop)->PM->Prop}{P lt:Nat->Nat->Bool}{Q:α->PM->Prop}{s:PM}(b:∀i j C,P i j=PD->C (lt i j) s->a i j C s):∀t:KasT α,Bm P lt t=PD->Q (E6 lt t) s->t.kasWp a Q s
 |.ret _,_,q=>q
 |.ask i j k,h,q=>by
  let h:(P i j&&Bm P lt (k (lt i j)))=PD:=h;rw[Mw] at h;show b i j _ h.1 (uq b (k (lt i j)) h.2 q)
noncomputable def E7(x y:Bool)(i j:Nat):Bool:=if i=0/\j=1 then x else if i=1/\j=0 then y else PF
noncomputable def KY(i j:Nat):Bool:=decide (i<2)&&decide (j<2)
theorem Ih:∀x y:Bool,(x&&y)=PF->Bm KY (E7 x y) (kas_sort 2)=PD/\(E6 (E7 x y) (kas_sort 2)).toList=if y=PD then [1,0] else [0,1]:=by nofun
def KZ:List (Int×Int)->Bool
 |[p,q]=>J.lu q p
 |_=>PF
def eQ(h:PZ)(v:PH)(p:Int×Int):Prop:=∃b o t u n,v=.ref b/\h.get? b=PB o/\o.cls=.type "tuple"/\o.data=.seq #[.int p.1 t,.int p.2 u] n
section
variable {prog:PR} {w:PX} {A:PY} {E:PH->PM->Prop} {s:PM}
theorem n4{C:Bool->PM->Prop}(d:eQ s.heap x p)(j:eQ s.heap y q)(h:C (J.lu p q) s):PP (PQ prog w) A (keyLt' (tuples' PD) x y) C E s:=by
 obtain⟨b,o,t,u,n,rfl,i,l,f⟩:=d;obtain⟨b2,r,v,k,z,rfl,g,m,c⟩:=j;show kat_lt i f g c ?_;show kat_cons (wpAny_eqBool_int ?_);unfold J.lu at h;by_cases e:p.1=q.1
 ·rw[show(p.1==q.1)=PD from beq_iff_eq.mpr e];show kat_yes (kat_cons (wpAny_eqBool_int ?_));let a:decide (p.1<q.1)=PF:=decide_eq_false (by lia);rw[a,decide_eq_true e,Bool.false_or,Oo] at h;by_cases e2:p.2=q.2
  ·rw[show(p.2==q.2)=PD from beq_iff_eq.mpr e2];show kat_yes (kat_nil ?_);rw[decide_eq_false (show ¬p.2<q.2 by lia)] at h;show h
  ·rw[show(p.2==q.2)=PF from beq_eq_false_iff_ne.mpr e2];show kat_no (kat_one _ _ (lt_int h))
 ·rw[show(p.1==q.1)=PF from beq_eq_false_iff_ne.mpr e];rw[decide_eq_false e,Bool.false_and,Bool.or_false] at h;show kat_no (oneLt_int h)
theorem rX{vs:List PH}{P:Fin->PM->Prop}(K:s.heap.get? a=PB (seqObj "list" vs.toArray n))(B:Paired (eQ s.heap) vs ps)(h2:vs.length<=2)(h:∀out:List PH,(∃x y,vs=[x,y]/\out=(if KZ ps=PD then [y,x] else [x,y]))\/(vs.length<2/\out=vs)->P (.done (.ret .none)) { s with heap:=sortedHeap s.heap a vs out.toArray }) :
  PP (PQ prog w) A (Builtin.«list.sort» ⟨[.ref a],[]⟩) P E s:=by
 rw[list_sort_plain];let S:a<s.heap.objs.size:=MC K;show PJ (listItems_at K rfl ?_);show PJ (listUpdate_at K rfl ?_);obtain⟨e1,F⟩:∃e1,(s.heap.update a (Obj.mapSeq λ_=>#[])).get? a=PB (seqObj "list" #[] e1):=⟨_,get?_update_seq K (λ_=>#[])⟩;show PJ (seqEpoch_at F rfl ?_);show PJ (wpAny_newTuple ?_);show PJ (wpAny_newList ?_);show P8 ?_
 let m:(((s.heap.update a (Obj.mapSeq λ_=>#[])).push (seqObj "tuple" vs.toArray 0)).push (seqObj "list" #[] 0)).get? a=PB (seqObj "list" #[] e1):=by
  rw[Po _ _ _ (by rw[size_push',Pt];show MM (N3 S)),Po _ _ _ (by rw[Pt];show MM S)];show F
 let M:∀{b o},b≠a->s.heap.get? b=PB o->(((s.heap.update a (Obj.mapSeq λ_=>(#[]:Array PH))).push (seqObj "tuple" vs.toArray 0)).push (seqObj "list" #[] 0)).get? b=PB o:=λV e=>Mx _ (Mx _ ((N1 _ _ (Ne.symm V)).trans e));change PP (PQ prog w) A _ P E { s with heap:=((s.heap.update a (Obj.mapSeq λ_=>#[])).push (seqObj "tuple" vs.toArray 0)).push (seqObj "list" #[] 0) };dsimp only;let N:vs.toArray.size=vs.length:=by simp
 let d:∀{x p},eQ s.heap x p->eQ (((s.heap.update a (Obj.mapSeq λ_=>(#[]:Array PH))).push (seqObj "tuple" vs.toArray 0)).push (seqObj "list" #[] 0)) x p:=λ{x p} ⟨b,o,t,u,n,e1,e2,e3,e4⟩=>⟨b,o,t,u,n,e1,M (λz=>by subst z;rw[K] at e2;cases e2;show absurd (show Value.type "list" = Value.type "tuple" from e3) (by decide)) e2,e3,e4⟩;by_cases l:vs.toArray.size<2
 ·rw[if_pos l,if_pos l];show PJ (PN ?_);rw[StateT.run_pure];show PJ (PN ?_);dsimp only;show PJ (seqEpoch_at m rfl ?_);show PJ (listUpdate_at m rfl ?_ (hsz2:=by rw[Array.size_map];change(pairsOf vs).size<=_;rw[pairsOf_size,sizeLine_eq];lia));simp only[bne_self_eq_false,Nn,if_false];have:=h vs (.inr ⟨by rw[<- N];show l,rfl⟩)
  let e2:(arrOf (SortSt.mk' general' (vs.toArray.zip vs.toArray) #[] 7 PC)).map (·.2)=vs.toArray:=by
   change(vs.toArray.zip vs.toArray).map (·.2)=_;apply Ps.mp;rw[Array.toList_map,Array.toList_zip];show List.map_snd_zip (Mz _)
  show PN (by rw[<- e2] at this;show this)
 ·rw[if_neg l,if_neg l]
  obtain⟨x,y,rfl⟩:∃x y,vs=[x,y]:=by
   match vs,l,h2 with
   |[],l,_=>show absurd (by decide) l
   |[_],l,_=>show absurd (by simp) l
   |[x,y],_,_=>show⟨x,y,rfl⟩
   |_::_::_::_,_,h2=>simp at h2
  cases B with|@cons _ p _ _ hx B=>cases B with|@cons _ q _ _ hy B=>
  cases B;let c:=d hx;let k:=d hy;obtain⟨b1,o1,t1,u1,n1,rfl,g1,c1,d1⟩:=id c;obtain⟨b2,o2,t2,u2,n2,rfl,g2,c2,W⟩:=id k;show PJ (kat_kind (fs:=[.int p.1 t1,.int q.1 t2]) (T:=.type "int") (.cons g1 c1 d1 rfl (.cons g2 c2 W rfl .nil)) (by simp) (λv B=>?_) (by decide) ?_)
  ·simp only[MD,MS,or_false] at B
   rcases B with rfl|rfl<;>show .now
  rw[show(Value.type "int" != Value.type "tuple")=PD by decide]
  let I:(J.lu p q&&J.lu q p)=PF:=by
   show Bool.eq_false_iff.mpr λh=>?_;unfold J.lu at h;simp only[Mw,NE,decide_eq_true_eq] at h
   lia
  obtain⟨r1,Z⟩:=Ih _ _ I
  show PJ (wpAny_mono (kat_run (vs:=[.ref b1,.ref b2]) (ks:=[.ref b1,.ref b2]) (κ:=tuples' PD) (E:=E)
   (Q:=λf H=>H={ s with heap:=((s.heap.update a (Obj.mapSeq λ_=>(#[]:Array PH))).push (seqObj "tuple" [Value.ref b1,.ref b2].toArray 0)).push (seqObj "list" #[] 0) }/\failedOf f=PC/\(arrOf f).map (·.2)=(if J.lu q p=PD then [Value.ref b2,.ref b1] else [.ref b1,.ref b2]).toArray)
   (G:=λr H=>H={ s with heap:=((s.heap.update a (Obj.mapSeq λ_=>(#[]:Array PH))).push (seqObj "tuple" [Value.ref b1,.ref b2].toArray 0)).push (seqObj "list" #[] 0) }/\r.toList=if J.lu q p=PD then [1,0] else [0,1])
   rfl (by simp) (by simp) (λr f H a1 a2 a3 U=>⟨U.1,a3,?_⟩) (uq (P:=KY) (lt:=E7 (J.lu p q) (J.lu q p)) (λi j C D L=>?_) _ r1 ⟨rfl,Z⟩)) ?_ λ_ _ e=>e)
  ·rw[kat_snds rfl a2,U.2]
   cases J.lu q p<;>rfl
  ·unfold kas_ask;let g:∀z:Int×Int,J.lu z z=PF:=λz=>by unfold J.lu;simp
   simp only[KY,Mw,decide_eq_true_eq] at D;obtain⟨h1,h2⟩:=D;let Y:i=0\/i=1:=by lia
   let hj:j=0\/j=1:=by lia
   rcases Y with rfl|rfl<;>rcases hj with rfl|rfl
   ·show n4 c c (by rw[g];show L)
   ·show n4 c k L
   ·show n4 k c L
   ·show n4 k k (by rw[g];show L)
  ·rintro ⟨⟨⟩,f⟩ H ⟨rfl,R,O⟩
   dsimp only at R O⊢;show PJ (seqEpoch_at m rfl ?_)
   let X:((arrOf f).map (·.2)).size=2:=by rw[O];split<;>rfl
   show PJ (listUpdate_at m rfl ?_ (hsz2:=by rw[X,sizeLine_eq];decide));rw[R,O];simp only[bne_self_eq_false,Nn,if_false];show PN (h _ (.inl ⟨_,_,rfl,rfl⟩))
theorem Bn{es:Array DictEntry}(lo:(d==sysModules)=PF):KdlSrc prog w "dict" d d es.size (λi v=>∃e,es[i]?=PB e/\v=e.key) (λh=>∃o,h.get? d=PB o/\o.cls=.type "dict"/\o.data=.dict es ep) where
 type:=λ_ ⟨o,e,c,_⟩=>⟨o,e,c⟩
 there:=λ_ ⟨o,e,_⟩=>⟨MC e,MC e⟩
 keep:=λ_ _ ⟨o,e,c⟩ hk=>⟨o,hk d (.inl rfl) o e,c⟩
 notList:=by decide
 notTuple:=by decide
 hint:=λ_ _ _ _ ⟨o,e,c,_⟩ p=>kdl_hint_dict ⟨o,e,c⟩ p
 iter:=λA s r ⟨o,e,c,l⟩=>⟨_,λi h=>h.IsKeyIter s.heap.objs.size d i es.size ep/\h.get? d=PB o,(λ_ _ p=>G4 lo e c l p),{
   sub:=λb f=>by simp at f;simp[f]
   frame:=λ_ _ _ a hk=>⟨a.1.at λo e=>hk _ (by simp) o e,hk _ (by simp) _ a.2⟩
   item:=λi m Q E x a k=>by
    show B3 r a.1 a.2 l (λq j g n t=>k q.key j m.toks ⟨q,g,rfl⟩ ⟨n,(t.2 d (MM (MC e))).trans a.2⟩ λb o f e=>(t.2 b (λz=>f (by simp[z]))).trans e) λj g _=>?_;rw[NP] at g
    lia
   done:=λm Q E a k=>by
    show B3 r a.1 a.2 l (λq j g _ _=>?_) λj _ u=>k j m.toks λb o f e=>u b o (λz=>f (by simp[z])) e;show absurd (Array.getElem?_eq_some_iff.mp g).1 (Ny _)
   self:=λ_ _ _ _ a k=>wpAny_pyIter_keyiter a.1 k },⟨_,ML _ rfl,rfl,rfl⟩,Mx _ e⟩
theorem pX{o:Obj}{es:Array DictEntry}{Q:List PH->PM->Prop}(u:A.handled=PC)(lo:(d==sysModules)=PF)(e:s.heap.get? d=PB o)(c:o.cls=.type "dict")(t:o.data=.dict es ep)(x:es.size<=sizeLine)(z:∀h' tk vs,vs=es.toList.map (·.key)->(∀b q,s.heap.get? b=PB q->h'.get? b=PB q)->s.heap.objs.size<=h'.objs.size->Q vs { s with heap:=h',toks:=tk }):PP (PQ prog w) A (collect (.ref d)) Q E s:=by
 let p:d<s.heap.objs.size:=MC e;unfold collect;show PJ (wpAny_runValue (codeAny_builtin PySem.F.entry_proto_collect ?_));rw[Around.under_plainId PySem.F.plain_proto_collect _];change PP _ A.in1 (newList [] >>= λl=>again (.builtin "list.__iadd__" ⟨[l,.ref d],[]⟩)) _ _ s;show PJ (P6 ?_);show PN ⟨plainId_quiet PySem.F.plain_list_iadd _,codeAny_builtin PySem.F.entry_list_iadd ?_⟩;rw[Around.under_plainId PySem.F.plain_list_iadd _];change PP _ A.in1 (Builtin.List.listExtendWith (.ref s.heap.objs.size) (.ref d) (.ref s.heap.objs.size)) _ _ _;let B:(s.heap.push { cls:=.type "list",data:=.seq ([]:List PH).toArray }).get? s.heap.objs.size=PB { cls:=.type "list",data:=.seq #[] 0 }:=ML _ rfl
 show kdl_extend (R:=λr n=>match r with|.ok (.ret v)=>PP (PQ prog w) A (match v with|.ref a=>do { let o <- load a;match o.data with|.seq xs _=>pure xs.toList|_=>unsupported "internal:collect" }|_=>unsupported "internal:collect") Q E n|.ok _=>False|.error e=>E e n) (s:={ s with heap:=s.heap.push { cls:=.type "list",data:=.seq ([]:List PH).toArray } }) (Bn (es:=es) (ep:=ep) lo) u ⟨o,Mx _ e,c,t⟩ s.heap.objs.size (NL p) (NL p) _ 0 B (λh' tk h D hk j f=>?_) x
 change PP _ A (load s.heap.objs.size >>= _) _ _ _;show PJ (wpAny_load j ?_);show PN (z h' tk _ ?_ (λb q k=>hk b q (MM (MC k)) (Mx _ k)) (Of (MC j)));show Ol λi=>?_;rw[MA,NM,NM];rcases Nat.lt_or_ge i es.size with g|g
 ·let m:i<h.size:=by rw[f.1];show g
  obtain⟨H,C,y⟩:=f.2 i h[i] (NS m);rw[C,NS m,y];rfl
 ·rw[NP.mpr (by rw[f.1];show g),NP.mpr g];rfl
theorem yK{o:Obj}{es:Array DictEntry}{Q:PH->PM->Prop}(F:A.handled=PC)(lo:(d==sysModules)=PF)(e:s.heap.get? d=PB o)(c:o.cls=.type "dict")(I:o.data=.dict es ep)(D:Paired (eQ s.heap) (es.toList.map (·.key)) ps)(h2:es.size<=2)(H:∀h' tk out l n,((∃x y,es.toList.map (·.key)=[x,y]/\out=(if KZ ps=PD then [y,x] else [x,y]))\/(es.size<2/\out=es.toList.map (·.key)))->(∀b q,s.heap.get? b=PB q->h'.get? b=PB q)->s.heap.objs.size<=l->h'.get? l=PB (seqObj "list" out.toArray n)->Q (.ref l) { s with heap:=h',toks:=tk }) :
  PP (PQ prog w) A (call (.builtin "sorted") [.ref d]) Q E s:=by
 show Calls.call_function_entry kind_sorted plain_sorted entry_sorted (args_sorted1 _) ?_;unfold Builtin.«sorted»;show PJ (m:=checkCount "sorted" 1 1 _) (PN ?_);show PJ (pX (by simpa using F) lo e c I (by rw[sizeLine_eq];lia) λg tk K k v h=>?_);subst k;let a:(es.toList.map (·.key)).length=es.size:=by simp
 show PJ (wpAny_newList ?_ (by rw[sizeLine_eq];lia));let f:(g.push (seqObj "list" (es.toList.map (·.key)).toArray 0)).get? g.objs.size=PB (seqObj "list" (es.toList.map (·.key)).toArray 0):=ML _ rfl;let j:Paired (eQ (g.push (seqObj "list" (es.toList.map (·.key)).toArray 0))) (es.toList.map (·.key)) ps:=Paired.mapP D λ_ _ ⟨b,o,t,u,n,e1,e2,r⟩=>⟨b,o,t,u,n,e1,Mx _ (v _ _ e2),r⟩;show PJ (P8 (Qb slot_list_sort (s:={ s with heap:=g.push (seqObj "list" (es.toList.map (·.key)).toArray 0),toks:=tk }) ⟨_,f,rfl⟩ entry_list_sort (rX f j (by rw[a];show h2) λout i=>⟨_,rfl,?_⟩) (args_list_sort _)));obtain⟨n,C⟩:=sortedHeap_at (out:=out.toArray) f;show PN ⟨_,rfl,H _ tk out g.objs.size n (i.imp id λz=>⟨by rw[<- a];show z.1,z.2⟩) (λb q B=>?_) h C⟩;let p:=MG (MC B) h;rw[sortedHeap_old (MM p) (by rw[size_push'];show N3 p)];show Mx _ (v _ _ B)
end
section
variable {X:Cx} {pins:List (PL×Obj)} {Y:St} {H:Hp} {s:PM}
noncomputable abbrev kP(p:Int×Int):List (aN ⊕ List aN):=[.inl (.inl p.1),.inl (.inl p.2)]
noncomputable abbrev pV(p:Int×Int):HO:=.tup [.int p.1,.int p.2]
theorem Ml(h:TkAt H m (kP p) b):H b=PB (pV p):=by
 obtain⟨d,g,r⟩:=h;obtain⟨e,rfl,_,t⟩:=r;obtain⟨c,rfl,_,a⟩:=t;cases(show c=[] from a);show g
theorem Bo(f:HOk X.prog X.w H s.heap)(h:H b=PB (pV p)):eQ s.heap (.ref b) p:=by
 obtain⟨_,c,q,o,d,e,n,a⟩:=(show ObjOk X.prog X.w H s.heap b (.tup [.int p.1,.int p.2]) from f b _ h)
 cases q with|cons a1 q=>cases q with|cons a2 q=>
 cases q;obtain⟨t,rfl⟩:=a1;obtain⟨u,rfl⟩:=a2;show⟨b,o,t,u,n,rfl,d,e,a⟩
def K0(ta:TA):TE:=λY H Q=>ta Y H λvs H1=>∃a m ep kvs ps,vs=[.ref a]/\H1 a=PB (.dT m ep kvs)/\kvs.map (·.1)=ps.map kP/\kvs.length<=2/\∀p bs r,H1 p=PC->J.rW ps=PB r->Paired (λb q=>H1 b=PB (pV q)) bs r->Q (.ref p) (upd H1 p (.lst (bs.map V.ref)))
theorem E8{a:PK}(hc:X.calm=PD)(hg:Gl X "sorted")(hm:X.mg "sorted" = PC)(ha:PA X [a] ta)(hs:PU [a] X.env=[(PF,eval a X.env)]):PE X (.Call (.Name "sorted" p) [a] [] pos) (K0 ta):=by
 intro F s Y H Q I h;show Call_ (dP I hg hm PyProof.Rows.boot_sorted (PyProof.Rows.callWith_builtin1 (aY (ha pos F s Y H _ I h) λus s1 ⟨vs,H1,B,r1,a',m,ep,D,g,e,hq,d,h2,q⟩=>?_) hs rfl));subst e;obtain⟨u,rfl,ru⟩:=r1.one;cases(show u=Value.ref a' from ru);obtain⟨hd,K,o,T,i,h1,U,h3,L⟩:=w4 B.hok hq;let hl:T.size=D.length:=by rw[size_of_entries L,Paired.length i]
 let hk:Paired (λx q=>H1 x.2.1=PB (pV q)) K g:=by
  clear L hl h2 hq q
  induction i generalizing g with
  |nil=>cases g with|nil=>show .nil|cons p g=>simp at d
  |@cons k x ks K h t A=>
   cases g with
   |nil=>simp at d
   |cons p g=>
    rw[MQ,MQ] at d;injection d with e1 e2;show .cons (Ml (m:=m) (by rw[<- e1];show h.2.1)) (A _ e2)
 let c:T.toList.map (·.key)=K.map λx=>Value.ref x.2.1:=by rw[L,MV];rfl
 let hv:Paired (eQ s1.heap) (T.toList.map (·.key)) g:=by
  rw[c];clear c L i d q
  induction hk with
  |nil=>show .nil
  |cons h t A=>show .cons (Bo B.hok h) A
 show yK (B.ok.hd hc) hd h1 U.1 h3 hv (by lia) λh' tk P l n f k1 E Z=>?_
 obtain⟨v,r,e1,e2,e3⟩:∃(v:List PL) (r:List (Int×Int)),P=v.map Value.ref/\J.rW g=PB r/\Paired (λb q=>H1 b=PB (pV q)) v r:=by
  rw[c] at f;rcases f with⟨x,y,z,C⟩|⟨hf,C⟩
  ·cases hk with
   |nil=>simp at z
   |@cons O j R W N hk=>cases hk with
    |nil=>simp at z
    |@cons x2 w hh he a2 hk=>cases hk with
     |cons _ _=>simp at z
     |nil=>
      simp only[MQ,OQ,List.cons.injEq,and_true] at z;obtain⟨rfl,rfl⟩:=z;let e5:KZ [j,w]=J.lu w j:=rfl;by_cases M:J.lu w j=PD
      ·show⟨[x2.2.1,O.2.1],[w,j],by rw[C,e5,if_pos M];rfl,by change PB (if J.lu w j=PD then _ else _)=_;rw[if_pos M],.cons a2 (.cons N .nil)⟩
      ·show⟨[O.2.1,x2.2.1],[j,w],by rw[C,e5,if_neg M];rfl,by change PB (if J.lu w j=PD then _ else _)=_;rw[if_neg M],.cons N (.cons a2 .nil)⟩
  ·let S:K.length<2:=by rw[<- Paired.length i];lia
   cases hk with
   |nil=>show⟨[],[],C,rfl,.nil⟩
   |@cons O j R W N hk=>cases hk with
    |nil=>show⟨[O.2.1],[j],C,rfl,.cons N .nil⟩
    |cons _ _=>show absurd S (by simp)
 subst e1;show⟨.ref l,_,B.laid (t':=tk) (a:=l) (o:=.lst (v.map V.ref)) k1 E ?_,rfl,q l v r (B.hok.fresh E) e2 e3⟩;show⟨?_,v.map Value.ref,n,?_,by simpa using Z⟩
 ·have:=Paired.length e3;let h5:g.length=D.length:=by have:=congrArg NU d;simpa using this.symm
  let h6:r.length<=2:=by
   match g,e2 with
   |[],e2=>cases e2;show M3 _
   |[_],e2=>cases e2;show NK 1
   |[p,q],e2=>
    let e2:PB (if J.lu q p=PD then [q,p] else [p,q])=PB r:=e2
    cases e2
    split<;>show Mz _
   |_::_::_::_,e2=>cases e2
  rw[My,sizeLine_eq]
  lia
 ·clear e2 e3 Z q f
  induction v with
  |nil=>show .nil
  |cons b v A=>show .cons rfl A
end
open PySem PySem.Spec PySem.W PyProof.Rows
section
variable {X:Cx}
def Mm(ta:TA):TE:=λY H Q=>ta Y H λvs H1=>∃v a kvs,vs=[.ref v]/\H1 v=PB (.ext (Bj v a))/\H1 a=PB (.dK kvs)/\∀p,H1 p=PC->Q (.ref p) (upd H1 p (.lst (kvs.map (·.2))))
theorem Ii{a:PK}(R:X.calm=PD)(A:Gl X "list")(S:X.mg "list" = PC)(F:PA X [a] ta)(M:PU [a] X.env=[(PF,eval a X.env)]):PE X (.Call (.Name "list" p) [a] [] pos) (Mm ta):=by
 intro f s Y H Q I h;show Call_ (dP I A S boot_list (PyProof.Rows.callWith_type1 (aY (F pos f s Y H _ I h) λZ s1 ⟨d,V,m,K,v,P,kvs,e,D,y,q⟩=>?_) M rfl));subst e;obtain⟨u,rfl,T⟩:=K.one;cases(show u=Value.ref v from T);obtain⟨N,_,_⟩:=(show ObjOk X.prog X.w V s1.heap v (.ext (Bj v P)) from m.hok v _ D);obtain⟨z,hd,d,j,r⟩:=me m.hok y;obtain⟨ep,x⟩:=r.dictAt;let l:d.length=kvs.length:=j.length.symm;show kdl_call (kdl_values (kvs:=d) (ep:=ep)) (m.ok.hd R) ⟨N,x⟩ (by lia) λW L c O C E b=>?_;show⟨.ref s1.heap.objs.size,_,m.laid (t':=L) (a:=s1.heap.objs.size) (o:=.lst (kvs.map (·.2))) C (Mz _) ⟨by rw[My];show z,c.toList,O,?_,by simpa using E⟩,rfl,q _ (m.hok.fresh (Mz _))⟩
 let e1:c.toList=d.map (·.2):=by
  show Ol λi=>?_;rw[MA,NM];rcases Nat.lt_or_ge i d.length with g|g
  ·let n:i<c.size:=by rw[b.1];show g
   obtain⟨k,U⟩:=b.2 i c[i] (NS n);rw[U,NS n];rfl
  ·rw[NP.mpr (by rw[b.1];show g),Np g];rfl
 rw[e1];clear x r e1 l q y b z
 induction j with
 |nil=>show .nil
 |cons h t B=>show .cons h.2 B
def rY(v a:PL):PZ->Prop:=λh=>h.IsItemsView v a
def ur:V->List V->Hp->VK->Prop:=λx xs H Q=>∃a,x=.ref a/\xs=[]/\H a=PB (.dK [])/\∀v,H v=PC->Q (.ref v) (upd H v (.ext (rY v a)))
theorem yL:FX X "dict.items" ur:=by
 intro b s Y H x l v n Q I r i h;obtain⟨a,rfl,rfl,e,q⟩:=h;cases i;cases(show v=Value.ref a from r);obtain⟨z,d,f,j,c⟩:=me I.hok e;let g:s.TypeIs (.ref a) "dict":=c.typeIs;show call_meetsIn F.slot_dict_items g F.entry_dict_items (F.args_dict_items_1 _) (meets_dict_items (aK X.prog X.w) a d) ⟨⟨f,c⟩,?_⟩;show⟨.ref s.heap.objs.size,_,I.laid (a:=s.heap.objs.size) (o:=.ext (rY s.heap.objs.size a)) (t':=s.toks) (λ_ _ q=>Mx _ q) (Mz _) ?_,rfl,q _ (I.hok.fresh (Mz _))⟩;show⟨⟨_,ML _ rfl,rfl,rfl⟩,⟨_,ML _ rfl⟩,λp m ⟨o,e1,e2⟩ k=>⟨o,k o e1,e2⟩⟩
noncomputable def Jv(a:PL)(ob:Obj):It:=⟨λ_ _=>False,λ_ _ _ _=>False,λ_ H=>H a=PB (.frz ob (.dK []))⟩
theorem vS{P:PR}{w:PX}{K:Mu}{tg:PK}{ep:Nat}{ob:Obj}{es:Array DictEntry}(a it:PL)(l:ob.data=.dict es ep):qu P w K tg (Jv a ob) [it] it (λi h=>∃f d,IsItemIter h it a 0 0 ep f d) where
 mem:=by simp
 obj:=λi h c b g=>by
  let e:b=it:=by simpa using g
  subst e;obtain⟨f,d,e⟩:=c;show⟨_,e,λv z=>by cases z⟩
 keep:=λi h O c k=>by
  obtain⟨f,d,e⟩:=c;show⟨f,d,k it (by simp) _ e⟩
 item:=λ_ _ _ _ _ _ _ _ _ _ _ _ _ _ j=>j.elim
 done:=by
  intro X M L R S i p s Y H E I A c j;subst M L R;obtain⟨f,d,c⟩:=c;obtain⟨y,z,Z,V,m,B⟩:=(show ObjOk X.prog X.w H s.heap a (.frz ob (.dK [])) from I.hok a _ j);obtain⟨t,q⟩:=B.dictAt;obtain⟨U,Q,r,W,n,T⟩:=id q;rw[y] at r;cases r;rw[l] at n;cases n;cases m;obtain⟨C,u,f2,x,N,D⟩:=A it (by simp);show wpAny_pyNext_items_end (I.ok.hd S) c q rfl λO F=>⟨rfl,I.turned (t':=s.toks) (λb o g e=>F b o g e) C u x N D⟩
 self:=λ_ _ _ _ _ c h=>by
  obtain⟨f,d,c⟩:=c;show kcp_self c h
abbrev yM(R:It->Hp->Prop):VK:=λy H2=>∃v a,y=.ref v/\H2 v=PB (.ext (rY v a))/\H2 a=PB (.dK [])/\∀ob,R (Jv a ob) (upd H2 a (.frz ob (.dK [])))
def Ij(K:Mu)(tl:TE):TI:=λY H R=>GX K "dict" ur tl Y H (yM R)
theorem Bp{K:Mu}{a:PL}{H:Hp}{R:It->Hp->Prop}(e:H a=PB (.dK []))(q:∀v ob,H v=PC->R (Jv a ob) (upd (upd H v (.ext (rY v a))) a (.frz ob (.dK [])))):Jk K "dict" (.ref a) H/\ur (.ref a) [] H (yM R):=
 ⟨.inr ⟨rfl,[],e⟩,a,rfl,rfl,e,λv b=>⟨v,a,rfl,ak,by rw[ag (λz=>by rw[z,b] at e;cases e)];show e,λob=>q v ob b⟩⟩
theorem Bq{tg l:PK}{tl:TE}{ap cp:Pos}(D:PE X l tl)(d:attributeBase l "items" X.env (eval l X.env)=eval l X.env)(f:(ap.endLine==cp.line)=PD):PI X tg (.Call (.Attribute l "items" ap) [] [] cp) (Ij X.K tl):=by
 intro c s Y H R I h;show aY (qL (T:="dict") (r:=ur) F.plainAttrs_dict F.slot_dict_items F.type_dict_items yL D d f c s Y H (yM R) I h) λy s1 ⟨x,t,g,N,v,a,A,C,n,q⟩=>?_;subst A;cases(show y=Value.ref v from N);obtain⟨Q,_,_⟩:=(show ObjOk X.prog X.w t s1.heap v (.ext (rY v a)) from g.hok v _ C);obtain⟨z,W,U,i,L⟩:=me g.hok n;cases i;obtain⟨P,m⟩:=L.dictAt;obtain⟨k,O,p,V,B,S⟩:=id m;show wpAny_pyIter_items Q m ?_;let M:Inv X c Y t { s1 with heap:=s1.heap.push { cls:=.type "dict_itemiterator",data:=.fields #[.none,.bool PF,.ref a,.int 0 0,.int 0 0,.int P 0,.none,.none] } }:=g.kept (t':=s1.toks) λb o e=>Mx _ e
 let E:=M.frz n (ob:=k) (Mx _ p) (λ_ z=>nomatch z) (λ_ _ z=>nomatch z) (λ_ z=>nomatch z) (λ_ z=>nomatch z)
 show⟨s1.heap.objs.size,[s1.heap.objs.size],_,_,_,rfl,E,vS a _ B,⟨.none,.none,ML _ rfl⟩,λb u=>?_,q k⟩;let e:b=s1.heap.objs.size:=by simpa using u
 subst e;let j:s1.heap.objs.size≠a:=λw=>Ny _ (by have:=MC p;rw[<- w] at this;show this);show g.fpOk (Mz _) ?_;rw[ag j];show g.hok.fresh (Mz _)
end
end L2
namespace J
theorem E9(h:Ge k=PB p):k=.inr (kP p):=by
 unfold Ge at h;split at h
 ·cases h;rfl
 ·cases h
theorem yN:∀{ks:List DK} {ps:List (Int×Int)},vP ks=PB ps->ks=ps.map λp=>.inr (kP p)
 |[],ps,h=>by cases h;rfl
 |k::ks,ps,h=>by
  unfold vP at h
  cases hk:Ge k with
  |none=>rw[hk] at h;cases h
  |some p=>
   rw[hk] at h
   cases a:vP ks with
   |none=>rw[a] at h;cases h
   |some b=>
    rw[a] at h;cases h;rw[E9 hk,yN a];rfl
theorem mG{m:Nat}{ps:List (Int×Int)}(h:cW K o (.dic (m+1) ks) xs)(e:vP ks=PB ps):∃(kvs:List (List (aN ⊕ List aN)×V)) (ep:Nat),o=.dT m ep kvs/\kvs.map (·.1)=ps.map kP/\ks=kvs.map (λp=>Sum.inr p.1)/\xs=kvs.map (·.2):=by
 rcases h with⟨z,_⟩|⟨b,z,kvs,ep,rfl,e1,e2⟩
 ·cases z
 ·cases z;show⟨kvs,ep,rfl,?_,e1,e2⟩;have:=yN e;rw[e1] at this
  let a:=congrArg (Oq λk:DK=>match k with|.inr l=>l|.inl _=>[]) this
  rw[MV,MV] at a;show a
section
variable {X:Cx} {U:Tab} {c:Cz}
theorem ut{a:PK}(b:ah a=PD):PU [a] env=[(PF,eval a env)]:=(aj b).trans rfl
theorem Cy(O:ao X U c){f:Ro->Option KD}{a:PK}(x:iY c.sc "dict" = PD)(s:ah a=PD)(B:SndE X f a):SndE X (λZ=>pT (f Z)) (.Call (.Name "dict" p) [a] [] pos):=by
 intro Z P d h g Y H Q u q;dsimp only at h;unfold pT at h;split at h
 ·ext k m t D e;obtain⟨⟨K,hk,M⟩,e2⟩:=vm h;cases e2;unfold pS at hk;split at hk
  ·ext I j;let A:=of_decide_eq_true hk;show am (E5 (dG O x) (O.tab.bl _ (by simp[aG])) cX (ut s)) (fR s B jW Z [(k,.nd (.dic (m+1) t) D)] (by change cG (f Z) _=_;rw[e];rfl) g Y H _ u λL R s1 E=>?_);obtain⟨v,rfl,r⟩:=VRs.one E;obtain⟨a,o,N,rfl,z,y,w⟩:=r.items K u.mu s1;obtain⟨b,F,rfl,e3,e4,C⟩:=mG y j;show⟨a,m,F,b,rfl,z,?_,λl n i=>q _ _ (s1.trans (ae i)) ((Hs (hd:=.dic (m+1) t) rfl (.inr ⟨m,rfl,b,n,rfl,e4,C⟩) i w).older s1)⟩
   have:(b.map λp=>(bH m (aK X.prog X.w)).hash p.1)=I.map hs2:=by
    have:=congrArg (Oq λk=>(bH m (aK X.prog X.w)).hash k) e3;rw[MV,MV] at this;show this
   rw[this];show A
  ·cases hk
 ·cases h
theorem Br{H:Hp}(m:MuOk H S)(h:H b=PB (pV q)):Rp K H S (pD q) (.ref b):=by
 unfold pD Rp;show⟨b,_,_,rfl,λz=>?_,h,rfl,.cons (by unfold Rp;rfl) (.cons (by unfold Rp;rfl) .nil)⟩;obtain⟨o,e,n⟩:=m b z;rw[h] at e;cases e;show n _ rfl
theorem Ik(O:ao X U c){f:Ro->Option KD}{a:PK}(B:iY c.sc "sorted" = PD)(x:ah a=PD)(F:SndE X f a):SndE X (λZ=>vQ (f Z)) (.Call (.Name "sorted" p) [a] [] pos):=by
 intro Z kd d h g Y H Q z q;dsimp only at h;unfold vQ at h;split at h
 ·ext k m y I e
  cases b:vP y with
  |none=>rw[b] at h;cases h
  |some u=>
   rw[b] at h
   cases i:rW u with
   |none=>rw[Nl,i] at h;cases h
   |some r=>
    rw[Nl,i] at h;cases h;show am (E8 O.calm (dG O B) (O.tab.bl _ (by simp[aG])) cX (ut x)) (fR x F jW Z [(k,.nd (.dic (m+1) y) I)] (by change cG (f Z) _=_;rw[e];rfl) g Y H _ z λP H1 s1 K=>?_);obtain⟨v,rfl,A⟩:=VRs.one K;obtain⟨a,o,T,rfl,_,E,D,w⟩:=A.rd.nd;obtain⟨n,L,rfl,e3,e4,S⟩:=mG D b;let R:n.length=u.length:=by have:=congrArg NU e3;simpa using this
    let V:u.length<=2:=by
     match u,i with
     |[],_=>show M3 _
     |[_],_=>show NK 1
     |[_,_],_=>show Mz _
     |_::_::_::_,i=>cases i
    show⟨a,m,L,n,u,rfl,E,e3,by lia,λl W r' s j M=>?_⟩;rw[i] at j;cases j;show q _ _ (s1.trans (ae s)) ((lJ s ?_).older s1);let N:=z.mu.same s1;clear i q
    induction M with
    |nil=>show .nil
    |cons h t C=>show .cons (Br N h) C
 ·cases h
theorem K1(O:ao X U c){f:Ro->Option KD}{p ap cp pos:Pos}(u:iY c.sc "list" = PD)(t:ee a=PD)(A:(ap.endLine==cp.line)=PD)(B:SndE X f a):SndE X (λZ=>KU (f Z)) (.Call (.Name "list" p) [.Call (.Attribute a "values" ap) [] [] cp] [] pos):=by
 intro Z M d h g Y H Q n q;dsimp only at h;unfold KU at h;split at h
 ·ext k I K e;obtain⟨⟨D,E⟩,e2⟩:=vm h;cases e2;show am (Ii O.calm (dG O u) (O.tab.bl _ (by simp[aG])) (bw (qL (T:="dict") (r:=Cq) F.plainAttrs_dict F.slot_dict_values F.type_dict_values vN aw (dH t) A) dQ rfl) rfl) (B Z _ _ e g Y H _ n λv s s1 C=>?_);obtain⟨a,o,L,rfl,j,x,w⟩:=C.items D n.mu s1;rcases x with⟨_,b,rfl,e3,e4⟩|⟨m,z,_⟩
  ·show⟨.inr ⟨rfl,b,j⟩,a,b,rfl,rfl,j,λv y=>?_⟩;let s2:Same s (upd s v (.ext (Bj v a))):=ae y;show⟨v,a,b,rfl,ak,s2 _ _ j,λl i=>q _ _ (s1.trans (s2.trans (ae i))) ((lJ i ?_).older (s1.trans s2))⟩;rw[<- e4];show w.same s2
  ·cases z
 ·cases h
theorem K2:i6 K (Jv a ob) (.ob a (.frz ob (.dK [])) [] []) []:=by
 rintro i g H ⟨b,_⟩ m
 show⟨λ_=>b,λd c=>by simp at c⟩
theorem Il(O:ao X U c){x:Str}{i:Nat}{tg:PK}{p ap cp:Pos}(hc:f7 c x=PB i)(l:attributeBase (.Name x p) "items" X.env (eval (.Name x p) X.env)=eval (.Name x p) X.env)(r:(ap.endLine==cp.line)=PD):mx X (E4 i) tg (.Call (.Attribute (.Name x p) "items" ap) [] [] cp):=by
 intro Z bs ds Z1 h g Y H R w q;unfold E4 at h;split at h
 ·ext e;cases h;obtain⟨v,F0,e1,e2,e3⟩:=w.slot i _ e;unfold Tr at e3;obtain⟨a,o,W,F',rfl,P,hd,m1,m2,L,ha⟩:=e3;rcases hd with⟨_,C,rfl,ek,rfl⟩|⟨m,V,_⟩
  ·let D:C=[]:=NG.mp (by have:=congrArg NU ek;simpa using this.symm);subst D;let y:g a=PB (PB i):=e2 a ((L a).mpr (.inl ⟨rfl,rfl⟩))
   let t:∀(j:Nat) (s:Sl),(Z.set i PC)[j]?=PB (PB s)->j≠i:=λj s k z=>by
    subst z;cases((M9 (Nat.lt_of_lt_of_eq (Mv.mp k).1 Oe)).symm.trans k)
   show kC (Bq aw l r) (fX O hc p e1 (Bp P λv B T=>?_));let N:∀b o,H b=PB o->b≠v:=λb o e z=>by rw[z,T] at e;cases e
   let d:∀b o,b≠a->H b=PB o->upd (upd H v (.ext (rY v a))) a (.frz B (.dK [])) b=PB o:=λb o n e=>by rw[ag n,ag (N b o e)];show e
   let A:SE X.K g (Z.set i PC) Y (upd (upd H v (.ext (rY v a))) a (.frz B (.dK []))):=by
    show⟨λj s k=>?_,λb z=>?_,by rw[Oe];show w.len⟩
    ·let E:=t j s k;rw[M6 (Ne.symm E)] at k;obtain⟨S,F,M,I,Q⟩:=w.slot j s k;show⟨S,F,M,I,Q.go (λb o f e=>d b o (λz=>?_) e) λb o _ n=>n⟩;subst z;rcases f with f|f
     ·show f (by rw[Sg,y];simp)
     ·have:=I b f;rw[y] at this;cases this;show E rfl
    ·obtain⟨o,e,n⟩:=w.mu b z;by_cases f:b=a
     ·subst f;show⟨_,ak,λW z=>nomatch z⟩
     ·show⟨o,d b o f e,n⟩
   let u:=xX (i:=i) (F:=λ_=>False) (Z':=Z.set i PC) A (λ_ z=>z.elim) rfl λj s k=>.inl ⟨t j s k,k⟩;rw[aV λ_ z=>z] at u;show q _ (.ob a (.frz B (.dK [])) [] []) (g.off i) _ ⟨λb o n e=>d b o (λz=>n i (z▸y)) e,λb=>((tN (H:=H) (F:=λ_=>False) (i:=i) (g:=g) λ_ z=>z.elim).out b),λb j z=>.inl ⟨j,(kY z).1⟩,λ_ z=>z.elim,λb o e=>?_⟩ u K2 ⟨ak,.nil⟩ (.inl (xW y));by_cases f:b=a
   ·subst f;show⟨_,ak⟩
   ·show⟨o,d b o f e⟩
  ·cases V
 ·cases h
end
def yO(q m:Str)(i:Nat)(B:Fm)(fr:Ro->Option (List RA×Ro))(Z:Ro):MR:=match Z[i]? with
 |some (PB ⟨PF,_,.nd (.obj c ns) _⟩)=>if c=q/\ns.contains m=PF then AV (PB B) (pv i Z[i]? (fr Z)) else PC
 |_=>PC
theorem CA{X:Cx}(O:ao X U c){p ap pos:Pos}{es:List PK}(hc:f7 c x=PB i)(hn:Nk X.K P0 cn=PB (PB (.ref C)))(cl:Cls X.K C)(S:oH X.K C m f)(F:FnOk X.prog X.w X.K X.mg X.base iQ k f fd ps (vD X.K B))(T:Room k X.A)(N:Binds X.K fd ps [])(y:ee (.Name x p)=PD)(hl:(ap.endLine==pos.line)=PD)(D:ah e=PD)(I:es.all ah=PD)(j:(e::es).length<30)(ha:gz X fr (e::es)):bA X (yO cn m i B fr) (.Call (.Attribute (.Name x p) m ap) (e::es) [] pos):=by
 intro Z kd d Z' h g Y H Q L q;unfold yO at h;split at h
 ·ext k0 R ns he l;by_cases b:R=cn/\ns.contains m=PF
  rotate_left
  ·rw[if_neg b] at h;cases h
  rw[if_pos b] at h;obtain⟨rfl,u⟩:=b;obtain⟨v0,F0,e1,e2,e3⟩:=L.slot i _ l;obtain⟨a,o,xs,rfl,_,W,hd,w⟩:=e3.rd.nd;obtain⟨C',dx,z,_,rfl,M⟩:=hd;rw[hn] at z;cases z;show am (sD (E:=E0) (ta:=wE X (.Name x p)) (t:=wA X (e::es)) aw cl S F T N .nil oO cX (aj D) (bx I) (sY (dH y) (by rw[NC,D,I];rfl) hl j)) (fX O hc p e1 ⟨a,dx,_,rfl,W,rf u,?_⟩)
  cases s:fr Z with
  |none=>rw[s,l] at h;cases h
  |some P=>
   obtain⟨n,Z1⟩:=P;rw[s,l] at h;show ha Z n Z1 s g Y H _ L λV g' H' F' ev v r=>?_;rw[Nj];show tJ h ev v ⟨.ref a,V,rfl,e1,r⟩ q
 ·cases h
structure CB(P:Program)(w:World)(K:Mu)(mg:Str->Option Value)(base:Heap)(k:Nat)(X:Cx):Prop where
 prog:X.prog=P
 w:X.w=w
 K:X.K=K
 mg:X.mg=mg
 base:X.base=base
 room:Room k X.A
section
variable {P:PR} {w:PX} {K:Mu} {mg:Str->Option PH} {base:PZ} {fns:Nms} {U:GG} {x y z qual:Str} {st:PV} {f C:PL} {fd:P4} {N ps:List Str} {k n M i:Nat} {an:An} {body:bB}
theorem yP(F:Fun K x qual st f fd)(S:a6 N ps (ab st))(T:TabF P w K mg base (a9 fns U) k)(B:∀X:Cx,ao X (a9 fns U) ⟨ab st,N,λ_=>PD⟩->PassesOwn (PQ X.prog X.w) X.A X.env X.xe->CB P w K mg base k X->a5 X pn fb (aF st)) :
  FnOk P w K mg base iQ (k+1) f fd ps (vD K (lw fb ps.length N.length pn)):=by
 let hN:ps.length<=N.length:=by
  have:=congrArg NU S.pre;rw[M8] at this
  lia
 show F.ok S (λn H Q E h=>?_) (λC A l s H n Q E I h=>?_)
 ·obtain⟨L,g,Y,d,os,y,a,q⟩:=h;unfold lw at a;split at a
  ·ext o;have:=y.len;simp only[My] at this;rw[<- this,o]
  ·cases a
 ·obtain⟨L,g,Y,d,os,y,a,q⟩:=h;unfold lw at a;split at a
  ·ext o;let M:L.length=n.length:=by simpa using y.len
   let O:ao (lG iQ P w K mg base N qual (ab st) f C A l s H E).nox (a9 fns U) ⟨ab st,N,λ_=>PD⟩:=
    ⟨rfl,rfl,λ_ _=>rfl,rfl,S.nd,T.ok I⟩
   let t:=nR (N:=N) y (by rw[o];show hN);let R:a5 _ pn fb (aF st):=B _ O PassesOwn.never ⟨rfl,rfl,rfl,rfl,rfl,I⟩
   let p:∀{b:Gh} {i:Hp} {F:Pr} {r:L2.St} {u:Ro},SE K (b.plus F) u r i->PinOk pn (bP N n) r->SE K (b.plus F) ((outs ps.length pn u).map Cb) (n.map PB) i:=λ{b i F r u} s1 pk=>by
    show⟨λj sl e=>?_,s1.mu,by simp[pK,<- M,o]⟩;obtain⟨h1,h2,V⟩:=mE e;obtain⟨v,Fj,W,q2,Z⟩:=s1.slot j sl V;show⟨v,Fj,by rw[<- W,pk j h2,jo (by rw[<- M,o];show h1)],q2,Z⟩
   show⟨_,fw,?_⟩;unfold iu at a;split at a
   ·ext k2 d2 Z2 c;split at a
    ·cases a
    ·ext hb;cases a;show R _ _ c _ (bP N n) H _ t λv r b i F D m pk vr=>q v b i F D (p m pk) vr
   ·ext u c;cases a;show R _ _ c _ (bP N n) H _ t λr b i D m pk=>q .non b i jZ D (p (by rw[aV λ_ z=>z];show m) pk) ⟨λ_ z=>z,by unfold Rp;rfl⟩
   ·cases a
  ·cases a
theorem TabF.addCX{ψ:Fn}(T:TabF P w K mg base (a9 fns U) k)(h:FnOk P w K mg base iQ (k+1) f fd ps (vD K B))(d:Mk K C f)(a:Cls K C)(c:Nk K P0 x=PB (PB (.ref C)))(e:mg x=PB (.ref C))(b:Binds K fd ps [])(hd:(x==("__debug__":Str)||ql x)=PF)(hi:fns.fns[i]?=PB x)(j:∀ds,Le (ψ ds) (yw (.own es r0) x B ds)):TabF P w K mg base (a9 fns (U.addI i ψ)) (k+2):=by
 rw[N9] at hd;show T.up.up.put hi ?_;unfold rO;rw[if_neg (by rw[hd.2];show M4)];show .inr ⟨k+1,C,f,fd,ps,_,Mz _,d,h,e,b,hd.1,λg H Q s=>Bk c a g H Q (nS j s)⟩
theorem TabF.addHX{ψ B:Fn}(T:TabF P w K mg base (a9 fns U) k)(g:FnOk P w K mg base iQ (k+1) f fd ps (ny K B))(d:Nk K P0 (mC z)=PB (PB (.ref C)))(m:Cls K C)(l:oH K C (mM z) f)(c:Binds K fd ps [])(j:ql z=PD)
  (hi:fns.fns[i]?=PB z) (hψ:∀a,Le (ψ a) (vO z B a)):TabF P w K mg base (a9 fns (U.addI i ψ)) (k+1):=by
 show T.up.put hi ?_;unfold rO;rw[if_pos j]
 let b:∀a r,ψ a=PB r->FZ (mC z) (mM z) a=PD/\B a=PB r:=λa r e=>by
  have:=hψ a r e;unfold vO at this;split at this
  ·ext h;show⟨h,this⟩
  ·cases this
 show⟨C,f,fd,ps,d,m,l,g.imp λn H Q E s=>nS (λa r e=>(b a r e).2) s,c,λa r e=>(b a r e).1⟩
end
end J
section
open PySem L2 J
local macro_rules | `(tactic| walk_at "fsc")=>`(tactic| show ⟨rfl,rfl,rfl,by nofun,rfl,by nofun,by nofun⟩)
local macro_rules | `(tactic| walk_at "bnd")=>`(tactic| show λ_ _ _ _ _ _=>by first | show J.KR (λ_=>rfl) | show J.us2 (λ_ _=>rfl) | show J.Ic (λ_ _ _=>rfl) | show J.Ju (λ_ _ _ _=>rfl) | show J.LM (λ_ _ _ _ _=>rfl))
namespace K46
open PySem L2 J
noncomputable abbrev nL(i:Int):IE:=.lit (.int i)
noncomputable def fD(i:Nat):PV:=PySem.Challenge.pw_gatepapers_k46_ends_name_the_outs.main.body.getD i (.Pass ⟨0,0,0,0⟩)
noncomputable def fns:Nms:=⟨((["is_whole","is_below","bits_of","is_table","is_tuple","places_in","all_trials","column_of","column_told","is_spot","looked","is_paper","is_helper","is_statement","hangs_on_no_in","holds_first","holds_now","holds_next","trials_by","bits_by_free","bits_by_given","_law_mixed","_law_state","_law_take","_law_gates","_law_circuit","_law_case","_law_paper","_law_further","_law_wider"]:List Str)++(["_law_beside","_law_apart","law","Ground.put_circuit","Ground.all_below","Ground.reckoned","Ground"]:List Str)),[("MOST_PLACES",.int 3),("MOST_FREE",.int 8)],λl c=>match l,c with|111,91=>PB (.own [] .fz)|124,50=>PB (.own [] .fz)|148,11=>PB (.own [] .fz)|180,11=>PB (.own [.own [] .fz] .fz)|43,21=>PB (.own [] .fz)|44,22=>PB (.own [] .fz)|45,22=>PB (.own [] .fz)|60,16=>PB (.own [] .fz)|_,_=>PC,λl c=>match l,c with|145,12=>PB PD|158,12=>PB PD|170,11=>PB PD|198,11=>PB PD|207,22=>PB PD|207,33=>PB PD|207,50=>PB PD|223,16=>PB PD|223,27=>PB PD|230,26=>PB PD|230,37=>PB PD|242,80=>PB PD|78,15=>PB PD|_,_=>PC,λi=>match i with|23=>PB [PD,PF]|24=>PB [PD,PF,PF]|25=>PB [PD,PF,PF,PF,PF]|33=>PB [PD,PF,PF]|_=>PC,λ_ _=>[],[("Ground",["gates","begins","afters"])]⟩
noncomputable def an:An:=⟨λl=>match l with|34=>[4]|142=>[10,12,13]|150=>[5,6,7,8,9]|153=>[9]|161=>[6]|167=>[8,7]|192=>[4,5,6]|220=>[10]|234=>[7,8]|239=>[11,12]|250=>[6,7]|269=>[10,11]|53=>[8,9]|56=>[7,10,11]|62=>[5]|72=>[5]|_=>[],λl=>match l with|46=>PD|47=>PD|68=>PD|71=>PD|129=>PD|165=>PD|166=>PD|167=>PD|49=>PD|102=>PD|138=>PD|143=>PD|144=>PD|162=>PD|163=>PD|164=>PD|168=>PD|169=>PD|_=>PF⟩
abbrev s0:PV:=fD 1
section
local macro_rules|`([])=>`(.nil)|`([$a])=>`(.cons $a .nil)|`([$a,$b,*])=>`(.cons $a [$b,*])|`(↑$a)=>`(.var $a)|`(($a:num))=>`(nL $a)
noncomputable def b0:bB:=[.ret (.p (.bool .And [.isi "int" ↑0,.not (.isi "bool" ↑0)]))]
abbrev s1:PV:=fD 2
def b1:bB:=[.ret (.p (.bool .And [.fn 0 [↑0],.chain .LtE .Lt (0) ↑0 ↑1]))]
abbrev s2:PV:=fD 3
def b2:bB:=[.ret (.p (.comp .fz [PC,PC,PB 0] (.nm 1) (.rng (0) ↑1) .non (.bin .BitAnd (.bin .RShift ↑2 ↑1) (1))))]
abbrev s4:PV:=fD 8
noncomputable def b4:bB:=[.ret (.p (.bool .And [.isi "tuple" ↑0,.cmp .Eq (.blt "len" [↑0]) ↑1]))]
abbrev s5:PV:=fD 9
def b5:bB:=[.ret (.p (.bin .Add (.bin .Add (.ix ↑0 (0)) (.blt "len" [.ix ↑0 (1)])) (.blt "len" [.ix ↑0 (2)])))]
abbrev s6:PV:=fD 11
def b6:bB:=[.ret (.p (.bin .Sub (.bin .LShift (1) (.bin .LShift (1) ↑0)) (1)))]
abbrev s7:PV:=fD 12
def b7:bB:=[.asg 2 (.p (.bin .LShift (1) ↑0)),.asg 3 (.p (.bin .LShift (.fn 6 [↑0]) ↑2)),.asg 4 (.p (.bin .Add ↑2 ↑2)),.wh [] (.p (.cmp .Lt ↑4 (.bin .LShift (1) ↑1))) [.aug 3 .BitOr (.p (.bin .LShift ↑3 ↑4)),.aug 4 .Add (.p ↑4)],.ret (.p ↑3)]
abbrev s8:PV:=fD 13
def b8:bB:=[.asg 3 (.p (.comp .fz [PC,PC,PB 2] (.nm 1) (.e (.fn 2 [↑0,.bin .LShift (1) (.blt "len" [↑1])])) .non (.bin .Mult ↑2 ↑1))),.fo [4] (.nm 4) (.p (.e ↑1)) [.asg 3 (.p (.comp .fz [PC,PC,PC,PB 4] (.tp [.nm 1,.nm 2]) (.zp (.stp ↑3 .non (2)) (.stp ↑3 (.som (1)) (2))) .non (.bin .BitXor ↑1 (.bin .BitAnd (.bin .BitXor ↑1 ↑2) ↑3))))],.ret (.p (.ix ↑3 (0)))]
abbrev s9:PV:=fD 15
def b9:bB:=[.ret (.p (.bool .And [.fn 4 [↑0,(2)],.fn 1 [.ix ↑0 (0),(3)],.fn 1 [.ix ↑0 (1),.ix ↑1 (.ix ↑0 (0))]]))]
abbrev LN:PV:=fD 19
def Jw:bB:=[.ifs (.p (.bool .Or [.cmp .NotEq (.ix ↑0 (0)) (.ix ↑1 (0)),.cmp .NotEq (.blt "len" [.ix ↑0 (3)]) (.blt "len" [.ix ↑1 (3)])])) [.ret (.p (.lit (.bl PF)))] [],.ifs (.p (.not (.fn 11 [↑0,↑1,↑2]))) [.ret (.p (.lit (.bl PF)))] [],.unp [3,4,5,6] (.p ↑2),.asg 7 (.p (.fn 36 [↑0,↑1,↑3])),.asg 8 (.p (.bin .Add (.comp .fz [PC,PC] (.nm 1) (.rng (0) (.ix ↑0 (0))) .non (.tup .fz [.tup .fz [(0),↑1],.tup .fz [(1),↑1]])) (.comp .fz [PC,PC] (.nm 1) (.e (.bin .Add ↑4 ↑5)) .non (.sl ↑1 .non (.som (2)))))),.asg 9 (.p (.comp .fz [PC,PC,PC] (.tp [.nm 1,.nm 2]) (.zp (.ix ↑0 (3)) (.ix ↑1 (3))) .non (.tup .fz [.tup .fz [(0),↑1],.tup .fz [(1),↑2]]))),.ret (.p (.bool .And [.cmp .Eq (.comp .fz [PC,PC,PB 8] (.nm 1) (.e ↑6) .non (.ix ↑2 ↑1)) ↑9,.blt "all" [.comp .fz [PC,PC,PC,PB 7] (.nm 1) (.e ↑4) .non (.fn 14 [↑3,↑1])],.blt "all" [.comp .fz [PC,PC,PC,PB 7] (.nm 1) (.e ↑4) .non (.fn 15 [↑3,↑1])],.blt "all" [.comp .fz [PC,PC,PC,PB 7,PB 8] (.nm 1) (.e ↑5) .non (.fn 16 [↑3,↑4,↑1])],.blt "all" [.comp .fz [PC,PC,PC,PB 7,PB 8] (.nm 1) (.e ↑4) .non (.fn 17 [↑3,↑4,↑1])]]))]
abbrev LO:PV:=fD 20
def K3:bB:=[.ifs (.p (.bool .Or [.not (.fn 4 [↑2,(4)]),.not (.blt "all" [.comp .fz [PC,PC,PC,PC] (.nm 1) (.e ↑2) .non (.isi "list" ↑1)])])) [.ret (.p (.lit (.bl PF)))] [],.unp [3,4,5,6] (.p ↑2),.asg 7 (.p (.lst (.own [] .fz) [.fn 5 [↑0],.fn 5 [↑1],.blt "len" [↑3]])),.asg 8 (.p (.bin .Add (.ix ↑0 (0)) (.blt "len" [↑4]))),.asg 9 (.p (.bin .Add ↑8 (.blt "len" [↑5]))),.ret (.p (.bool .And [.blt "all" [.comp .fz [PC,PC,PC,PC,PB 7] (.tp [.nm 1,.nm 2]) (.enm ↑3) .non (.fn 12 [↑2,.bin .Add (.sl ↑4 .non (.som (2))) (.lst (.own [] .fz) [↑1])])],.blt "all" [.comp .fz [PC,PC,PC,PB 9,PB 7] (.nm 1) (.e ↑4) .non (.fn 13 [↑1,↑4,↑3])],.blt "all" [.comp .fz [PC,PC,PC,PC,PB 8,PB 7] (.tp [.nm 1,.nm 2]) (.enm ↑5) .non (.fn 13 [↑2,↑5,.bin .Add ↑4 ↑1])],.cmp .Eq (.blt "len" [↑6]) (.blt "len" [.ix ↑0 (3)]),.blt "all" [.comp .fz [PC,PC,PC,PB 9] (.nm 1) (.e ↑6) .non (.fn 1 [↑1,↑3])]]))]
abbrev s13:PV:=fD 22
def K4:bB:=[.ifs (.p (.bool .Or [.not (.fn 4 [↑0,(4)]),.not (.fn 9 [.ix ↑0 (0),↑1]),.not (.fn 9 [.ix ↑0 (1),↑1])])) [.ret (.p (.lit (.bl PF)))] [],.unp [3,4] (.p (.sl ↑0 (.som (2)) .non)),.ifs (.p (.bool .Or [.not (.isi "list" ↑3),.not (.isi "list" ↑4),.cmp .Gt (.blt "len" [↑3]) (8)])) [.ret (.p (.lit (.bl PF)))] [],.ret (.p (.bool .And [.blt "all" [.comp .fz [PC,PC,PC,PC,PB 2,PB 1] (.nm 1) (.e ↑3) .non (.bool .Or [.fn 1 [↑1,↑4],.fn 9 [↑1,↑5]])],.blt "all" [.comp .fz [PC,PC,PC,PB 2] (.nm 1) (.e ↑4) .non (.fn 1 [↑1,↑3])]]))]
abbrev LP:PV:=fD 23
def K5:bB:=[.ret (.p (.blt "all" [.comp .fz [PC,PC,PB 0] (.nm 1) (.e (.fn 34 [↑0,.dnew 1 .fz,.sl ↑1 .non (.som (2))])) .non (.bool .Or [.cmp .In ↑1 (.fld "gates" ↑2),.cmp .In ↑1 (.fld "begins" ↑2)])]))]
abbrev LQ:PV:=fD 24
def K6:bB:=[.asg 2 (.p (.fn 35 [↑0,.fld "begins" ↑0,.sl ↑1 .non (.som (2)),(1)])),.ret (.p (.cmp .Eq (.ix ↑2 (.ix ↑1 (0))) (.ix ↑2 (.ix ↑1 (1)))))]
abbrev LR:PV:=fD 25
def K7:bB:=[.unp [3,4,5,6] (.p ↑2),.asg 7 (.p (.fn 18 [↑0,↑1,↑5,↑6,.lst (.own [] .fz) [↑3,↑4]])),.ifs (.p (.cmp .Is ↑7 (.lit .non))) [.ret (.p (.lit (.bl PF)))] [],.unp [8,9] (.p ↑7),.ret (.p (.cmp .Eq (.bin .BitAnd (.bin .BitXor (.ix ↑8 ↑3) (.ix ↑8 ↑4)) ↑9) (0)))]
abbrev mH:PV:=fD 26
def CC:bB:=[.unp [3,4,5,6] (.p ↑2),.asg 7 (.p (.comp .fz [PC,PC,PB 0] (.nm 1) (.e (.fn 34 [↑0,.dnew 1 .fz,.lst (.own [] .fz) [↑3,↑4]])) (.som (.cmp .In ↑1 (.fld "afters" ↑2))) ↑1)),.asg 8 (.p (.fn 18 [↑0,↑1,↑5,↑6,.comp .fz [PC,PC,PB 0] (.nm 1) (.e ↑7) .non (.ix (.fld "afters" ↑2) ↑1)])),.ifs (.p (.cmp .Is ↑8 (.lit .non))) [.ret (.p (.lit (.bl PF)))] [],.unp [9,10] (.p ↑8),.stk,.asg 12 (.p (.fn 35 [↑0,↑11,.lst (.own [] .fz) [↑3,↑4],.fn 6 [.blt "len" [↑5]]])),.ret (.p (.cmp .Eq (.bin .BitAnd (.bin .BitXor (.ix ↑12 ↑3) (.ix ↑12 ↑4)) ↑10) (0)))]
noncomputable abbrev K8:List Str:=["ground","statements","statement","one","other","free","given","memories","trials","found","kept","nexts","later"]
theorem K9:a6 K8 ["ground","statements","statement"] (ab mH):=by walk_at "fsc"
abbrev LS:PV:=fD 27
noncomputable def La:bB:=[.asg 5 (.p (.fn 6 [.blt "len" [↑2]])),.unp [6,7] (.p (.fn 19 [↑1,↑2])),.asg 8 (.p (.fn 20 [↑0,↑1,↑3,↑6,↑5])),.asg 9 (.p (.blt "list" [↑4])),.fo [] (.nm 10) (.p (.e ↑3)) [.stk],.asg 11 (.p (.fn 35 [↑0,↑8,↑9,↑5])),.ifs (.p (.not (.blt "all" [.comp .fz [PC,PC,PB 11] (.nm 1) (.e ↑9) .non (.cmp .In ↑1 ↑2)]))) [.ret (.p (.lit .non))] [],.fo [10,12,13] (.nm 10) (.p (.e ↑3)) [.stk,.stk],.ret (.tup .fz (.fin (.mv 11) [↑7]))]
abbrev LU:PV:=fD 28
noncomputable def Lb:bB:=[.asg 2 (.p (.fn 6 [.blt "len" [↑1]])),.asg 3 (.p (.dnew 1 .fz)),.asg 4 (.p ↑2),.fo [5,6,7,8,9] (.tp [.nm 5,.nm 6]) (.p (.enm ↑1)) [.asg 7 (.p (.fn 7 [↑5,.blt "len" [↑1]])),.asg 8 (.p (.ifx (.fn 0 [↑6]) (.ix ↑0 ↑6) (.tup .fz [↑6]))),.fo [9] (.nm 9) (.p (.e ↑8)) [.ifs (.p (.cmp .In ↑9 ↑3)) [.aug 4 .BitAnd (.p (.bin .BitXor (.bin .BitXor ↑2 (.ix ↑3 ↑9)) ↑7))] [.put (.nm 3) ↑9 (.p ↑7)]]],.ret (.tup .fz (.fin (.mv 3) [↑4]))]
abbrev rZ:PV:=fD 29
noncomputable def Fa:bB:=[.asg 5 (.p (.dnew 0 .fz)),.fo [6] (.nm 6) (.p (.e ↑2)) [.stk,.stk],.stk,.stk,.stk,.ret (.mv 10)]
noncomputable abbrev Lc:List Str:=["ground","statements","given","bits","whole","firsts","number","first","second","alone","found"]
theorem Ld:a6 Lc ["ground","statements","given","bits","whole"] (ab rZ):=by walk_at "fsc"
abbrev LV:PV:=fD 31
def Lf:bB:=[.asg 2 (.p (.bin .Mod (.bin .Add (.bin .Add (.bin .Mult (.bin .Mod ↑0 (2147483647)) (.bin .Add (48271) (.bin .Mult (.bin .Mult (2) ↑1) ↑1))) (.bin .Mult (7919) ↑1)) (12345)) (2147483629))),.asg 2 (.p (.bin .FloorDiv (.bin .Mod (.bin .Mult ↑2 ↑2) (2147483587)) (3))),.ret (.p (.bin .FloorDiv (.bin .Mod (.bin .Mult (.bin .Mod (.bin .Add (.bin .Add (.bin .Mult ↑2 (69621)) (.bin .Mult (16807) ↑1)) (1)) (2147483579)) (.bin .Add (.bin .Mod ↑2 (65521)) (1))) (2147483563)) (5)))]
abbrev LW:PV:=fD 32
def Lg:bB:=[.asg 1 (.p (0)),.fo [] (.nm 2) (.p (.e ↑0)) [.asg 1 (.p (.bin .Mod (.bin .Add (.bin .Mult ↑1 (31)) ↑2) (.bin .Add (.bin .Pow (10) (18)) (9))))],.ret (.p (.lst (.own [.own [] .fz] .fz) [.comp .fz [PC,PC,PC] (.nm 1) (.e ↑0) (.som (.cmp .GtE (.blt "abs" [↑1]) (.bin .Pow (10) (18)))) (.blt "abs" [↑1]),↑1,(0)]))]
abbrev rm:PV:=fD 33
def Im:bB:=[.wh [] (.p (.bool .And [.cmp .Gt (.blt "len" [.ix ↑0 (0)]) (0),.cmp .Eq (.ix (.ix ↑0 (0)) (0)) (0)])) [.exp (.mut "pop" (.ix (.nm 0) (0)) [(0)])],.ifs (.p (.cmp .Gt (.blt "len" [.ix ↑0 (0)]) (0))) [.asg 2 (.p (.bin .Mod (.ix (.ix ↑0 (0)) (0)) ↑1)),.put (.ix (.nm 0) (0)) (0) (.p (.bin .FloorDiv (.ix (.ix ↑0 (0)) (0)) ↑1)),.ret (.p ↑2)] [],.put (.nm 0) (2) (.p (.bin .Add (.ix ↑0 (2)) (1))),.ret (.p (.bin .Mod (.fn 21 [.ix ↑0 (1),.ix ↑0 (2)]) ↑1))]
abbrev F7:PV:=fD 34
def Gf:bB:=[.asg 3 (.p (.lst (.own [] .fz) [])),.fo [4,5,6] (.nm 4) (.p (.rng (0) ↑2)) [.asg 5 (.io 23 (.ref 0 (.val (.p (4)) []))),.ifs (.p (.cmp .Eq (.bin .Add ↑1 ↑4) (0))) [.asg 5 (.p (0))] [],.asg 6 (.io 23 (.ref 0 (.val (.p (.ix (.lst (.own [] .fz) [(2),(4),(16),(256)]) ↑5)) []))),.exp (.mutM "append" 3 (.tup .fz (.cons (.p ↑6) (.fin (.blt "tuple" (.fin (.comp .fz [PC,PC,PC,PB 1,PB 4,PB 0] (.nm 1) (.p (.rng (0) ↑5)) .non (.io 23 (.ref 5 (.val (.p (.bin .Add ↑3 ↑4)) [])))) [])) []))))],.ret (.mv 3)]
abbrev Gc:PV:=fD 35
def Lh:bB:=[.asg 5 (.io 23 (.ref 0 (.val (.p (.bin .Add ↑3 (1))) []))),.asg 6 (.io 24 (.ref 0 (.val (.p (.bin .Add ↑1 ↑2)) (.val (.p ↑5) [])))),.asg 7 (.p (.bin .Add (.bin .Add ↑1 ↑2) ↑5)),.asg 8 (.comp .fz [PC,PC,PC,PB 0,PB 7] (.nm 1) (.p (.rng (0) ↑2)) .non (.tup .fz (.cons (.io 23 (.ref 3 (.val (.p (2)) []))) (.fin (.io 23 (.ref 3 (.val (.p ↑4) []))) [])))),.asg 9 (.p (.lst (.own [] .fz) [])),.ifs (.p (.cmp .Gt ↑7 (0))) [.asg 9 (.comp .fz [PC,PC,PC,PB 0,PB 7] (.nm 1) (.p (.rng (0) ↑4)) .non (.io 23 (.ref 3 (.val (.p ↑4) []))))] [],.ret (.tup .fz (.cons (.p ↑1) (.cons (.mv 8) (.cons (.mv 6) (.fin (.mv 9) [])))))]
abbrev LX:PV:=fD 36
def Li:bB:=[.asg 1 (.p (.fn 22 [↑0])),.asg 2 (.bin .Add (.cons (.p (1)) (.fin (.io 23 (.ref 1 (.val (.p (3)) []))) []))),.asg 3 (.io 25 (.ref 1 (.val (.p ↑2) (.val (.io 23 (.ref 1 (.val (.p (4)) []))) (.val (.p (8)) (.val (.bin .Add (.cons (.p (1)) (.fin (.io 23 (.ref 1 (.val (.ix (.cons (.p (.lst (.own [] .fz) [(4),(9)])) (.fin (.bin .FloorDiv (.fin (.io 23 (.ref 1 (.val (.p (4)) []))) [(3)])) []))) []))) []))) [])))))),.asg 4 (.p (.bin .Add (.bin .Add ↑2 (.blt "len" [.ix ↑3 (1)])) (.blt "len" [.ix ↑3 (2)]))),.asg 5 (.p (.blt "len" [.ix ↑3 (3)])),.ret (.tup .fz (.cons (.p ↑3) (.cons (.io 23 (.ref 1 (.val (.p ↑5) []))) (.fin (.io 23 (.ref 1 (.val (.p (.bin .Add ↑4 (.bin .Mult (2) ↑5))) []))) []))))]
abbrev LY:PV:=fD 37
def Lj:bB:=[.unp [3,4,5,6] (.p ↑0),.asg 7 (.p (.bin .Add ↑3 (.blt "len" [↑4]))),.asg 8 (.p (.comp .fz [PC,PC,PC,PB 3] (.tp [.nm 1,.nm 2]) (.enm ↑4) .non (.tup .fz [.tup .fz [(0),.bin .Add ↑3 ↑1],.tup .fz [(1),.bin .Add ↑3 ↑1],.lst (.own [] .fz) [.ix ↑2 (1)],.lst (.own [] .fz) []]))),.asg 9 (.p (.comp .fz [PC,PC,PC,PC,PB 7] (.tp [.nm 1,.nm 2]) (.enm ↑5) .non (.tup .fz [.tup .fz [(0),.bin .Add ↑4 ↑1],.tup .fz [(1),.bin .Add ↑4 ↑1],.blt "list" [.ix ↑2 (1)],.lst (.own [] .fz) []]))),.fo [10] (.nm 10) (.p (.e ↑6)) [.exp (.mut "append" (.nm 9) [.tup .fz [.tup .fz [(0),↑10],.tup .fz [(1),↑10],.lst (.own [] .fz) [↑10],.lst (.own [] .fz) []]]),.exp (.mut "append" (.nm 9) [.tup .fz [.tup .fz [(1),↑10],.tup .fz [(0),↑10],.lst (.own [] .fz) [↑10],.lst (.own [] .fz) []]])],.ret (.tup .fz (.cons (.p (.lst (.own [] .fz) [])) (.cons (.mv 8) (.fin (.mv 9) [.bin .Add (.bin .Add (.sl ↑6 .non (.som ↑1)) (.lst (.own [] .fz) [↑2])) (.sl ↑6 (.som (.bin .Add ↑1 (1))) .non)]))))]
abbrev LZ:PV:=fD 38
noncomputable def Lk:bB:=[.ret (.p (.bin .Add ↑0 (.blt "int" [.cmp .GtE ↑0 ↑1])))]
abbrev L1:PV:=fD 39
def Ll:bB:=[.unp [1,2,3,4] (.p ↑0),.asg 5 (.p (.comp .fz [PC,PC,PC,PC,PB 1] (.tp [.nm 1,.nm 2]) (.e ↑2) .non (.tup .fz [↑1,.fn 28 [↑2,↑4]]))),.asg 6 (.p (.comp .fz [PC,PC,PC,PC,PB 1] (.tp [.nm 1,.nm 2]) (.e ↑3) .non (.tup .fz [↑1,.blt "tuple" [.comp .fz [PC,PC,PC,PB 4] (.nm 1) (.e ↑2) .non (.fn 28 [↑1,↑3])]]))),.ret (.tup .fz (.cons (.p (.bin .Add ↑1 (1))) (.cons (.mv 5) (.fin (.mv 6) [.comp .fz [PC,PC,PC,PB 1] (.nm 1) (.e ↑4) .non (.fn 28 [↑1,↑3])]))))]
abbrev L3:PV:=fD 40
def Lm:bB:=[.unp [2,3,4,5] (.p ↑0),.asg 6 (.p (.lst (.own [] .fz) [])),.fo [7,8] (.nm 7) (.p (.rng (0) (.bin .Add (.bin .Add ↑2 (.blt "len" [↑3])) (.blt "len" [↑4])))) [.asg 8 (.p (.lst (.own [] .fz) [↑7,.fn 28 [↑7,↑2]])),.exp (.mut "append" (.nm 6) [.tup .fz [.tup .fz [(0),.ix ↑8 ↑1],.tup .fz [(1),.ix ↑8 (.bin .Sub (1) ↑1)]]])],.asg 9 (.p (.bin .Add (.comp .fz [PC,PC] (.nm 1) (.e ↑3) .non (.lst (.own [] .fz) [.ix ↑1 (1)])) (.comp .fz [PC,PC,PC,PC] (.tp [.nm 1,.nm 2]) (.e ↑4) .non (.blt "list" [↑2])))),.asg 10 (.p (.lst (.own [] .fz) [])),.fo [11,12] (.tp [.nm 11,.nm 12]) (.p (.zp (.sl ↑6 (.som ↑2) .non) ↑9)) [.exp (.mut "append" (.nm 10) [.tup .fz [.ix ↑11 (0),.ix ↑11 (1),.comp .fz [PC,PC,PC,PB 2,PB 1] (.nm 1) (.e ↑12) .non (.ix (.lst (.own [] .fz) [↑1,.fn 28 [↑1,↑3]]) ↑4),.lst (.own [] .fz) []]])],.asg 13 (.p (.comp .fz [PC,PC,PC,PB 2,PB 1] (.nm 1) (.e ↑5) .non (.ix (.lst (.own [] .fz) [↑1,.fn 28 [↑1,↑3]]) ↑4))),.ret (.tup .fz (.cons (.p (.lst (.own [] .fz) [])) (.cons (.p (.sl ↑10 .non (.som (.blt "len" [↑3])))) (.cons (.p (.sl ↑10 (.som (.blt "len" [↑3])) .non)) (.fin (.mv 13) [])))))]
abbrev L4:PV:=fD 41
def Ln:bB:=[.asg 2 (.p (.ix (.ix ↑0 (3)) ↑1)),.asg 3 (.p (.bin .Add (.sl ↑0 .non (.som (3))) (.tup .fz [.bin .Add (.ix ↑0 (3)) (.lst (.own [] .fz) [↑2])]))),.asg 4 (.p (.fn 27 [↑0,↑1,↑2])),.asg 5 (.p (.bin .Add (.sl ↑4 .non (.som (3))) (.tup .fz [.bin .Add (.ix ↑4 (3)) (.lst (.own [] .fz) [↑2])]))),.ifs (.p (.cmp .IsNot (.fn 10 [↑3,↑3,↑5]) (.lit (.bl PD)))) [.ret (.p (.lit (.bl PF)))] [],.fo [6,7] (.tp [.nm 6,.nm 7]) (.p (.e (.lst (.own [] .fz) [.tup .fz [↑0,↑3],.tup .fz [↑3,↑0]]))) [.ifs (.p (.bool .Or [.cmp .IsNot (.fn 10 [↑6,↑7,↑4]) (.lit (.bl PF)),.cmp .IsNot (.fn 10 [↑6,↑7,↑5]) (.lit (.bl PF))])) [.ret (.p (.lit (.bl PF)))] []],.asg 8 (.p (.fn 29 [↑0])),.ifs (.p (.cmp .IsNot (.fn 10 [↑0,↑8,.fn 30 [↑0,(0)]]) (.lit (.bl PF)))) [.ret (.p (.lit (.bl PF)))] [],.ret (.p (.cmp .Is (.fn 10 [↑8,↑0,.fn 30 [↑0,(1)]]) (.lit (.bl PF))))]
abbrev yQ:PV:=fD 42
def Lo:bB:=[.unp [1,2,3] (.p (.fn 26 [↑0])),.asg 4 (.p (.bin .Add (.bin .Add (.ix ↑1 (0)) (.blt "len" [.ix ↑1 (1)])) (.blt "len" [.ix ↑1 (2)]))),.asg 5 (.p (.ix (.ix ↑1 (3)) ↑2)),.asg 6 (.p (.comp .fz [PC,PC,PC,PB 5] (.tp [.nm 1,.nm 2]) (.enm (.ix ↑1 (3))) (.som (.cmp .Eq ↑2 ↑3)) ↑1)),.asg 7 (.p (.bin .Add (.lst (.own [] .fz) [↑5]) (.comp .fz [PC,PC,PB 4] (.nm 1) (.e ↑6) .non (.bin .Add ↑2 (.bin .Mult (2) ↑1))))),.asg 8 (.p (.fn 27 [↑1,↑2,↑3])),.asg 9 (.p (.fn 10 [↑1,↑1,↑8])),.ifs (.p (.bool .Or [.not (.isi "bool" ↑9),.cmp .NotEq ↑9 (.cmp .In ↑3 ↑7)])) [.ret (.p (.lit (.bl PF)))] [],.ifs (.p (.cmp .NotEq ↑8 (.fn 27 [↑1,↑2,↑3]))) [.ret (.p (.lit (.bl PF)))] [],.fo [10,11] (.nm 10) (.p (.e ↑7)) [.ifs (.p (.cmp .IsNot (.fn 10 [↑1,↑1,.fn 27 [↑1,↑2,↑10]]) (.lit (.bl PD)))) [.ret (.p (.lit (.bl PF)))] [],.asg 11 (.p (.fn 27 [↑1,↑2,.bin .Add ↑10 (1)])),.ifs (.p (.bool .And [.cmp .GtE ↑10 ↑4,.cmp .IsNot (.fn 10 [↑1,↑1,↑11]) (.lit (.bl PF))])) [.ret (.p (.lit (.bl PF)))] []],.ret (.p (.bool .And [.fn 31 [↑1,↑2],.cmp .Eq ↑1 (.ix (.fn 26 [↑0]) (0))]))]
noncomputable abbrev Io:List Str:=["_law_script","_law_circuit_here","_law_at","_law_number","_law_total","_law_place","_law_same","_law_good","_law_paper_here","_law_found","_law_one","_law_beside_here"]
theorem Lp:pJ fns an 60 Io yQ=PB Lo:=by rfl
theorem Lq:a6 Io ["_law_script"] (ab yQ):=by walk_at "fsc"
abbrev Ip:PV:=match fD 16 with|.ClassDef _ _ _ b ..=>b.getD 1 (.Pass ⟨0,0,0,0⟩)|s=>s
noncomputable def Lr:bB:=[.unp [3,4,5,6] (.p ↑2),.fo [8,9] (.tp [.nm 7,.tp [.nm 8,.nm 9]]) (.p (.enm ↑4)) [.put (.fld (.nm 0) "begins") (.tup .fz [↑1,.bin .Add ↑3 ↑7]) (.p ↑8),.put (.fld (.nm 0) "afters") (.tup .fz [↑1,.bin .Add ↑3 ↑7]) (.p (.tup .fz [↑1,↑9]))],.fo [7,10,11] (.tp [.nm 7,.tp [.nm 10,.nm 11]]) (.p (.enm ↑5)) [.put (.fld (.nm 0) "gates") (.tup .fz [↑1,.bin .Add (.bin .Add ↑3 (.blt "len" [↑4])) ↑7]) (.p (.tup .fz [↑10,.comp .fz [PC,PC,PB 1] (.nm 1) (.e ↑11) .non (.tup .fz [↑2,↑1])]))]]
noncomputable abbrev Iq:List Str:=["self","which","circuit","ins","memories","gates","outs","k","begin","after","table","places"]
theorem Ls:pJ fns an 60 Iq Ip=PB Lr:=by rfl
theorem Lu:a6 Iq ["self","which","circuit"] (ab Ip):=by walk_at "fsc"
abbrev yR:PV:=match fD 16 with|.ClassDef _ _ _ b ..=>b.getD 2 (.Pass ⟨0,0,0,0⟩)|s=>s
def Gg:bB:=[.asg 3 (.p (.dnew 1 .fz)),.asg 4 (.p (.blt "list" [↑2])),.wh [5] (.p ↑4) [.asg 5 (.mut "pop" (.nm 4) []),.ifs (.p (.bool .And [.cmp .NotIn ↑5 ↑3,.cmp .NotIn ↑5 ↑1])) [.put (.nm 3) ↑5 (.p (.lit (.bl PD))),.ifs (.p (.cmp .In ↑5 (.fld "gates" ↑0))) [.exp (.mut "extend" (.nm 4) [.ix (.ix (.fld "gates" ↑0) ↑5) (1)])] []] []],.stk]
noncomputable abbrev Lv:List Str:=["self","known","wanted","found","left","spot"]
theorem Lw:a6 Lv ["self","known","wanted"] (ab yR):=by walk_at "fsc"
abbrev yS:PV:=match fD 16 with|.ClassDef _ _ _ b ..=>b.getD 3 (.Pass ⟨0,0,0,0⟩)|s=>s
noncomputable def Gi:bB:=[.stk,.fo [5] (.nm 5) (.p (.e (.fn 34 [↑0,↑1,↑2]))) [.ifs (.p (.cmp .In ↑5 (.fld "gates" ↑0))) [.unp [6,7] (.p (.ix (.fld "gates" ↑0) ↑5)),.asg 8 (.p (.comp .fz [PC,PC,PB 4] (.nm 1) (.e ↑7) (.som (.cmp .In ↑1 ↑2)) (.ix ↑2 ↑1))),.ifs (.p (.cmp .Eq (.blt "len" [↑8]) (.blt "len" [↑7]))) [.put (.nm 4) ↑5 (.p (.fn 8 [↑6,↑8,↑3]))] []] []],.ret (.mv 4)]
noncomputable abbrev Lx:List Str:=["self","known","wanted","whole","found","spot","table","spots","columns"]
theorem Ly:a6 Lx ["self","known","wanted","whole"] (ab yS):=by walk_at "fsc"
abbrev uu:PV:=match fD 16 with|.ClassDef _ _ _ b ..=>b.getD 0 (.Pass ⟨0,0,0,0⟩)|s=>s
noncomputable def Gj:bB:=[.putF "Ground" (.nm 0) "gates" (.p (.dnew 1 .fz)),.putF "Ground" (.nm 0) "begins" (.p (.dnew 1 .fz)),.putF "Ground" (.nm 0) "afters" (.p (.dnew 1 .fz)),.stk,.stk,.fo [] (.tp [.nm 4,.nm 5]) (.p (.enm ↑3)) [.stk]]
end
noncomputable abbrev Lz:List Str:=["self","one","other","helpers","k","helper"]
theorem LA:a6 Lz ["self","one","other","helpers"] (ab uu):=by walk_at "fsc"
noncomputable def U0:GG:=⟨λ_=>PC,λ_=>PC⟩
def ψ0:Fn:=bN U0 1000 1 1 b0
def U_0:GG:=U0.addI 0 ψ0
def ψ1:Fn:=bN U_0 1000 2 2 b1
def U_1:GG:=U_0.addI 1 ψ1
def ψ2:Fn:=bN U_1 1000 2 2 b2
def Mn:GG:=U_1.addI 2 ψ2
abbrev U_3:GG:=Mn
def ψ4:Fn:=bN U_3 1000 2 2 b4
def U_4:GG:=U_3.addI 4 ψ4
def ψ5:Fn:=bN U_4 1000 1 1 b5
def U_5:GG:=U_4.addI 5 ψ5
def ψ6:Fn:=bN U_5 1000 1 1 b6
def U_6:GG:=U_5.addI 6 ψ6
def ψ7:Fn:=bN U_6 1000 2 5 b7
def U_7:GG:=U_6.addI 7 ψ7
def ψ8:Fn:=bN U_7 1000 3 5 b8
def U_8:GG:=U_7.addI 8 ψ8
def ψ9:Fn:=bN U_8 1000 2 2 b9
def Mo:GG:=U_8.addI 9 ψ9
abbrev U_12:GG:=Mo
def Gk:Fn:=bN U_12 1000 3 5 K4
def U_13:GG:=U_12.addI 13 Gk
def Ir:Fn:=bN U_13 1000 3 10 K3
def U_11:GG:=U_13.addI 11 Ir
def yT:Ro->Option Res:=λZ=>cm (aq U_11 1000 (bq Gg 3) [] Z) λZ=>rJ (wj (vQ (eI 3 Z[3]?)) Z)
def Bs:Fn:=vO "Ground.all_below" (jP yT 3 6)
def U_34:GG:=U_11.addI 34 Bs
def Iu:Fn:=bN U_34 1000 2 2 K5
def U_14:GG:=U_34.addI 14 Iu
def vT:Ro->Option Res:=λZ=>cm (fy [] 4 (wj (pT (eI 1 Z[1]?)) Z)) λZ=>aq U_14 1000 (br Gi 1) [] Z
def wk:Fn:=vO "Ground.reckoned" (jP vT 4 9)
def U_35:GG:=U_14.addI 35 wk
def Iv:Fn:=bN U_35 1000 2 3 K6
def U_15:GG:=U_35.addI 15 Iv
def Fb:Fn:=bN U_15 1000 2 10 Lb
def U_19:GG:=U_15.addI 19 Fb
def Fc:Ro->Option Res:=λZ=>fy [] 9 (wj (xD (U_19.fn 35) (cG (eI 0 Z[0]?) (cG (eI 3 Z[3]?) (cG (KU (eI 5 Z[5]?)) (cG (eI 4 Z[4]?) (PB [])))))) Z)
def Fd:Ro->Option Res:=λZ=>fy [] 10 (wj (pT (eI 3 Z[3]?)) Z)
def Fe:Ro->Option Res:=λZ=>pG [] [] (.tp [.nm 8,.nm 7]) (λ_ _=>PC) (E4 5 Z)
def vU:Ro->Option Res:=λZ=>cm (aq U_19 1000 (bq Fa 2) [] Z) λZ=>cm (Fc Z) λZ=>cm (Fd Z) λZ=>cm (Fe Z) λZ=>aq U_19 1000 (br Fa 5) [] Z
def Iw:Fn:=jP vU 5 11
def U_20:GG:=U_19.addI 20 Iw
def Ff:Fn:=bN U_20 1000 5 14 La
def U_18:GG:=U_20.addI 18 Ff
def CD:Fn:=bN U_18 1000 3 10 K7
def U_16:GG:=U_18.addI 16 CD
def Fg:Ro->Option Res:=λZ=>fy [] 11 (wj (eO 1 (gf U_16.fn (.e (.var 7)) Z) (gJ (.nm 1) (λ_=>PB PD) (aa U_16.fn (.var 1)) (aa U_16.fn (.ix (.var 2) (.ix (.fld "afters" (.var 3)) (.var 1)))) (aQ Z [PC,PC,PB 9,PB 0]))) Z)
def vV:Ro->Option Res:=λZ=>cm (aq U_16 1000 (bq CC 5) [] Z) λZ=>cm (Fg Z) λZ=>aq U_16 1000 (br CC 6) [] Z
def Ix:Fn:=jP vV 3 13
def Iy:GG:=U_16.addI 17 Ix
def Bt:Fm:=la Iy 1000 3 12 [0] Lr
abbrev U_33:GG:=Iy
def vW(i:Int)(j:Nat):Ro->Option (List RA×Ro):=fu U_33 (.val (.p (.lit (.int i))) (.val (.p (.var j)) .nil))
def pY(i:Int)(j:Nat):Ro->Option Res:=λZ=>vH (yO "Ground" "put_circuit" 0 Bt (vW i j) Z)
def pZ:Ro->Option Res:=λZ=>cm (aq U_33 1000 (bq Gj 3) [0] Z) λZ=>cm (pY 0 1 Z) λZ=>cm (pY 1 2 Z) λZ=>aq U_33 1000 (br Gj 5) [0] Z
def Iz:Fn:=yw (.own [] (.own [] .fz)) "Ground" (lw pZ 4 6 [0])
def U_36:GG:=U_33.addI 36 Iz
def r6:Fn:=bN U_36 1000 3 10 Jw
def U_10:GG:=U_36.addI 10 r6
def Gm:Fn:=bN U_10 1000 2 3 Lf
def U_21:GG:=U_10.addI 21 Gm
def IA:Fn:=bN U_21 1000 1 3 Lg
def U_22:GG:=U_21.addI 22 IA
def Gn:Fm:=la U_22 1000 2 3 [0] Im
def U_23:GG:=U_22.addM 23 Gn
def IB:Fm:=la U_23 1000 3 7 [0] Gf
def U_24:GG:=U_23.addM 24 IB
def IC:Fm:=la U_24 1000 5 10 [0] Lh
def U_25:GG:=U_24.addM 25 IC
def Go:Fn:=bN U_25 1000 1 6 Li
def U_26:GG:=U_25.addI 26 Go
def Fh:Fn:=bN U_26 1000 3 11 Lj
def U_27:GG:=U_26.addI 27 Fh
def Fk:Fn:=bN U_27 1000 2 2 Lk
def U_28:GG:=U_27.addI 28 Fk
def ID:Fn:=bN U_28 1000 1 7 Ll
def U_29:GG:=U_28.addI 29 ID
def Fl:Fn:=bN U_29 1000 2 14 Lm
def U_30:GG:=U_29.addI 30 Fl
def IF:Fn:=bN U_30 1000 2 9 Ln
def U_31:GG:=U_30.addI 31 IF
def IG:Fn:=bN U_31 1000 1 12 Lo
noncomputable abbrev n0:PK:=.Name "" ⟨0,0,0,0⟩
abbrev cut(s:PV)(i n:Nat):List PV:=((aF s).drop i).take n
abbrev CF(s:PV)(i:Nat):PV:=(cut s i 1).getD 0 (.Pass ⟨0,0,0,0⟩)
theorem CG{s:PV}(h:dD X pn f s):a5 X pn f [s]:=λZ r e g Y H a b q=>rG (zO HS) (h Z r e g Y H a b q)
abbrev L5:Cz:=⟨ab yR,["self","known","wanted","found","left","spot"],λ_=>PD⟩
theorem vX(X:Cx)(O:ao X (a9 fns U_11) L5)(a:PassesOwn (PQ X.prog X.w) X.A X.env X.xe):a5 X [] yT (aF yR):=by
 let b:a5 X [] (aq U_11 1000 (bq Gg 3) []) (cut yR 0 3):=eN U_11 (λs d h=>jI fns U_11 O a 60 h) (show cB fns an 60 L5 60 (cut yR 0 3)=PB (bq Gg 3) by rfl) [];let c:a5 X [] (λZ=>rJ (wj (vQ (eI 3 Z[3]?)) Z)) (cut yR 3 1):=CG (Ck (Ik O (by rfl) (by rfl) (hJ O (by rfl) _)).m);show(fA b c:a5 X [] yT (cut yR 0 3++cut yR 3 1))
abbrev L6:Cz:=⟨ab yS,["self","known","wanted","whole","found","spot","table","spots","columns"],λ_=>PD⟩
theorem yU(X:Cx)(O:ao X (a9 fns U_14) L6)(a:PassesOwn (PQ X.prog X.w) X.A X.env X.xe):a5 X [] vT (aF yS):=by
 let b:a5 X [] (λZ=>fy [] 4 (wj (pT (eI 1 Z[1]?)) Z)) (cut yS 0 1):=CG (tT O (by rfl) (by rfl) (by rfl) (Cy O (by rfl) (by rfl) (hJ O (by rfl) _)).m);let c:a5 X [] (aq U_14 1000 (br Gi 1) []) (cut yS 1 2):=eN U_14 (λs d h=>jI fns U_14 O a 60 h) (show cB fns an 60 L6 60 (cut yS 1 2)=PB (br Gi 1) by rfl) [];show(fA b c:a5 X [] vT (cut yS 0 1++cut yS 1 2))
abbrev L7:Cz:=⟨ab rZ,["ground","statements","given","bits","whole","firsts","number","first","second","alone","found"],λ_=>PD⟩
theorem vY(X:Cx)(O:ao X (a9 fns U_19) L7)(d:PassesOwn (PQ X.prog X.w) X.A X.env X.xe):a5 X [] vU (aF rZ):=by
 let a:∀{c:List PV} {b:bB},cB fns an 60 L7 60 c=PB b->a5 X [] (aq U_19 1000 b []) c:=λh=>eN U_19 (λs l h=>jI fns U_19 O d 60 h) h [];let i:a5 X [] (aq U_19 1000 (bq Fa 2) []) (cut rZ 0 2):=a (by rfl);let j:a5 X [] Fc (cut rZ 2 1):=CG (tT O (by rfl) (by rfl) (by rfl) (B7 O (y:="Ground.reckoned") (by rfl) (hJ O (by rfl) _) (fR (by rfl) (hJ O (by rfl) _) (fR (by rfl) (K1 O (by rfl) (by rfl) (by rfl) (hJ O (by rfl) _)) (fR (by rfl) (hJ O (by rfl) _) jW))) (by rfl) (by rfl) (by rfl) (by rfl) (by decide)).m);let e:a5 X [] Fd (cut rZ 3 1):=CG (tT O (by rfl) (by rfl) (by rfl) (Cy O (by rfl) (by rfl) (hJ O (by rfl) _)).m)
 let f:a5 X [] Fe (cut rZ 4 1):=CG (ym O d (fg:=[]) (t:=.tp [.nm 8,.nm 7]) (n:=4) (by rfl) (Il O (by rfl) (by rfl) (by rfl)) (λk Z r h=>nomatch h) (by rfl))
 let g:a5 X [] (aq U_19 1000 (br Fa 5) []) (cut rZ 5 1):=a (by rfl);show(fA i (fA j (fA e (fA f g))):a5 X [] vU (cut rZ 0 2++(cut rZ 2 1++(cut rZ 3 1++(cut rZ 4 1++cut rZ 5 1)))))
abbrev Jx:Cz:=⟨ab mH,["ground","statements","statement","one","other","free","given","memories","trials","found","kept","nexts","later"],λ_=>PD⟩
abbrev kE:PK:=match CF mH 5 with|.Assign _ (.DictComp k _ _ _ _) _=>k|_=>n0
abbrev vE:PK:=match CF mH 5 with|.Assign _ (.DictComp _ v _ _ _) _=>v|_=>n0
abbrev tE:PK:=match CF mH 5 with|.Assign _ (.DictComp _ _ (g::_) _ _) _=>g.target|_=>n0
abbrev iE:PK:=match CF mH 5 with|.Assign _ (.DictComp _ _ (g::_) _ _) _=>g.iter|_=>n0
abbrev sE:P1:=match CF mH 5 with|.Assign _ (.DictComp _ _ _ s _) _=>s|_=>ab mH
abbrev Mp:Pos:=match CF mH 5 with|.Assign _ (.DictComp _ _ _ _ p) _=>p|_=>⟨0,0,0,0⟩
abbrev pE:Pos:=match CF mH 5 with|.Assign [.Name _ p] _ _=>p|_=>⟨0,0,0,0⟩
abbrev qE:Pos:=match CF mH 5 with|.Assign _ _ p=>p|_=>⟨0,0,0,0⟩
theorem yV(X:Cx)(O:ao X (a9 fns U_16) Jx)(l:PassesOwn (PQ X.prog X.w) X.A X.env X.xe):a5 X [] vV (aF mH):=by
 let i:∀{g:List PV} {b:bB},cB fns an 60 Jx 60 g=PB b->a5 X [] (aq U_16 1000 b []) g:=λh=>eN U_16 (λs o h=>jI fns U_16 O l 60 h) h [];let d:=λ(f:Cx) (c:Cz) (P:ao f (a9 fns U_16) c)=>(cH fns U_16.fn 60).1 f c P;let j:a5 X [] (aq U_16 1000 (bq CC 5) []) (cut mH 0 5):=i (by rfl)
 let m:a5 X [] Fg (cut mH 5 1):=by
  let h:=EN (pn:=[]) O (x:="nexts") (z:=1) (n:=4) (kx:=kE) (elt:=vE) (tg:=tE) (iter:=iE) (scope:=sE) (cp:=Mp) (p:=pE) (pos:=qE) (by rfl) (by rfl) (by rfl) (by rfl) (tB fns U_16.fn O (d X Jx O) (show _=PB (II.e (.var 7)) by rfl)) (by rfl) (λC s H a=>B9) (λC s H a=>d _ _ (c6 O (by rfl) C s H a) _ (.var 1) (by rfl)) (λC s H a=>d _ _ (c6 O (by rfl) C s H a) _ (.ix (.var 2) (.ix (.fld "afters" (.var 3)) (.var 1))) (by rfl));rw[show aA Jx sE=[PC,PC,PB 9,PB 0] by rfl] at h;show CG h
 let k:a5 X [] (aq U_16 1000 (br CC 6) []) (cut mH 6 2):=i (by rfl);show(fA j (fA m k):a5 X [] vV (cut mH 0 5++(cut mH 5 1++cut mH 6 2)))
abbrev IH:Cz:=⟨ab uu,["self","one","other","helpers","k","helper"],λ_=>PD⟩
theorem r9(o:Nk K P0 "Ground" = PB (PB (.ref C)))(n:Cls K C)(e:oH K C "put_circuit" f)(F:FnOk P w K mg base iQ k f fd ps (vD K Bt))(c:Binds K fd ps [])(X:Cx)(O:ao X (a9 fns U_33) IH)(t:PassesOwn (PQ X.prog X.w) X.A X.env X.xe)(v:CB P w K mg base k X):a5 X [0] pZ (aF uu):=by
 obtain⟨rfl,rfl,rfl,rfl,rfl,l⟩:=v;let m:∀{g:List PV} {b:bB},cB fns an 60 IH 60 g=PB b->a5 X [0] (aq U_33 1000 b [0]) g:=λh=>eN U_33 (λs B h=>jI fns U_33 O t 60 h) h [0];let p:=(cH fns U_33.fn 60).1 X IH O;let x:a5 X [0] (aq U_33 1000 (bq Gj 3) [0]) (cut uu 0 3):=m (by rfl)
 let d:∀(i:Int) (j:Nat) (a b:PK),ah a=PD->ah b=PD->cE fns 60 IH a=PB (.lit (.int i))->cE fns 60 IH b=PB (.var j)->gz X (vW i j) [a,b]:=λi j a b r y e1 e2=>
  xR r (rF U_33 (p _ _ e1)) (xR y (rF U_33 (p _ _ e2)) Cc)
 let z:a5 X [0] (pY 0 1) (cut uu 3 1):=CG (yh (by rfl) (CA O (by rfl) o n e F l c (by rfl) (by rfl) (by rfl) (by rfl) (by decide) (d 0 1 _ _ (by rfl) (by rfl) (by rfl) (by rfl))));let u:a5 X [0] (pY 1 2) (cut uu 4 1):=CG (yh (by rfl) (CA O (by rfl) o n e F l c (by rfl) (by rfl) (by rfl) (by rfl) (by decide) (d 1 2 _ _ (by rfl) (by rfl) (by rfl) (by rfl))));let q:a5 X [0] (aq U_33 1000 (br Gj 5) [0]) (cut uu 5 1):=m (by rfl);show(fA x (fA z (fA u q)):a5 X [0] pZ (cut uu 0 3++(cut uu 3 1++(cut uu 4 1++cut uu 5 1))))
noncomputable abbrev k0:Ow:=.own [] .fz
noncomputable abbrev iD(n:Nat):D:=.int (n:Int)
noncomputable abbrev fS(d:D):Option Sl:=PB ⟨PF,.fz,d⟩
abbrev aW(d:D):Option Sl:=PB ⟨PF,k0,d⟩
theorem aD(h:Wp B λx=>x=r):B=PB r:=by obtain⟨x,e,rfl⟩:=h;show e
theorem ox{α:Type}{B:Option α}{r:α}(h:Wp B λx=>x=r):B=PB r:=by obtain⟨x,e,rfl⟩:=h;show e
theorem wv{α:Type}{a:Option α}{r:α}{Q:α->Prop}(h:a=PB r)(q:Q r):Wp a Q:=⟨r,h,q⟩
section
variable {U:Nat->Option Fn} {Z:Ro} {a b c:IE} {r:ge} {k k' k'':Kd} {i j l:Int} {x y z:Bool} {d d':D} {xs:List D} {hd:Hd}
theorem bt(d:aa U a Z=PB (k,.int i))(c:aa U b Z=PB (k',.int j)):aa U (.bin .Add a b) Z=PB (.sh,.int (i+j)):=aD (bb (wv d (wv c (yC rfl))))
theorem IJ(d:aa U a Z=PB (k,.int i))(c:aa U b Z=PB (k',.int j)):aa U (.bin .Sub a b) Z=PB (.sh,.int (i-j)):=aD (bb (wv d (wv c (rS rfl))))
theorem iz(h:0<j)(d:aa U a Z=PB (k,.int i))(c:aa U b Z=PB (k',.int j)):aa U (.bin .Mod a b) Z=PB (.sh,.int (i%j)):=aD (bb (wv d (wv c (ER h rfl))))
theorem lx{xs ys:List D}(h:dF k xs=PD/\dF k' ys=PD/\xs.length+ys.length<=100000)(d:aa U a Z=PB (k,.lst xs))(c:aa U b Z=PB (k',.lst ys)):aa U (.bin .Add a b) Z=PB (.fr bQ,.lst (xs++ys)):=aD (bb (wv d (wv c (ET h rfl))))
theorem CH{z:Int}{n:Nat}(c:hd=.lst\/hd=.tup)(a:jL xs.length z=PB n)(b:xs[n]?=PB d):xr (PB (k,.nd hd xs)) (PB (k',.int z))=PB (o5 k n,d):=by
 rcases c with rfl|rfl
 ·show aD (EW a b rfl)
 ·show aD (EX a b rfl)
theorem CI{m n:Nat}{z:Int}(a:z=n)(h:n<m):jL m z=PB n:=by subst a;rw[ug (by lia) (by lia)];rfl
theorem bK{n:Nat}{z:Int}(h:aa U a Z=PB (k,.nd hd xs))(e:aa U b Z=PB (k',.int z))(g:hd=.lst\/hd=.tup)(f:z=n)(c:xs[n]?=PB d):aa U (.ix a b) Z=PB (o5 k n,d):=by
 rw[xG,h,e];show CH g (CI f (Mv.mp c).1) c
theorem mI(b:aa U a Z=PB (k,d))(h:Az d=PB n):aa U (.blt "len" (.cons a .nil)) Z=PB (.sh,.int n):=aD (du (aB (wv b (aU (EY h rfl)))))
theorem e1{p:KD}(b:aa U a Z=PB p):aZ U (.cons a .nil) Z=PB [p]:=ox (aB (wv b (aU rfl)))
theorem e2(d:aa U a Z=PB p)(c:aa U b Z=PB q):aZ U (.cons a (.cons b .nil)) Z=PB [p,q]:=ox (aB (wv d (aB (wv c (aU rfl)))))
theorem e3(f:aa U a Z=PB p)(d:aa U b Z=PB q)(e:aa U c Z=PB u):aZ U (.cons a (.cons b (.cons c .nil))) Z=PB [p,q,u]:=ox (aB (wv f (aB (wv d (aB (wv e (aU rfl)))))))
theorem e4(h:aa U a Z=PB p)(d:aa U b Z=PB q)(g:aa U c Z=PB u)(f:aa U e Z=PB t):aZ U (.cons a (.cons b (.cons c (.cons e .nil)))) Z=PB [p,q,u,t]:=ox (aB (wv h (aB (wv d (aB (wv g (aB (wv f (aU rfl)))))))))
theorem bC{B:Fn}{kds:List KD}{p:KD}(d:U n=PB B)(b:aZ U es Z=PB kds)(hk:(kds.all λp=>qR p.1 p.2)=PD)(hd:kds.map (·.2)=ds)(c:B ds=PB p)(a:bE p.1=PF):aa U (.fn n es) Z=PB p:=
 aD (yB d (wv b (ui ⟨p,by rw[hd];show c,a,.inl hk,rfl⟩)))
theorem iA{B:Fn}{kds:List KD}{p:KD}(d:U n=PB B)(b:aZ U es Z=PB kds)(hk:kK p.1 p.2=PD)(hd:kds.map (·.2)=ds)(c:B ds=PB p)(a:bE p.1=PF):aa U (.fn n es) Z=PB p:=
 aD (yB d (wv b (ui ⟨p,by rw[hd];show c,a,.inr hk,rfl⟩)))
/- tests -/
theorem bR(e:aa U a Z=PB (k,d))(c:aa U b Z=PB (k',d'))(h:cY op d d'=PB x):aO U (.cmp op a b) Z=PB x:=ox (rR (wv e (wv c (wv h rfl))))
theorem Fo(d:aa U a Z=PB (k,.int i))(c:aa U b Z=PB (k',.int j)):aO U (.cmp .Gt a b) Z=PB (decide (j<i)):=bR d c rfl
theorem IK(d:aa U a Z=PB (k,.int i))(c:aa U b Z=PB (k',.int j)):aO U (.cmp .GtE a b) Z=PB (decide (j<=i)):=bR d c rfl
theorem p4(d:aa U a Z=PB (k,.int i))(c:aa U b Z=PB (k',.int j)):aO U (.cmp .Eq a b) Z=PB (decide (i=j)):=bR d c (ox (Ct rfl))
theorem Bu(d:aa U a Z=PB (k,.int i))(c:aa U b Z=PB (k',.int j)):aO U (.cmp .NotEq a b) Z=PB (!decide (i=j)):=bR d c (ox (Cu rfl))
theorem uw(b:aa U a Z=PB (k,d)):aO U (.cmp .Is a (.lit .non)) Z=PB (xo d):=bR b rfl rfl
theorem eU(h:aO U a Z=PB x):aO U (.not a) Z=PB (!x):=by rw[xI,h];rfl
theorem eV(h:aO U a Z=PB x):aO U (.bool op (.cons a .nil)) Z=PB x:=ox (pO (wv h rfl))
theorem n5(h:aO U a Z=PB x)(h2:x=PF->aO U (.bool .Or (.cons b r)) Z=PB y):aO U (.bool .Or (.cons a (.cons b r))) Z=PB (x||y):=by
 show ox (li (wv h ?_));cases x
 ·show⟨λ_=>wv (h2 rfl) rfl,λh=>absurd rfl h⟩
 ·show⟨λh=>absurd h (by decide),λ_=>rfl⟩
theorem mJ(h:aO U a Z=PB x)(h2:x=PD->aO U (.bool .And (.cons b r)) Z=PB y):aO U (.bool .And (.cons a (.cons b r))) Z=PB (x&&y):=by
 show ox (li (wv h ?_));cases x
 ·show⟨λh=>absurd h (by decide),λ_=>rfl⟩
 ·show⟨λ_=>wv (h2 rfl) rfl,λh=>absurd rfl h⟩
theorem vZ(h:aa U (.fn n es) Z=PB (k,.bl x)):aO U (.fn n es) Z=PB x:=by rw[AR,<- xH,h];rfl
theorem CJ(h:aa U (.blt n es) Z=PB (k,.bl x)):aO U (.blt n es) Z=PB x:=by rw[xL,<- tu,h];rfl
theorem yW(b:aa U a Z=PB (k,d))(h:nB T d=PB x):aO U (.isi T a) Z=PB x:=by
 rw[xK,<- tq,show aa U (.isi T a) Z=PB (.sh,.bl x) from aD (rQ (wv b (wv h rfl)))];rfl
theorem IL{n:Nat}{s:Sl}(h:Z[n]?=PB (PB s))(a:vp s.d=PB x):aO U (.var n) Z=PB x:=by
 rw[xJ,h];change eJ (PB (oW n s))=_;unfold eJ;obtain⟨b,c,e⟩:=s
 cases b<;>(unfold oW;first|show a|(split<;>show a))
/- truths as values -/
theorem eW(h:aO U (.cmp op a b) Z=PB x):aa U (.cmp op a b) Z=PB (.sh,.bl x):=by rw[AK,<- pj,h];rfl
theorem Bv(f:aa U a Z=PB (k,.int i))(d:aa U b Z=PB (k',.int j))(e:aa U c Z=PB (k'',.int l)):aa U (.chain .LtE .Lt a b c) Z=PB (.sh,.bl (decide (i<=j)&&decide (j<l))):=by
 rw[vC,f,d,e]
 change bV (match PB (decide (i<=j)) with|some PD=>PB (decide (j<l))|some PF=>PB PF|none=>PC)=_
 cases decide (i<=j)<;>rfl
theorem uA(b:aa U a Z=PB (k,d))(h:nB T d=PB x):aa U (.isi T a) Z=PB (.sh,.bl x):=aD (rQ (wv b (wv h rfl)))
theorem IM(h:aa U a Z=PB (k,d))(b:vp d=PB x):aa U (.not a) Z=PB (.sh,.bl (!x)):=aD (yx (wv h (wv b rfl)))
theorem iB(h:aa U a Z=PB p):aa U (.bool op (.cons a .nil)) Z=PB p:=aD (pN (wv h rfl))
theorem dB(h:aa U a Z=PB (k,.bl x))(h2:x=PD->aa U (.bool .And (.cons b r)) Z=PB (.sh,.bl y)):aa U (.bool .And (.cons a (.cons b r))) Z=PB (.sh,.bl (x&&y)):=by
 show aD (lg (wv h ⟨x,rfl,?_⟩));cases x
 ·show⟨λh=>absurd h (by decide),λ_=>rfl⟩
 ·show⟨λ_=>wv (h2 rfl) rfl,λh=>absurd rfl h⟩
theorem IN(h:aa U a Z=PB (k,.bl x))(h2:x=PF->aa U (.bool .Or (.cons b r)) Z=PB (.sh,.bl y)):aa U (.bool .Or (.cons a (.cons b r))) Z=PB (.sh,.bl (x||y)):=by
 show aD (lg (wv h ⟨x,rfl,?_⟩));cases x
 ·show⟨λ_=>wv (h2 rfl) rfl,λh=>absurd rfl h⟩
 ·show⟨λh=>absurd h (by decide),λ_=>rfl⟩
theorem IP(h:aO U t Z=PB x)(h1:x=PD->aa U a Z=PB p)(h2:x=PF->aa U b Z=PB p):aa U (.ifx t a b) Z=PB p:=aD (yy (wv h ⟨λe=>wv (h1 e) rfl,λe=>wv (h2 e) rfl⟩))
/- comprehensions -/
theorem Fp{α:Type}{f:α->D}{l:List α}{ys:List D}(b:ys.length=l.length)(h:∀(i:Nat) y,ys[i]?=PB y->∃a,l[i]?=PB a/\y=f a):ys=l.map f:=by
 show Ol λi=>?_;rw[MA]
 cases e:ys[i]? with
 |none=>
  have:l[i]?=PC:=Np (by have:=NR.mp e;lia);rw[this];rfl
 |some y=>
  obtain⟨a,e1,rfl⟩:=h i y e;rw[e1];rfl
theorem ly{α:Type}{l:List α}{f g:α->D}{r:Ow}{i:D->Option (Option KD)}(h:∀a∈l,Wp (i (f a)) λo=>∃c,o=PB (c,g a)/\bM r (c,g a)=PD):Wp (aP r i (l.map f)) λys=>ys=l.map g:=by
 show KS (λj y=>∃a,l[j]?=PB a/\y=g a) (λj d b=>?_) λys m k=>Fp (by rw[m,My]) k;rw[MA] at b
 cases e:l[j]? with
 |none=>rw[e] at b;cases b
 |some a=>
  rw[e] at b;cases b;show(h a (MH e)).mono λo ⟨c,e1,e2⟩=>⟨_,e1,e2,a,rfl,rfl⟩
theorem n6(n:Nat):dR 0 n=(Na n).map iD:=by
 unfold dR;rw[Int.sub_zero,NA];show NZ λk _=>by rw[Ph]
theorem iC{α:Type}{l:List α}{f g:α->D}{hd:Hd}{r:Ow}{cap:List (Option Nat)}{tg:IT}{a elt:IE}(i:hd=.lst\/hd=.tup)(m:aa U a Z=PB (k,.nd hd (l.map f)))(d:dF k (l.map f)=PD)(b:l.length<=100000)
  (h:∀a∈l,Wp (dS tg (di U .non) (aa U elt) (aQ Z cap) (f a)) λo=>∃c,o=PB (c,g a)/\bM r (c,g a)=PD):aa U (.comp r cap tg (.e a) .non elt) Z=PB (.fr (.own [] r),.lst (l.map g)):=by
 show aD (dL (gh (wv m ?_)));rcases i with rfl|rfl
 ·show dw d ⟨by simpa using b,(ly h).mono λj e=>by rw[e]⟩
 ·show nY d ⟨by simpa using b,(ly h).mono λj e=>by rw[e]⟩
theorem IQ{n:Nat}{g:Nat->D}{r:Ow}{cap:List (Option Nat)}{tg:IT}{a elt:IE}(f:aa U a Z=PB (k,iD n))(c:n<=100000)
  (h:∀i,i<n->Wp (dS tg (di U .non) (aa U elt) (aQ Z cap) (iD i)) λo=>∃b,o=PB (b,g i)/\bM r (b,g i)=PD):aa U (.comp r cap tg (.rng (.lit (.int 0)) a) .non elt) Z=PB (.fr (.own [] r),.lst ((Na n).map g)):=by
 show aD (dL (gM (ba (wv f (jq (cy (by lia) (by lia) (by lia) (by lia) (by lia)) ⟨?_,?_⟩)))))
 ·change(dR 0 (n:Int)).length<=_;rw[n6,My,N5];show c
 ·change Wp (aP r _ (dR 0 (n:Int))) _;rw[n6];show(ly λi d=>h i (NV.mp d)).mono λj e=>by rw[e]
theorem v3{a:Ro->Option KD}{Q:Option KD->Prop}(b:bX [(1,d)] Z0=PD)(h:Wp (a (setAll [(1,d)] Z0)) λx=>Q (PB x)):Wp (dS (.nm 1) (di U .non) a Z0 d) Q:=um (ps:=[(1,d)]) rfl b rfl h
theorem CK{a b:D}{d:Ro->Option KD}{c:Ro}{Q:Option KD->Prop}(e:bX [(1,a),(2,b)] c=PD)(h:Wp (d (setAll [(1,a),(2,b)] c)) λx=>Q (PB x)):Wp (dS (.tp [.nm 1,.nm 2]) (di U .non) d c (.tup [a,b])) Q:=um (ps:=[(1,a),(2,b)]) rfl e rfl h
/- all,any,sum,min over a comprehension -/
theorem CL{bs:List Bool}(h:aa U a Z=PB (k,.lst (bs.map D.bl))):aa U (.blt "all" (.cons a .nil)) Z=PB (.sh,.bl (bs.all id)):=aD (du (aB (wv h (aU (EZ rfl)))))
end
section
variable {U:GG} {N:Nat} {pn:List Nat} {Z:Ro} {Q:Res->Prop} {rest:bB}
theorem jK(h:Wp (aq U N rest pn Z) Q):Wp (aq U N .nil pn Z) (Kt U N rest pn Q):=a7 (eB h)
theorem jr(h:aO U.fn t Z=PB z)(h1:z=PD->Wp (aq U N a pn Z) (Kt U N rest pn Q))(h2:z=PF->Wp (aq U N b pn Z) (Kt U N rest pn Q)):Wp (aq U N (.cons (.ifs (.p t) a b) rest) pn Z) Q:=
 Ig (mF (wv h ⟨h1,h2⟩))
theorem cV{x:KD}(h:aO U.fn t Z=PB z)(h1:z=PD->aa U.fn e Z=PB x/\bE (dJ x.1 x.2)=PF/\Q (.rt (dJ x.1 x.2) x.2 Z))(h2:z=PF->Wp (aq U N rest pn Z) Q):Wp (aq U N (.cons (.ifs (.p t) (.cons (.ret (.p e)) .nil) .nil) rest) pn Z) Q:=
 jr h (λa=>cR (ce (wv (h1 a).1 ⟨(h1 a).2.1,ul (h1 a).2.2⟩))) λa=>jK (h2 a)
theorem au{x:KD}(h:aa U.fn e Z=PB x)(a:bE (dJ x.1 x.2)=PF)(b:i∉pn)(w:Wp (aq U N rest pn (Z.set i (PB ⟨PF,F9 (dJ x.1 x.2),x.2⟩))) Q):Wp (aq U N (.cons (.asg i (.p e)) rest) pn Z) Q:=
 eC (ce (wv h ⟨⟨a,b⟩,w⟩))
theorem cc{x:KD}(h:aa U.fn e Z=PB x)(a:bE (dJ x.1 x.2)=PF)(q:Q (.rt (dJ x.1 x.2) x.2 Z)):Wp (aq U N (.cons (.ret (.p e)) rest) pn Z) Q:=cR (ce (wv h ⟨a,q⟩))
end
theorem eZ{ds:List D}(a:ds.length=m)(h:Wp (aq U N body [] (k9 k (ds.map ua))) λr=>Wp (gg (PB r)) λx=>x=p):bN U N m k body ds=PB p:=aD (nZ a h)
theorem fF(a:bE kd=PF)(q:(kd,d)=p):Wp (gg (PB (.rt kd d Z))) λx=>x=p:=eD a q
theorem mN{ft:Ro->Option (Bool×Ro)}{fb:Ro->Option Res}{Q:Res->Prop}(I:Nat->Ro->Prop)(f:∀m Z,I m Z->Wp (ft (clrN fg Z)) λp=>(p.1=PF->Q (.nx p.2))/\(p.1=PD->Wp (fb p.2) λr=>(∃Z' a,(r=.nx Z'\/r=.ct Z')/\a<m/\I a Z')\/∃k d Z',r=.rt k d Z'/\Q (.rt k d Z'))):∀n m Z,m<n->I m Z->Wp (jO fg ft fb n Z) Q
 |0,m,Z,h,_=>absurd h (Nat.not_lt_zero _)
 |n+1,m,Z,h,hI=>by
  obtain⟨⟨b,g⟩,e1,i,l⟩:=f m Z hI
  cases b with
  |false=>show⟨.nx g,by unfold jO;rw[e1],i rfl⟩
  |true=>
   obtain⟨r,e2,e⟩:=l rfl;rcases e with⟨Z',a,e,o,c⟩|⟨k,d,Z',rfl,q⟩
   ·obtain⟨x,e3,j⟩:=mN I f n a Z' (by lia) c;show⟨x,?_,j⟩;unfold jO;rw[e1];dsimp only at e2⊢;rw[e2]
    rcases e with rfl|rfl<;>show e3
   ·show⟨_,?_,q⟩;unfold jO;rw[e1];dsimp only at e2⊢;rw[e2]
theorem CM{U:GG}{N:Nat}{pn:List Nat}{Z:Ro}{Q:Res->Prop}{rest:bB}{fg:List Nat}{t:MT}{b:bB}(I:Nat->Ro->Prop){m0:Nat}(i:m0<N)(h:I m0 Z)
  (hs:∀m Z,I m Z->Wp (k4 U t (clrN fg Z)) λp=>(p.1=PF->Wp (aq U N rest pn p.2) Q)/\(p.1=PD->Wp (aq U N b pn p.2) λr=>(∃a f,(r=.nx a\/r=.ct a)/\f<m/\I f a)\/∃k d a,r=.rt k d a/\Q (.rt k d a))):Wp (aq U N (.cons (.wh fg t b) rest) pn Z) Q:=by
 obtain⟨r,e,q⟩:=mN (fg:=fg) (ft:=k4 U t) (fb:=aq U N b pn) (Q:=Kt U N rest pn Q) I (λm Z j=>(hs m Z j).mono λp c=>⟨c.1,λe=>(c.2 e).mono λr g=>g.imp id λ⟨k,d,a,e,q⟩=>⟨k,d,a,e,q⟩⟩) N m0 Z i h;show dW ⟨r,by rw[EL];show e,q⟩
noncomputable abbrev sp(w p:Nat):Int×Int:=((w:Int),(p:Int))
def pk(p:Int×Int):DK:=.inr (kP p)
noncomputable abbrev dic(ks:List (Int×Int))(vs:List D):D:=.nd (.dic 1 (ks.map pk)) vs
theorem yX(h:pk p=pk q):p=q:=by
 unfold pk at h;injection h with h;injection h with h1 h2;injection h2 with h2 _;injection h1 with h1;injection h1 with h1;injection h2 with h2;injection h2 with h2;show Prod.ext h1 h2
theorem p5{p:Int×Int}:∀{ks:List (Int×Int)} {n:Nat},ks.Nodup->ks[n]?=PB p->aR (ks.map pk) (pk p)=PB n
 |[],n,_,h=>by simp at h
 |q::ks,0,_,h=>by
  simp at h;subst h;unfold aR;rw[MQ,Ng,if_pos (by simp)]
 |q::ks,n+1,nd,h=>by
  let h:ks[n]?=PB p:=by simpa using h
  let a:¬pk q=pk p:=λe=>(MW.mp nd).1 (yX e▸MH h);have:=p5 (MW.mp nd).2 h;unfold aR at this⊢;rw[MQ,Ng,if_neg (by simpa using a),this];rfl
theorem iF:∀{ks:List (Int×Int)},(aR (ks.map pk) (pk p)).isSome=decide (p∈ks)
 |[]=>by simp[aR]
 |q::ks=>by
  have:=iF (p:=p) (ks:=ks);unfold aR at this⊢;rw[MQ,Ng];by_cases e:pk q=pk p
  ·rw[if_pos (by simpa using e),yX e];simp
  ·let e2:¬p=q:=λz=>e (by rw[z]);rw[if_neg (by simpa using e),Oi,this];simp[e2]
theorem p6{ks:List (Int×Int)}(h:p∉ks):aR (ks.map pk) (pk p)=PC:=by
 have:=iF (p:=p) (ks:=ks);rw[decide_eq_false h] at this;simpa using this
section
variable {U:Nat->Option Fn} {Z:Ro} {a b c:IE} {r:ge} {k k' k'':Kd} {i j l:Int} {x y z:Bool} {d d':D} {xs vs:List D} {hd:Hd} {p:Int×Int} {ks:List (Int×Int)}
theorem gC{n:Nat}(h:aa U a Z=PB (k,dic ks vs))(c:aa U b Z=PB (k',pD p))(e:ks.Nodup)(f:ks[n]?=PB p)(g:vs[n]?=PB d):aa U (.ix a b) Z=PB (o5 k n,d):=by
 rw[xG,h,c];change qW k (1,ks.map pk,vs) (pD p)=_;unfold qW;rw[show iV (pD p)=PB (pk p) from rfl]
 change(if g8 1 (pk p)=PD then(match aR (ks.map pk) (pk p) with|some j=>(vs[j]?).map λd=>(o5 k j,d)|none=>PC) else PC)=_
 rw[if_pos (by rfl),p5 e f];change(vs[n]?).map _=_;rw[g];rfl
theorem LB(p:Int×Int)(ks:List (Int×Int))(vs:List D):cY .In (pD p) (dic ks vs)=PB (decide (p∈ks)):=by
 change(if g8 1 (pk p)=PD then PB (aR (ks.map pk) (pk p)).isSome else PC)=_
 rw[if_pos (by rfl),iF]
theorem IU(p:Int×Int)(ks:List (Int×Int))(vs:List D):cY .NotIn (pD p) (dic ks vs)=PB (!decide (p∈ks)):=by
 change(if g8 1 (pk p)=PD then PB (!(aR (ks.map pk) (pk p)).isSome) else PC)=_
 rw[if_pos (by rfl),iF]
theorem lR(d:aa U a Z=PB (k,pD p))(c:aa U b Z=PB (k',dic ks vs)):aO U (.cmp .In a b) Z=PB (decide (p∈ks)):=bR d c (LB p ks vs)
theorem uB(d:aa U a Z=PB (k,pD p))(c:aa U b Z=PB (k',dic ks vs)):aO U (.cmp .NotIn a b) Z=PB (!decide (p∈ks)):=bR d c (IU p ks vs)
theorem mO{n:Nat}(e:aa U a Z=PB (k,.obj cn ns xs))(b:a8 f ns=PB n)(c:xs[n]?=PB d):aa U (.fld f a) Z=PB (o5 k n,d):=by
 rw[AQ,e]
 change(match a8 f ns with|some j=>(xs[j]?).map λd=>(o5 k j,d)|none=>PC)=_
 rw[b];change(xs[n]?).map _=_;rw[c];rfl
end
theorem uC{ks:List (Int×Int)}{vs:List D}{p:Int×Int}{x:KD}(c:p∉ks)(b:vs.length<100000)(a:bM .fz x=PD):nP [] .fz (.dic 1 (ks.map pk)) vs (pD p) x=PB (.dic 1 ((ks++[p]).map pk),vs++[x.2]):=by
 change(if g8 1 (pk p)=PD/\vs.length<100000 then(match aR (ks.map pk) (pk p) with|some j=>if bM (([]:List Ow).getD j .fz) x=PD/\(ks.map pk).Nodup/\j<vs.length then PB (Hd.dic 1 (ks.map pk),vs.set j x.2) else PC|none=>if([]:List Ow).length<=vs.length/\bM .fz x=PD then PB (Hd.dic 1 (ks.map pk++[pk p]),vs++[x.2]) else PC) else PC)=_
 rw[if_pos ⟨rfl,b⟩,p6 c]
 change(if([]:List Ow).length<=vs.length/\bM .fz x=PD then PB (Hd.dic 1 (ks.map pk++[pk p]),vs++[x.2]) else PC)=_
 rw[if_pos ⟨M3 _,a⟩,MU];rfl
section
variable {U:GG} {N:Nat} {pn:List Nat} {Z:Ro} {Q:Res->Prop} {rest:bB}
theorem yY{i:Nat}{ks:List (Int×Int)}{vs:List D}{p:Int×Int}{x y:KD}(a:Z[i]?=PB (PB ⟨PF,k0,dic ks vs⟩))(b:aa U.fn e Z=PB x)(hk:aa U.fn kx Z=PB y)(c:y.2=pD p)(g:p∉ks)(d:vs.length<100000)(f:bM .fz (dJ x.1 x.2,x.2)=PD)(w:Wp (aq U N rest pn (Z.set i (PB ⟨PF,k0,dic (ks++[p]) (vs++[x.2])⟩))) Q):Wp (aq U N (.cons (.put (.nm i) kx (.p e)) rest) pn Z) Q:=by
 show pP (ce (wv b (yI (r:=(k0,dic ks vs,id)) ?_ (wv hk (lq rfl rfl a (lr (r:=(.dic 1 ((ks++[p]).map pk),vs++[x.2])) ?_ w))))))
 ·change gA Z[i]?=_;rw[a];rfl
 ·rw[c];show uC g d f
end
structure Ci where
 ins:Nat
 mems:List (Bool×Nat)
 gates:List (Nat×List Nat)
 outs:List Nat
noncomputable abbrev bD(b:Bool):D:=.int (b.toNat:Int)
def bu(m:Bool×Nat):D:=.tup [bD m.1,iD m.2]
def aC(g:Nat×List Nat):D:=.tup [iD g.1,.tup (g.2.map iD)]
def cD(c:Ci):D:=.tup [iD c.ins,.lst (c.mems.map bu),.lst (c.gates.map aC),.lst (c.outs.map iD)]
noncomputable def Ci.f(c:Ci):Nat:=c.ins+c.mems.length
def Ci.n(c:Ci):Nat:=c.f+c.gates.length
structure Ok(c:Ci):Prop where
 g:∀(k:Nat) g,c.gates[k]?=PB g->g.2.length<=3/\∀p∈g.2,p<c.f+k
 m:∀m∈c.mems,m.2<c.n
 o:∀o∈c.outs,o<c.n
 bi:c.ins<=10
 bm:c.mems.length<=10
 bg:c.gates.length<=20
 bo:c.outs.length<=10
theorem Ok.bn{c:Ci}(h:Ok c):c.n<=40:=by
 have:=h.bi;have:=h.bm;have:=h.bg;unfold Ci.n Ci.f
 lia
theorem CN{p q:Prop}[Decidable p][Decidable q](h:p↔q):((Kd.sh,D.bl (decide p)):KD)=(.sh,.bl (decide q)):=by rw[decide_eq_decide.mpr h]
theorem p7(i:Int):ψ0 [.int i]=PB (.sh,.bl PD):=by
 unfold ψ0;show eZ rfl ?_;unfold b0;show cc (dB (x:=PD) (uA (d:=.int i) (k:=.sh) rfl rfl) λ_=>iB (IM (uA (d:=.int i) (k:=.sh) rfl rfl) rfl)) rfl (fF rfl rfl)
theorem iG(a b:Nat):ψ1 [iD a,iD b]=PB (.sh,.bl (decide (a<b))):=by
 unfold ψ1;show eZ rfl ?_;unfold b1;show cc (x:=(.sh,.bl (PD&&(decide ((0:Int)<=a)&&decide ((a:Int)<b))))) (dB (x:=PD) (bC (B:=ψ0) (ds:=[iD a]) rfl (e1 (p:=(.sh,iD a)) rfl) rfl rfl (p7 _) rfl) λ_=>iB (Bv (k:=.sh) (k':=.sh) (k'':=.sh) rfl rfl rfl)) rfl (fF rfl ?_);rw[Oo,decide_eq_true (show(0:Int)<=a by lia),Oo];show CN Int.ofNat_lt
theorem lz(ds:List D)(n:Nat):ψ4 [.tup ds,iD n]=PB (.sh,.bl (decide (ds.length=n))):=by
 unfold ψ4;show eZ rfl ?_;unfold b4;show cc (x:=(.sh,.bl (PD&&decide ((ds.length:Int)=n)))) (dB (x:=PD) (uA (d:=.tup ds) (k:=.sh) rfl rfl) λ_=>iB (eW (p4 (k:=.sh) (k':=.sh) (mI (k:=.sh) (d:=.tup ds) (n:=ds.length) rfl rfl) rfl))) rfl (fF rfl ?_);rw[Oo];show CN Oy
theorem mP(c:Ci):ψ5 [cD c]=PB (.sh,iD c.n):=by
 unfold ψ5;show eZ rfl ?_;unfold b5;let a:∀(n:Nat) d,[iD c.ins,D.lst (c.mems.map bu),.lst (c.gates.map aC),.lst (c.outs.map iD)][n]?=PB d->aa U_4.fn (.ix (.var 0) (.lit (.int (n:Int)))) [fS (cD c)]=PB (.sh,d):=λn d h=>bK (k:=.sh) (k':=.sh) (n:=n) rfl rfl (.inr rfl) rfl h;show cc (bt (k:=.sh) (k':=.sh) (bt (k:=.sh) (k':=.sh) (a 0 _ rfl) (mI (n:=c.mems.length) (a 1 _ rfl) (by change PB _=_;rw[My]))) (mI (n:=c.gates.length) (a 2 _ rfl) (by change PB _=_;rw[My]))) rfl (fF rfl ?_);unfold Ci.n Ci.f;change(Kd.sh,D.int _)=(Kd.sh,D.int _);rfl
theorem uD{w p a b c:Nat}(e:w<2)(h:p < [a,b].getD w 0):ψ9 [pD (sp w p),.lst [iD a,iD b,iD c]]=PB (.sh,.bl PD):=by
 unfold ψ9;show eZ rfl ?_;unfold b9;let d:aa U_8.fn (.ix (.var 0) (.lit (.int 0))) [fS (pD (sp w p)),fS (.lst [iD a,iD b,iD c])]=PB (.sh,iD w):=bK (k:=.sh) (k':=.sh) (n:=0) (hd:=.tup) (xs:=[iD w,iD p]) rfl rfl (.inr rfl) rfl rfl;let f:aa U_8.fn (.ix (.var 0) (.lit (.int 1))) [fS (pD (sp w p)),fS (.lst [iD a,iD b,iD c])]=PB (.sh,iD p):=bK (k:=.sh) (k':=.sh) (n:=1) (hd:=.tup) (xs:=[iD w,iD p]) rfl rfl (.inr rfl) rfl rfl
 let g:aa U_8.fn (.ix (.var 1) (.ix (.var 0) (.lit (.int 0)))) [fS (pD (sp w p)),fS (.lst [iD a,iD b,iD c])]=PB (.sh,iD ([a,b].getD w 0)):=bK (k:=.sh) (k':=.sh) (n:=w) (hd:=.lst) (xs:=[iD a,iD b,iD c]) rfl d (.inl rfl) rfl (by
  match w,e with
  |0,_=>rfl
  |1,_=>rfl)
 show cc (x:=(.sh,.bl (PD&&(PD&&PD)))) (dB (x:=PD) (bC (B:=ψ4) (ds:=[pD (sp w p),iD 2]) rfl (e2 (p:=(.sh,pD (sp w p))) (q:=(.sh,iD 2)) rfl rfl) rfl rfl (lz [iD w,iD p] 2) rfl) λ_=>dB (x:=PD) (bC (B:=ψ1) (p:=(.sh,.bl PD)) (ds:=[iD w,iD 3]) rfl (e2 d (q:=(.sh,iD 3)) rfl) rfl rfl ?_ rfl) λ_=>iB (bC (B:=ψ1) (p:=(.sh,.bl PD)) (ds:=[iD p,iD ([a,b].getD w 0)]) rfl (e2 f g) rfl rfl ?_ rfl)) rfl (fF rfl rfl)
 ·rw[iG,decide_eq_true (by lia)]
 ·rw[iG,decide_eq_true h]
theorem n8(a b:Nat):Builtin.bitAnd (a:Int) b=((a &&& b:Nat):Int):=by
 rw[PyProof.Rows.bitAnd_pp (by lia) (by lia)];rfl
theorem Bw:∀a b:Nat,a+b=(a ^^^ b)+2*(a &&& b):=by
 intro a
 induction a using Nat.strongRecOn with
 |ind a c=>
  intro b;by_cases d:a=0
  ·subst d;simp
  have:=c (a / 2) (by lia) (b / 2);rw[<- Nat.xor_div_two,<- Nat.and_div_two] at this;let e:(a &&& b)%2=1↔a%2=1/\b%2=1:=Nat.and_mod_two_eq_one;let f:(a ^^^ b)%2=1↔¬(a%2=1↔b%2=1):=Nat.xor_mod_two_eq_one
  lia
theorem Bx(a b:Nat):Builtin.bitXor (a:Int) b=((a ^^^ b:Nat):Int):=by
 rw[PyProof.Rows.bitXor_and,n8];have:=Bw a b
 lia
theorem By(a i:Nat):Builtin.bitAnd ((a:Int) / 2^i) 1=((a.testBit i).toNat:Int):=by
 rw[PyProof.Rows.bitAnd_m1,Nat.testBit_eq_decide_div_mod_eq];have:(a:Int) / 2^i=((a / 2^i:Nat):Int):=by simp
 rw[this];rcases Ob (a / 2^i) with h|h
 ·rw[decide_eq_false (by lia)];change _=((0:Nat):Int);lia
 ·rw[decide_eq_true h];change _=((1:Nat):Int);lia
noncomputable abbrev W(n:Nat):Nat:=2^2^n-1
theorem Mq{α:Type}{a:Option α}{r:α}{Q:α->Prop}(h:Wp a λx=>x=r)(q:Q r):Wp a Q:=h.mono λx e=>by subst e;show q
section
variable {U:Nat->Option Fn} {Z:Ro} {Q:KD->Prop} {k k':Kd}
theorem lA(q:Q (.sh,iD (a ^^^ b))):Wp (ed .BitXor (k,iD a) (k',iD b)) Q:=⟨(.sh,.int (Builtin.bitXor a b)),rfl,by rw[Bx];show q⟩
theorem yZ(q:Q (.sh,iD (a &&& b))):Wp (ed .BitAnd (k,iD a) (k',iD b)) Q:=⟨(.sh,.int (Builtin.bitAnd a b)),rfl,by rw[n8];show q⟩
theorem Fs{x i:Nat}(h:Wp (aa U a Z) λy=>y.2=iD x)(c:Wp (aa U b Z) λy=>y.2=iD i)(q:Q (.sh,bD (x.testBit i))):Wp (aa U (.bin .BitAnd (.bin .RShift a b) (.lit (.int 1))) Z) Q:=by
 show bb (bb (h.mono λy f=>c.mono λz g=>?_));obtain⟨j,d⟩:=y;obtain⟨k,e⟩:=z;cases(show d=_ from f);cases(show e=_ from g);show ES (by lia) (ba ⟨(.sh,.int (Builtin.bitAnd ((x:Int) / 2^((i:Int)).toNat) 1)),rfl,?_⟩);rw[show((i:Int)).toNat=i from NA i,By];show q
end
theorem Bz(a:Nat){w:Nat}(b:w<=1000):ψ2 [iD a,iD w]=PB (.fr k0,.lst ((Na w).map λk=>bD (a.testBit k))):=by
 unfold ψ2;show eZ rfl ?_;unfold b2;show cc (IQ (k:=.sh) (n:=w) (g:=λk=>bD (a.testBit k)) rfl (by lia) λi c=>v3 rfl (Fs (x:=a) (i:=i) (aJ rfl rfl) (aJ rfl rfl) ⟨_,rfl,rfl⟩)) rfl (fF rfl rfl)
theorem js{n:Nat}(c:n<=8):ψ6 [iD n]=PB (.sh,iD (W n)):=by
 unfold ψ6;show aD (nZ rfl ?_);unfold b6;let a:(1:Int)*2^((n:Int)).toNat=((2^n:Nat):Int):=by rw[NA];simp
 let d:2^n<=256:=NT (n:=2) (by decide) c;let b:0<=(1:Int)*2^((n:Int)).toNat/\(1:Int)*2^((n:Int)).toNat<=1000000:=by rw[a];clear a;generalize 2^n=p at d;lia
 show cR (ce (bb (bb (ba (bb (ba (aJ rfl (rT ⟨by lia,by lia,by decide⟩ (rT ⟨b.1,b.2,by decide⟩ (ba (rS ⟨rfl,eD rfl ?_⟩)))))))))));rw[a,NA];have:0<2^2^n:=OZ _;change(Kd.sh,D.int _)=(Kd.sh,D.int _);congr 2;rw[Int.one_mul,show((2:Int)^2^n)=((2^2^n:Nat):Int) by simp,Int.ofNat_sub (by lia)];rfl
noncomputable def combos:List (Nat×Nat):=((Na 9).map λn=>(Na n).map λk=>(k,n)).flatten
theorem v4:∀n,n<=8->∀k,k<n->(k,n)∈combos:=by nofun
def gN(k n:Nat):Nat:=match ψ7 [iD k,iD n] with|some (_,.int z)=>z.toNat|_=>0
def CP(p:Nat×Nat):Bool:=match ψ7 [iD p.1,iD p.2] with|some (.sh,.int z)=>decide (0<=z)|_=>PF
theorem y3:combos.all CP=PD:=by kernel_rfl
theorem v5{k n:Nat}(a:n<=8)(hk:k<n):ψ7 [iD k,iD n]=PB (.sh,iD (gN k n)):=by
 let h:=NI.mp y3 _ (v4 n a k hk);unfold CP at h;unfold gN;dsimp only at h;split at h
 ·ext z e;rw[e];have:=of_decide_eq_true h;change PB (Kd.sh,D.int z)=PB (Kd.sh,D.int _);rw[Int.toNat_of_nonneg this]
 ·cases h
theorem IV:G.jB 2 PC (PB 2)=[0]/\G.jB 2 (PB 1) (PB 2)=[1]:=by nofun
theorem IW:G.jB 4 PC (PB 2)=[0,2]/\G.jB 4 (PB 1) (PB 2)=[1,3]:=by nofun
theorem IX:G.jB 8 PC (PB 2)=[0,2,4,6]/\G.jB 8 (PB 1) (PB 2)=[1,3,5,7]:=by nofun
theorem CQ{Q:KD->Prop}(h:dF k xs=PD/\1<=z)(q:Q (.fr bQ,.lst (G.cw xs l (PB z)))):Wp (xv (PB (k,.nd .lst xs)) (PB l) (PB (k',.int z))) Q:=⟨_,if_pos h,q⟩
theorem y4:∀{L:List Nat} {m:Nat},m<=2->L.length=2^(m+1)->q8 (PB (.fr bQ,.lst (G.cw (L.map iD) PC (PB 2)))) (PB (.fr bQ,.lst (G.cw (L.map iD) (PB 1) (PB 2))))=PB ([],(Na (2^m)).map λj=>D.tup [iD (L.getD (2*j) 0),iD (L.getD (2*j+1) 0)]):=by
 intro L m k i
 match m,k with
 |0,_=>
  match L,i with
  |[a,b],_=>
   unfold G.cw;rw[show(Oq iD [a,b]).length=2 from rfl,IV.1,IV.2];rfl
 |1,_=>
  match L,i with
  |[a,b,c,d],_=>
   unfold G.cw;rw[show(Oq iD [a,b,c,d]).length=4 from rfl,IW.1,IW.2];rfl
 |2,_=>
  match L,i with
  |[a,b,c,d,e,f,g,h],_=>
   unfold G.cw;rw[show(Oq iD [a,b,c,d,e,f,g,h]).length=8 from rfl,IX.1,IX.2];rfl
theorem IY{n:Nat}(a:n<=8):((W n:Nat):Int).natAbs<lim:=by
 have:2^n<=256:=NT (n:=2) (by decide) a;have:W n<2^256:=MG (Nat.sub_lt (OZ _) (by decide)) (NT (by decide) this);rw[Pi];show Og this (by unfold lim;decide)
theorem BA(t:Nat){n:Nat}{xs:List Nat}(A:n<=8)(C:xs.length<=3):∃y:Nat,ψ8 [iD t,.lst (xs.map iD),iD (W n)]=PB (.sh,iD y):=by
 suffices h:Wp (ψ8 [iD t,.lst (xs.map iD),iD (W n)]) λr=>∃y:Nat,r=(.sh,iD y) by
  obtain⟨r,e,y,rfl⟩:=h;show⟨y,e⟩
 unfold ψ8;show nZ rfl ?_;unfold b8;let H:2^xs.length<=8:=NT (n:=2) (by decide) C
 let F:aa U_7.fn (.bin .LShift (.lit (.int 1)) (.blt "len" (.cons (.var 1) .nil))) [fS (iD t),fS (.lst (xs.map iD)),fS (iD (W n)),PC,PC]=PB (.sh,iD (2^xs.length)):=by
  have:=aD (bb (ba (wv (mI (U:=U_7.fn) (a:=.var 1) (Z:=[fS (iD t),fS (.lst (xs.map iD)),fS (iD (W n)),PC,PC]) (k:=.sh) (d:=.lst (xs.map iD)) (n:=xs.length) rfl (by change PB _=_;rw[My])) (rT (i:=1) (j:=(xs.length:Int)) (k:=.sh) (k':=.sh) ⟨by lia,by lia,by decide⟩ rfl))));rw[this];change PB (Kd.sh,D.int _)=PB (Kd.sh,D.int _);rw[NA];simp
 show au (iC (l:=Na (2^xs.length)) (f:=λj=>bD (t.testBit j)) (g:=λj=>iD (W n*(t.testBit j).toNat)) (.inl rfl) (bC (B:=ψ2) (ds:=[iD t,iD (2^xs.length)]) rfl (e2 (p:=(.sh,iD t)) rfl F) rfl rfl (Bz t (by lia)) rfl) rfl (by simp;lia) λj _=>v3 rfl (bb (aJ rfl (aJ rfl (yD ⟨IY A,?_⟩ ⟨.sh,?_,rfl⟩))))) rfl (by decide) ?_
 ·cases t.testBit j<;>decide
 ·change PB (Kd.sh,D.int _)=PB (Kd.sh,D.int _);rw[Int.natCast_mul]
 change Wp (aq _ _ _ _ [fS (iD t),fS (.lst (xs.map iD)),fS (iD (W n)),aW (.lst ((Na (2^xs.length)).map λj=>iD (W n*(t.testBit j).toNat))),PC]) _;show cU (cb (gh (aJ rfl (dw rfl ⟨λs Z=>s<=xs.length/\∃L o,Z=[fS (iD t),fS (.lst (xs.map iD)),fS (iD (W n)),aW (.lst (L.map iD)),o]/\L.length=2^(xs.length-s),⟨M3 _,(Na (2^xs.length)).map (λj=>W n*(t.testBit j).toNat),PC,?_,by simp⟩,λs d Z hd q=>?_,λZ q=>?_⟩))))
 ·rw[MV];rfl
 ·obtain⟨w,L,o,rfl,b⟩:=q;let hd:(xs.map iD)[s]?=PB d:=hd;rw[MA] at hd
  cases e:xs[s]? with
  |none=>rw[e] at hd;cases hd
  |some x=>
   rw[e] at hd;cases hd;let u:=(Mv.mp e).1;obtain⟨m,E⟩:∃m,xs.length-s=m+1:=⟨xs.length-s-1,by lia⟩;rw[E] at b;show⟨[(4,iD x)],rfl,rfl,?_⟩;change Wp (aq _ _ _ [] [fS (iD t),fS (.lst (xs.map iD)),fS (iD (W n)),aW (.lst (L.map iD)),fS (iD x)]) _;let v:=y4 (L:=L) (m:=m) (by lia) b;show eC (ce (dL (ue (yA (aJ rfl (jp (ba (CQ ⟨rfl,by decide⟩ (yA (aJ rfl (lj (ba ⟨1,rfl,ba (CQ ⟨rfl,by decide⟩ ⟨_,v,?_⟩)⟩))))))))))));let z:2^m<=8:=NT (n:=2) (by decide) (show m<=3 by lia);show⟨by simp;lia,Mq (ly (g:=λj=>iD (L.getD (2*j) 0 ^^^ ((L.getD (2*j) 0 ^^^ L.getD (2*j+1) 0) &&& x))) λj _=>CK rfl (bb (aJ rfl (bb (bb (aJ rfl (aJ rfl (lA (aJ rfl (yZ (lA ⟨_,rfl,rfl⟩))))))))))) ⟨⟨rfl,by decide⟩,a7 ⟨_,.inl rfl,by lia,(Na (2^m)).map (λj=>L.getD (2*j) 0 ^^^ ((L.getD (2*j) 0 ^^^ L.getD (2*j+1) 0) &&& x)),PB ⟨PF,.fz,iD x⟩,?_,?_⟩⟩⟩
   ·rw[MV];rfl
   ·rw[show xs.length-(s+1)=m by lia];simp
 ·obtain⟨w,L,o,rfl,b⟩:=q;let c:(xs.map iD).length=xs.length:=My _;let b:L.length=2^(xs.length-(xs.map iD).length):=b;rw[c,OT] at b
  match L,b with
  |[y],_=>show cc (bK (k:=.bo 3 k0) (k':=.sh) (n:=0) (hd:=.lst) (xs:=[iD y]) rfl rfl (.inl rfl) rfl rfl) rfl (eD rfl ⟨y,rfl⟩)
section
variable {U:Nat->Option Fn} {Z:Ro} {a b c:IE} {r:ge} {k k' k'':Kd} {d d':D} {hd:Hd}
theorem n9{α:Type}(l:List α)(f:α->D):(l.map f).mapIdx (λi d=>D.tup [.int i,d])=l.zipIdx.map λp=>D.tup [iD p.2,f p.1]:=by
 rw[List.mapIdx_eq_zipIdx_map,List.zipIdx_map,MV];rfl
theorem sd{ds:List D}{P:List Nat×List D->Prop}(h:dF k ds=PD)(q:P (q0 k,ds.mapIdx λi d=>D.tup [.int i,d])):Wp (vA (PB (k,.nd .lst ds))) P:=⟨(q0 k,ds.mapIdx λi d=>D.tup [.int i,d]),by unfold vA;rw[show hR (PB (k,.nd .lst ds))=PB (q0 k,ds) from if_pos h];rfl,q⟩
theorem Fu{α:Type}{l:List α}{f:α->D}{g:α×Nat->D}{r:Ow}{cap:List (Option Nat)}{tg:IT}{a elt:IE}(j:aa U a Z=PB (k,.lst (l.map f)))(m:dF k (l.map f)=PD)(d:l.length<=100000)
  (h:∀(i:Nat) a,l[i]?=PB a->Wp (dS tg (di U .non) (aa U elt) (aQ Z cap) (.tup [iD i,f a])) λo=>∃b,o=PB (b,g (a,i))/\bM r (b,g (a,i))=PD):aa U (.comp r cap tg (.enm a) .non elt) Z=PB (.fr (.own [] r),.lst (l.zipIdx.map g)):=by
 show aD (dL (nV (wv j (sd m ⟨by simpa using d,?_⟩))));rw[n9];show(ly (g:=g) λp c=>?_).mono λn e=>by rw[e]
 show h p.2 p.1 (N6.mp c)
theorem p8{α:Type}(l:List α):(l.map λ_=>D.bl PD)=((l.map λ_=>PD).map D.bl):=by rw[MV];rfl
theorem y6{α:Type}(l:List α):(l.map λ_=>PD).all id=PD:=by simp
theorem fG{α:Type}{l:List α}{f:α->D}(m:hd=.lst\/hd=.tup)(c:aa U a Z=PB (k,.nd hd (l.map f)))(n:dF k (l.map f)=PD)(j:l.length<=100000)(b:∀d,bX [(1,d)] (aQ Z cap)=PD)(h:∀a∈l,aa U elt (setAll [(1,f a)] (aQ Z cap))=PB (.sh,.bl PD)):aa U (.blt "all" (.cons (.comp .fz cap (.nm 1) (.e a) .non elt) .nil)) Z=PB (.sh,.bl PD):=by
 have:=iC (r:=.fz) (tg:=.nm 1) (elt:=elt) (cap:=cap) (g:=λ_=>D.bl PD) m c n j λx i=>v3 (b _) (wv (h x i) ⟨.sh,rfl,rfl⟩);rw[p8] at this;have:=CL this;rw[y6] at this;show this
theorem CS{α:Type}{l:List α}{f:α->D}{cap:List (Option Nat)}{a elt:IE}(c:aa U a Z=PB (k,.lst (l.map f)))(m:dF k (l.map f)=PD)(j:l.length<=100000)(b:∀d d',bX [(1,d),(2,d')] (aQ Z cap)=PD)
  (h:∀(i:Nat) a,l[i]?=PB a->aa U elt (setAll [(1,iD i),(2,f a)] (aQ Z cap))=PB (.sh,.bl PD)):aa U (.blt "all" (.cons (.comp .fz cap (.tp [.nm 1,.nm 2]) (.enm a) .non elt) .nil)) Z=PB (.sh,.bl PD):=by
 have:=Fu (r:=.fz) (tg:=.tp [.nm 1,.nm 2]) (elt:=elt) (cap:=cap) (g:=λ_=>D.bl PD) c m j λi x e=>CK (b _ _) (wv (h i x e) ⟨.sh,rfl,rfl⟩);rw[p8] at this;have:=CL this;rw[y6] at this;show this
theorem aX{α:Type}{l:List α}{f:α->D}(c:aa U a Z=PB (k,.nd hd (l.map f)))(b:hd=.lst\/hd=.tup):aa U (.blt "len" (.cons a .nil)) Z=PB (.sh,iD l.length):=
 mI c (by rcases b with rfl|rfl<;>show congrArg PB (My _))
theorem IZ(xs:List D)(lo hi:Option Int):F5 (PB (.sh,.tup xs)) (PB lo) (PB hi)=PB (.sh,.tup (f8 xs lo hi)):=by
 change(if dF Kd.sh xs=PD then PB (Kd.sh,D.tup (f8 xs lo hi)) else PC)=_
 show if_pos rfl
theorem uE{xs:List D}{n:Nat}(c:aa U a Z=PB (.sh,.tup xs))(b:n<=xs.length):aa U (.sl a .non (.som (.lit (.int (n:Int))))) Z=PB (.sh,.tup (xs.take n)):=by
 show aD (pM (wv c (jp (lj (ba ⟨(n:Int),rfl,⟨_,IZ xs PC (PB (n:Int)),?_⟩⟩)))));unfold f8;rw[HT.kj,HT.m3,O0 b,O5,Pf]
theorem eX{es:ge}{kds:List KD}{r:Ow}(a:aZ U es Z=PB kds)(b:o6 [] r kds=PD/\kds.length<=100000):aa U (.lst (.own [] r) es) Z=PB (.fr (.own [] r),.lst (kds.map (·.2))):=aD (rP (wv a (rV (if_pos b) rfl)))
theorem fH{kds:List KD}(a:aZ U es Z=PB kds)(b:(kds.all λp=>qR p.1 p.2)=PD/\kds.length<=100000):aa U (.tup .fz es) Z=PB (.sh,.tup (kds.map (·.2))):=aD (yz (wv a (dA (if_pos b) rfl)))
end
theorem dM{U:GG}{N:Nat}{pn:List Nat}{Z:Ro}{Q:Res->Prop}{rest:bB}{a:List Nat}{e:IE}{ds:List D}(h:aa U.fn e Z=PB (.sh,.tup ds))(b:a.length=ds.length/\(a.all λi=>!pn.contains i)=PD)(w:Wp (aq U N rest pn (rH a ds [] .fz Z)) Q):Wp (aq U N (.cons (.unp a (.p e)) rest) pn Z) Q:=
 E2 (ce (wv h ⟨ds,[],.fz,rfl,rfl,b,w⟩))
def v6(z:Bool)(a:Nat)(fr:List Nat):D:=.tup [pD (sp z.toNat a),pD (sp (!z).toNat a),.lst (fr.map iD),.lst (([]:List Nat).map iD)]
abbrev lS(a:Nat)(fr:List Nat):D:=v6 PF a fr
theorem y7{n m a:Nat}{z:Bool}{fr:List Nat}(g:a<n)(o:fr.length<=8)(i:∀p∈fr,p<m):Gk [v6 z a fr,.lst [iD n,iD n,iD 0],iD m]=PB (.sh,.bl PD):=by
 unfold Gk;show eZ rfl ?_;unfold K4;change Wp (aq _ _ _ [] [fS (v6 z a fr),fS (.lst [iD n,iD n,iD 0]),fS (iD m),PC,PC]) _;let c:∀(j:Nat) d,[pD (sp z.toNat a),pD (sp (!z).toNat a),.lst (fr.map iD),.lst (([]:List Nat).map iD)][j]?=PB d->aa U_12.fn (.ix (.var 0) (.lit (.int (j:Int)))) [fS (v6 z a fr),fS (.lst [iD n,iD n,iD 0]),fS (iD m),PC,PC]=PB (.sh,d):=λj d h=>bK (k:=.sh) (k':=.sh) (n:=j) rfl rfl (.inr rfl) rfl h
 show cV (z:=PF||(PF||false)) (x:=(.sh,.bl PF)) (n5 (eU (x:=PD) (vZ (k:=.sh) (bC (B:=ψ4) (p:=(.sh,.bl PD)) (ds:=[v6 z a fr,iD 4]) rfl (e2 (p:=(.sh,v6 z a fr)) (q:=(.sh,iD 4)) rfl rfl) rfl rfl (lz _ 4) rfl))) λ_=>n5 (eU (x:=PD) (vZ (k:=.sh) (bC (B:=ψ9) (p:=(.sh,.bl PD)) (ds:=[pD (sp z.toNat a),.lst [iD n,iD n,iD 0]]) rfl (e2 (c 0 _ rfl) (q:=(.sh,.lst [iD n,iD n,iD 0])) rfl) rfl rfl (uD (by cases z<;>decide) (by cases z<;>show g)) rfl))) λ_=>eV (eU (x:=PD) (vZ (k:=.sh) (bC (B:=ψ9) (p:=(.sh,.bl PD)) (ds:=[pD (sp (!z).toNat a),.lst [iD n,iD n,iD 0]]) rfl (e2 (c 1 _ rfl) (q:=(.sh,.lst [iD n,iD n,iD 0])) rfl) rfl rfl (uD (by cases z<;>decide) (by cases z<;>show g)) rfl)))) (λe=>by cases e) λ_=>?_
 show dM (ds:=[.lst (fr.map iD),.lst (([]:List Nat).map iD)]) (aD (pM (wv (show aa U_12.fn (.var 0) _=PB (.sh,v6 z a fr) from rfl) (lj (ba ⟨2,rfl,jp ⟨_,IZ _ (PB 2) PC,rfl⟩⟩))))) ⟨rfl,rfl⟩ ?_;change Wp (aq _ _ _ [] [fS (v6 z a fr),fS (.lst [iD n,iD n,iD 0]),fS (iD m),fS (.lst (fr.map iD)),fS (.lst (([]:List Nat).map iD))]) _;show cV (z:=PF||(PF||false)) (x:=(.sh,.bl PF)) (n5 (eU (x:=PD) (yW (d:=.lst (fr.map iD)) (k:=.sh) rfl rfl)) λ_=>n5 (eU (x:=PD) (yW (d:=.lst (([]:List Nat).map iD)) (k:=.sh) rfl rfl)) λ_=>eV ?_) (λe=>by cases e) λ_=>?_
 ·have:=Fo (U:=U_12.fn) (k:=.sh) (k':=.sh) (aX (U:=U_12.fn) (a:=.var 3) (Z:=[fS (v6 z a fr),fS (.lst [iD n,iD n,iD 0]),fS (iD m),fS (.lst (fr.map iD)),fS (.lst (([]:List Nat).map iD))]) (k:=.sh) (l:=fr) (f:=iD) rfl (.inl rfl)) (show aa U_12.fn (.lit (.int 8)) [fS (v6 z a fr),fS (.lst [iD n,iD n,iD 0]),fS (iD m),fS (.lst (fr.map iD)),fS (.lst (([]:List Nat).map iD))]=PB (.sh,.int 8) from rfl);rw[this,decide_eq_false (by lia)]
 show cc (x:=(.sh,.bl (PD&&PD))) (dB (x:=PD) (fG (l:=fr) (f:=iD) (k:=.sh) (.inl rfl) rfl rfl (by lia) (λ_=>rfl) λp b=>IN (x:=PD) (y:=PD) (bC (B:=ψ1) (p:=(.sh,.bl PD)) (ds:=[iD p,iD m]) rfl (e2 (p:=(.sh,iD p)) (q:=(.sh,iD m)) rfl rfl) rfl rfl ?_ rfl) λe=>by cases e) λ_=>iB (fG (l:=([]:List Nat)) (f:=iD) (k:=.sh) (.inl rfl) rfl rfl (by simp) (λ_=>rfl) λp b=>by cases b)) rfl (fF rfl rfl);rw[iG,decide_eq_true (i p b)]
abbrev dN:D:=.lst (([]:List Nat).map iD)
abbrev St:=Bool×Nat×List Nat
def ju(t:St):D:=v6 t.1 t.2.1 t.2.2
noncomputable def uF(c:Ci):List St:=c.mems.zipIdx.map λp=>(PF,c.ins+p.2,[p.1.2])
noncomputable def BB(ex:List Nat):List St:=(ex.map λp=>[(PF,p,[p]),(PD,p,[p])]).flatten
def oa(c:Ci)(ex:List Nat):List St:=(c.gates.zipIdx.map λp=>(PF,c.f+p.2,p.1.2))++BB ex
abbrev hD(c:Ci):D:=.lst ((uF c).map ju)
abbrev lD(c:Ci)(ex:List Nat):D:=.lst ((oa c ex).map ju)
abbrev nD(q:List Nat):D:=.lst (q.map iD)
def bO(c:Ci)(ex q:List Nat):D:=.tup [dN,hD c,lD c ex,nD q]
abbrev Ci.m(c:Ci)(ex:List Nat):Nat:=c.n+2*ex.length
structure LC(c:Ci)(ex en:List Nat):Prop where
 xl:ex.length<=10
 xb:∀p∈ex,p<c.n
 nl:en.length=c.outs.length
 nb:∀e∈en,e<c.m ex
theorem Mr{α:Type}{l:List α}{p:α×Nat}{i:Nat}(h:l.zipIdx[i]?=PB p):l[i]?=PB p.1/\p.2=i:=by
 rw[Oz] at h
 cases e:l[i]? with
 |none=>rw[e] at h;cases h
 |some a=>
  rw[e] at h;cases h;show⟨rfl,by simp⟩
theorem Fw{α:Type}{l:List α}{p:α×Nat}(h:p∈l.zipIdx):l[p.2]?=PB p.1:=N6.mp h
theorem y8(c:Ci):(uF c).length=c.mems.length:=by unfold uF;rw[My,Pj]
theorem Fx(ex:List Nat):(BB ex).length=2*ex.length:=by
 unfold BB
 induction ex with
 |nil=>rfl
 |cons p ex a=>rw[MQ,N2,MN,a];change 2+2*ex.length=2*(ex.length+1);lia
theorem sg(c:Ci)(ex:List Nat):(oa c ex).length=c.gates.length+2*ex.length:=by unfold oa;rw[MN,My,Pj,Fx]
theorem oe{c:Ci}(h:t∈uF c):∃k m,c.mems[k]?=PB m/\t=(PF,c.ins+k,[m.2]):=by
 obtain⟨p,a,rfl⟩:=Nd.mp h;show⟨p.2,p.1,Fw a,rfl⟩
theorem Fz{ex:List Nat}(h:t∈BB ex):∃z p,p∈ex/\t=(z,p,[p]):=by
 obtain⟨l,c,a⟩:=List.mem_flatten.mp h;obtain⟨p,b,rfl⟩:=Nd.mp c;simp only[MD,MS,or_false] at a;rcases a with rfl|rfl
 ·show⟨PF,p,b,rfl⟩
 ·show⟨PD,p,b,rfl⟩
theorem CT{c:Ci}{ex:List Nat}{i:Nat}(h:(oa c ex)[i]?=PB t):(∃g,c.gates[i]?=PB g/\t=(PF,c.f+i,g.2))\/(c.gates.length<=i/\∃z p,p∈ex/\t=(z,p,[p])):=by
 unfold oa at h;by_cases a:i<c.gates.length
 ·rw[MP (by simpa using a),MA,Oz,MF a] at h;cases h;show .inl ⟨_,MF a,by rw[Nat.zero_add]⟩
 ·rw[MZ (by simp;lia)] at h;show .inr ⟨by lia,Fz (MH h)⟩
theorem y9{c:Ci}{ex b:List Nat}(h:Ok c)(t:LC c ex b):Ir [cD c,cD c,bO c ex b]=PB (.sh,.bl PD):=by
 let L:=h.bn;let O:=h.bm;let S:=h.bg;let Q:=h.bo;let M:=t.xl;let C:=t.nl;let A:=y8 c;let E:=sg c ex;let I:c.f+(oa c ex).length=c.m ex:=by rw[E];unfold Ci.m Ci.n;lia
 let R:c.f+c.gates.length=c.n:=rfl;unfold Ir;show eZ rfl ?_;unfold K3;change Wp (aq _ _ _ [] [fS (cD c),fS (cD c),fS (bO c ex b),PC,PC,PC,PC,PC,PC,PC]) _;show cV (z:=PF||false) (x:=(.sh,.bl PF)) (n5 (eU (x:=PD) (vZ (k:=.sh) (bC (B:=ψ4) (p:=(.sh,.bl PD)) (ds:=[bO c ex b,iD 4]) rfl (e2 (p:=(.sh,bO c ex b)) (q:=(.sh,iD 4)) rfl rfl) rfl rfl (lz _ 4) rfl))) λ_=>eV (eU (x:=PD) (CJ (k:=.sh) (fG (l:=[dN,hD c,lD c ex,nD b]) (f:=id) (k:=.sh) (.inr rfl) rfl rfl (by simp) (λ_=>rfl) λd hd=>?_)))) (λe=>by cases e) λ_=>?_
 ·simp only[MD,MS,or_false] at hd
  rcases hd with rfl|rfl|rfl|rfl<;>show uA (k:=.sh) rfl rfl
 show dM (ds:=[dN,hD c,lD c ex,nD b]) rfl ⟨rfl,rfl⟩ ?_;change Wp (aq _ _ _ [] [fS (cD c),fS (cD c),fS (bO c ex b),fS dN,fS (hD c),fS (lD c ex),fS (nD b),PC,PC,PC]) _;show au (eX (kds:=[(.sh,iD c.n),(.sh,iD c.n),(.sh,iD 0)]) (e3 (bC (B:=ψ5) (ds:=[cD c]) rfl (e1 (p:=(.sh,cD c)) rfl) rfl rfl (mP c) rfl) (bC (B:=ψ5) (ds:=[cD c]) rfl (e1 (p:=(.sh,cD c)) rfl) rfl rfl (mP c) rfl) (aX (l:=([]:List Nat)) (f:=iD) (k:=.sh) rfl (.inl rfl))) ⟨rfl,by simp⟩) rfl (by decide) ?_;show au (x:=(.sh,iD c.f)) ((bt (k:=.sh) (k':=.sh) (i:=(c.ins:Int)) rfl (aX (l:=uF c) (f:=ju) (k:=.sh) rfl (.inl rfl))).trans (by rw[A];rfl)) rfl (by decide) ?_;show au (x:=(.sh,iD (c.m ex))) ((bt (k:=.sh) (k':=.sh) (i:=(c.f:Int)) rfl (aX (l:=oa c ex) (f:=ju) (k:=.sh) rfl (.inl rfl))).trans (by rw[<- I];rfl)) rfl (by decide) ?_;change Wp (aq _ _ _ [] [fS (cD c),fS (cD c),fS (bO c ex b),fS dN,fS (hD c),fS (lD c ex),fS (nD b),aW (.lst [iD c.n,iD c.n,iD 0]),fS (iD c.f),fS (iD (c.m ex))]) _;show cc (x:=(.sh,.bl (PD&&(PD&&(PD&&(PD&&PD)))))) (dB (x:=PD) (CS (l:=([]:List Nat)) (f:=iD) (k:=.sh) rfl rfl (by simp) (λ_ _=>rfl) λi a K=>by simp at K) λ_=>dB (x:=PD) (fG (l:=uF c) (f:=ju) (k:=.sh) (.inl rfl) rfl rfl (by lia) (λ_=>rfl) λp s=>?_) λ_=>dB (x:=PD) (CS (l:=oa c ex) (f:=ju) (k:=.sh) rfl rfl (by lia) (λ_ _=>rfl) λi p s=>?_) λ_=>dB (x:=PD) (eW ((p4 (aX (l:=b) (f:=iD) (k:=.sh) rfl (.inl rfl)) (aX (l:=c.outs) (f:=iD) (k:=.sh) (bK (k:=.sh) (k':=.sh) (n:=3) (hd:=.tup) (xs:=[iD c.ins,.lst (c.mems.map bu),.lst (c.gates.map aC),.lst (c.outs.map iD)]) rfl rfl (.inr rfl) rfl rfl) (.inl rfl))).trans (by rw[C,decide_eq_true rfl]))) λ_=>iB (fG (l:=b) (f:=iD) (k:=.sh) (.inl rfl) rfl rfl (by lia) (λ_=>rfl) λo D=>bC (B:=ψ1) (p:=(.sh,.bl PD)) (ds:=[iD o,iD (c.m ex)]) rfl (e2 (p:=(.sh,iD o)) (q:=(.sh,iD (c.m ex))) rfl rfl) rfl rfl (by rw[iG,decide_eq_true (t.nb o D)]) rfl)) rfl (fF rfl rfl)
 ·obtain⟨k,m,e,rfl⟩:=oe s;let P:=(Mv.mp e).1;let N:=h.m _ (MH e);show iA (B:=Gk) (p:=(.sh,.bl PD)) (ds:=[lS (c.ins+k) [m.2],.lst [iD c.n,iD c.n,iD 0],iD (c.m ex)]) rfl (e3 (p:=(.sh,lS (c.ins+k) [m.2])) (q:=(.bo 4 k0,.lst [iD c.n,iD c.n,iD 0])) (u:=(.sh,iD (c.m ex))) rfl rfl rfl) rfl rfl (y7 (by unfold Ci.n Ci.f;lia) (by simp) (λq w=>by rw[MY.mp w];lia)) rfl
 ·let F:=(Mv.mp s).1
  let v:p.2.1<c.n/\p.2.2.length<=8/\∀q∈p.2.2,q<c.f+i:=by
   rcases CT s with⟨g,y,rfl⟩|⟨F,z,q,w,rfl⟩
   ·have:=h.g i g y;have:=(Mv.mp y).1;show⟨by change c.f+i<_;lia,by change g.2.length<=8;lia,(h.g i g y).2⟩
   ·have:=t.xb q w;show⟨this,by simp,λr H=>by rw[MY.mp H];lia⟩
  show iA (B:=Gk) (p:=(.sh,.bl PD)) (ds:=[ju p,.lst [iD c.n,iD c.n,iD 0],iD (c.f+i)]) rfl (e3 (p:=(.sh,ju p)) (q:=(.bo 5 k0,.lst [iD c.n,iD c.n,iD 0])) (u:=(.sh,iD (c.f+i))) rfl rfl (bt (k:=.sh) (k':=.sh) (i:=(c.f:Int)) (j:=(i:Int)) rfl rfl)) rfl rfl (y7 v.1 v.2.1 v.2.2) rfl
section
variable {U:GG} {N:Nat} {pn:List Nat} {Z:Ro} {Q:Res->Prop} {rest:bB}
theorem uG{α:Type}{l:List α}{f:α->D}(m:aa U.fn a Z=PB (.sh,.lst (l.map f)))(I:Nat->Ro->Prop)(j:I 0 Z)(h:∀(i:Nat) x Z,l[i]?=PB x->I i Z->∃ps,pc tg (.tup [iD i,f x])=PB ps/\(ps.all λq=>!pn.contains q.1)=PD/\Wp (aq U N b pn (setAll ps (clrN fg Z))) λr=>∃Z',(r=.nx Z'\/r=.ct Z')/\I (i+1) Z')(k:∀Z,I l.length Z->Wp (aq U N rest pn (clrN fg Z)) Q):Wp (aq U N (.cons (.fo fg tg (.p (.enm a)) b) rest) pn Z) Q:=by
 show cU (cb (nV (wv m (sd rfl ⟨I,j,λi d Z c g=>?_,λZ g=>?_⟩))))
 ·rw[n9] at c;let c:(l.zipIdx.map λp=>D.tup [iD p.2,f p.1])[i]?=PB d:=c;rw[MA] at c
  cases e:l.zipIdx[i]? with
  |none=>rw[e] at c;cases c
  |some p=>
   rw[e] at c;cases c;obtain⟨e1,e2⟩:=Mr e;subst e2;rw[show pn++(q0 Kd.sh:List Nat)=pn from Nj pn];show h p.2 p.1 Z e1 g
 ·have:((l.map f).mapIdx λi d=>D.tup [.int i,d]).length=l.length:=by simp
  let g:I ((l.map f).mapIdx λi d=>D.tup [.int i,d]).length Z:=g;rw[this] at g;show k Z g
noncomputable abbrev kG:Ow:=.own [] (.own [] .fz)
noncomputable abbrev fl3:List Str:=["gates","begins","afters"]
abbrev lT(ds:List D):D:=.nd (.obj "Ground" fl3) ds
theorem si{n:Nat}{ks:List (Int×Int)}{vs ds:List D}{p:Int×Int}{x y:KD}(b:Z[0]?=PB (PB ⟨PF,kG,lT ds⟩))(a:a8 f fl3=PB n)(hd:ds[n]?=PB (dic ks vs))(c:aa U.fn e Z=PB x)(hk:aa U.fn kx Z=PB y)(h:y.2=pD p)(g:p∉ks)(i:vs.length<100000)(k:bM .fz (dJ x.1 x.2,x.2)=PD)(w:Wp (aq U N rest pn (Z.set 0 (PB ⟨PF,kG,lT (ds.set n (dic (ks++[p]) (vs++[x.2])))⟩))) Q):Wp (aq U N (.cons (.put (.fld (.nm 0) f) kx (.p e)) rest) pn Z) Q:=by
 show pP (ce (wv c (yI (r:=(k0,dic ks vs,λz=>lT (ds.set n z))) ?_ (wv hk (lq rfl rfl b (lr (r:=(.dic 1 ((ks++[p]).map pk),vs++[x.2])) ?_ w))))))
 ·change tO f (gA Z[0]?)=_;rw[b]
  change(match a8 f fl3 with|some j=>(match ds[j]? with|some d=>PB (([]:List Ow).getD j k0,d,λz=>id (D.nd (.obj "Ground" fl3) (ds.set j z)))|none=>PC)|none=>PC)=_
  rw[a]
  change(match ds[n]? with|some d=>PB (([]:List Ow).getD n k0,d,λz=>id (D.nd (.obj "Ground" fl3) (ds.set n z)))|none=>PC)=_
  rw[hd];rfl
 ·rw[h];show uC g i k
end
def gK(c:Ci)(w n:Nat):List (Int×Int):=(Na n).map λk=>sp w (c.f+k)
def mK(c:Ci)(w n:Nat):List (Int×Int):=(Na n).map λk=>sp w (c.ins+k)
def og(w:Nat)(g:Nat×List Nat):D:=.tup [iD g.1,.lst (g.2.map λp=>pD (sp w p))]
theorem BC(c:Ci)(w n:Nat):gK c w (n+1)=gK c w n++[sp w (c.f+n)]:=by unfold gK;rw[Pz,MU];rfl
theorem BD(c:Ci)(w n:Nat):mK c w (n+1)=mK c w n++[sp w (c.ins+n)]:=by unfold mK;rw[Pz,MU];rfl
theorem gK_mem{c:Ci}{w n:Nat}:p∈gK c w n↔∃k,k<n/\p=sp w (c.f+k):=by
 unfold gK;rw[Nd];show⟨λ⟨k,a,b⟩=>⟨k,NV.mp a,b.symm⟩,λ⟨k,a,b⟩=>⟨k,NV.mpr a,b.symm⟩⟩
theorem mK_mem{c:Ci}{w n:Nat}:p∈mK c w n↔∃k,k<n/\p=sp w (c.ins+k):=by
 unfold mK;rw[Nd];show⟨λ⟨k,a,b⟩=>⟨k,NV.mp a,b.symm⟩,λ⟨k,a,b⟩=>⟨k,NV.mpr a,b.symm⟩⟩
theorem bS{w a p b:Nat}(h:sp w p=sp a b):w=a/\p=b:=by
 let c:(w:Int)=a:=congrArg Prod.fst h;let d:(p:Int)=b:=congrArg Prod.snd h;show⟨by lia,by lia⟩
theorem lB{α:Type}{l:List α}{s:Nat}{a:α}(h:l[s]?=PB a):l.take (s+1)=l.take s++[a]:=by rw[Oj,h];rfl
theorem eS(d:aa U a Z=PB (.sh,.int i))(c:aa U b Z=PB (.sh,.int j)):aa U (.tup .fz (.cons a (.cons b .nil))) Z=PB (.sh,.tup [.int i,.int j]):=
 fH (kds:=[(.sh,.int i),(.sh,.int j)]) (e2 d c) ⟨rfl,by simp⟩
theorem za{c:Ci}(h:Ok c){w:Nat}{gk bk:List (Int×Int)}{gv bv av:List D}(fg:∀p,sp w p∉gk)(fb:∀p,sp w p∉bk)(I:gv.length<=1000)(H:bv.length<=1000)(E:av.length<=1000) :
  Bt [(kG,lT [dic gk gv,dic bk bv,dic bk av]),(.fz,iD w),(.fz,cD c)]=PB (.sh,.non,[PB (kG,lT [dic (gk++gK c w c.gates.length) (gv++c.gates.map (og w)),dic (bk++mK c w c.mems.length) (bv++c.mems.map λm=>bD m.1),dic (bk++mK c w c.mems.length) (av++c.mems.map λm=>pD (sp w m.2))]),PC,PC]):=by
 let K:=h.bm;let F:=h.bg;unfold Bt;show ox (Bl rfl ?_);unfold Lr;change Wp (aq _ _ _ [0] [PB ⟨PF,kG,lT [dic gk gv,dic bk bv,dic bk av]⟩,fS (iD w),fS (cD c),PC,PC,PC,PC,PC,PC,PC,PC,PC]) _;show dM (ds:=[iD c.ins,.lst (c.mems.map bu),.lst (c.gates.map aC),.lst (c.outs.map iD)]) rfl ⟨rfl,rfl⟩ ?_;show uG (l:=c.mems) (f:=bu) rfl (λs Z=>∃a t q,Z=[PB ⟨PF,kG,lT [dic gk gv,dic (bk++mK c w s) (bv++(c.mems.take s).map λm=>bD m.1),dic (bk++mK c w s) (av++(c.mems.take s).map λm=>pD (sp w m.2))]⟩,fS (iD w),fS (cD c),fS (iD c.ins),fS (.lst (c.mems.map bu)),fS (.lst (c.gates.map aC)),fS (.lst (c.outs.map iD)),a,t,q,PC,PC])
  ⟨PC,PC,PC,by simp[mK];rfl⟩ (λs m Z v d=>?_) λZ d=>?_
 ·obtain⟨a,t,q,rfl⟩:=d;let A:=(Mv.mp v).1;show⟨[(7,iD s),(8,bD m.1),(9,iD m.2)],rfl,rfl,?_⟩
  let o:sp w (c.ins+s)∉bk++mK c w s:=λz=>by
   rcases M5.mp z with z|z
   ·show fb _ z
   ·obtain⟨k,C,u⟩:=mK_mem.mp z;have:=(bS u).2
    lia
  show si (n:=1) (p:=sp w (c.ins+s)) (x:=(.sh,bD m.1)) (y:=(.sh,pD (sp w (c.ins+s)))) rfl rfl rfl rfl (eS rfl (bt (k:=.sh) (k':=.sh) (i:=(c.ins:Int)) (j:=(s:Int)) rfl rfl)) rfl o (by rw[MN,My,M8];lia) rfl ?_;show si (n:=2) (p:=sp w (c.ins+s)) (x:=(.sh,pD (sp w m.2))) (y:=(.sh,pD (sp w (c.ins+s)))) rfl rfl rfl (eS rfl rfl) (eS rfl (bt (k:=.sh) (k':=.sh) (i:=(c.ins:Int)) (j:=(s:Int)) rfl rfl)) rfl o (by rw[MN,My,M8];lia) rfl ?_;show a7 ⟨_,.inl rfl,fS (iD s),fS (bD m.1),fS (iD m.2),?_⟩;rw[BD,lB v,MU,MU,<- M7,<- M7,<- M7];rfl
 ·obtain⟨a,t,q,rfl⟩:=d;rw[Nx];show uG (l:=c.gates) (f:=aC) rfl (λs Z=>∃a b e,Z=[PB ⟨PF,kG,lT [dic (gk++gK c w s) (gv++(c.gates.take s).map (og w)),dic (bk++mK c w c.mems.length) (bv++c.mems.map λm=>bD m.1),dic (bk++mK c w c.mems.length) (av++c.mems.map λm=>pD (sp w m.2))]⟩,fS (iD w),fS (cD c),fS (iD c.ins),fS (.lst (c.mems.map bu)),fS (.lst (c.gates.map aC)),fS (.lst (c.outs.map iD)),a,PC,PC,b,e])
   ⟨a,PC,PC,by simp[gK];rfl⟩ (λs g Z r d=>?_) λZ d=>?_
  ·obtain⟨a,b,e,rfl⟩:=d;let A:=(Mv.mp r).1;let B:=(h.g s g r).1;show⟨[(7,iD s),(10,iD g.1),(11,.tup (g.2.map iD))],rfl,rfl,?_⟩
   let o:sp w (c.f+s)∉gk++gK c w s:=λz=>by
    rcases M5.mp z with z|z
    ·show fg _ z
    ·obtain⟨k,C,u⟩:=gK_mem.mp z;have:=(bS u).2
     lia
   show si (n:=0) (p:=sp w (c.f+s)) (x:=(.sh,og w g)) (y:=(.sh,pD (sp w (c.f+s)))) rfl rfl rfl (fH (kds:=[(.sh,iD g.1),(.fr k0,.lst (g.2.map λp=>pD (sp w p)))]) (e2 rfl (iC (k:=.sh) (f:=iD) (g:=λp=>pD (sp w p)) (.inr rfl) rfl rfl (by lia) λp _=>v3 rfl (wv (eS rfl rfl) ⟨.sh,rfl,rfl⟩))) ⟨rfl,by simp⟩) (eS rfl (bt (k:=.sh) (k':=.sh) (i:=(c.f:Int)) (j:=(s:Int)) ?_ rfl)) rfl o (by rw[MN,My,M8];lia) rfl ?_
   ·show bt (k:=.sh) (k':=.sh) (i:=(c.ins:Int)) (j:=(c.mems.length:Int)) rfl (aX (l:=c.mems) (f:=bu) (k:=.sh) rfl (.inl rfl))
   show a7 ⟨_,.inl rfl,fS (iD s),fS (iD g.1),fS (.tup (g.2.map iD)),?_⟩;rw[BC,lB r,MU,<- M7,<- M7];rfl
  ·obtain⟨a,b,e,rfl⟩:=d;rw[Nx];show a7 (Cw rfl)
def wl(c:Ci):List (Int×Int):=gK c 0 c.gates.length++gK c 1 c.gates.length
def oh(c:Ci):List (Int×Int):=mK c 0 c.mems.length++mK c 1 c.mems.length
def CU(c:Ci):List D:=c.gates.map (og 0)++c.gates.map (og 1)
def wm(c:Ci):List D:=(c.mems.map λm=>bD m.1)++c.mems.map λm=>bD m.1
def I0(c:Ci):List D:=(c.mems.map λm=>pD (sp 0 m.2))++c.mems.map λm=>pD (sp 1 m.2)
def bh(c:Ci):D:=lT [dic (wl c) (CU c),dic (oh c) (wm c),dic (oh c) (I0 c)]
abbrev mQ(c:Ci)(g:D):Ro:=[PB ⟨PF,kG,g⟩,fS (cD c),fS (cD c),fS dN,PC,PC]
theorem uH(e:j=1\/j=2)(b:Bt [(kG,lT ds),(.fz,.int i),(.fz,cD c)]=PB (.sh,.non,[PB (kG,g1),PC,PC])):pY i j (mQ c (lT ds))=PB (.nx (mQ c g1)):=by
 unfold pY
 let a:vW i j (mQ c (lT ds))=PB ([.val .sh (.int i),.val .sh (cD c)],mQ c (lT ds)):=by rcases e with rfl|rfl<;>rfl
 let e1:yO "Ground" "put_circuit" 0 Bt (vW i j) (mQ c (lT ds))=PB (.sh,.non,mQ c g1):=by
  change(if("Ground":Str)="Ground"/\fl3.contains "put_circuit" = PF then AV (PB Bt) (pv 0 (mQ c (lT ds))[0]? (vW i j (mQ c (lT ds)))) else PC)=_
  rw[if_pos ⟨rfl,by decide⟩,a]
  change(if(cJ [.ref 0,.val .sh (.int i),.val .sh (cD c)]).Nodup then _ else PC)=_
  rw[if_pos (by simp[cJ])]
  change(match Bt [(kG,lT ds),(.fz,.int i),(.fz,cD c)] with|some (kd,d,outs)=>if bE kd=PD\/outs.length≠([.ref 0,.val .sh (.int i),.val .sh (cD c)]:List RA).length then PC else PB (kd,d,cQ [.ref 0,.val .sh (.int i),.val .sh (cD c)] (outs.map Cb) (mQ c (lT ds)))|none=>PC)=_
  rw[b];rfl
 change vH (yO "Ground" "put_circuit" 0 Bt (vW i j) (mQ c (lT ds)))=_;rw[e1];rfl
theorem v7(h:Ok c):Iz [cD c,cD c,dN]=PB (.fr kG,bh c):=by
 let n:=h.bm;let o:=h.bg;let b:=za h (w:=0) (gk:=[]) (bk:=[]) (gv:=[]) (bv:=[]) (av:=[]) (λ_ h=>by cases h) (λ_ h=>by cases h) (by simp) (by simp) (by simp);rw[NN,NN,NN,NN,NN] at b
 let g:=za h (w:=1) (gk:=gK c 0 c.gates.length) (bk:=mK c 0 c.mems.length) (gv:=c.gates.map (og 0)) (bv:=c.mems.map λm=>bD m.1) (av:=c.mems.map λm=>pD (sp 0 m.2)) (λp h=>by
  obtain⟨k,_,a⟩:=gK_mem.mp h;have:=(bS a).1
  lia) (λp h=>by
  obtain⟨k,_,a⟩:=mK_mem.mp h;have:=(bS a).1
  lia) (by rw[My];lia) (by rw[My];lia) (by rw[My];lia)
 let s1:=uH (i:=0) (j:=1) (.inl rfl) b;let s2:=uH (i:=1) (j:=2) (.inr rfl) g;let s0:aq U_33 1000 (bq Gj 3) [0] (mQ c (.nd (.obj "Ground" []) []))=PB (.nx (mQ c (lT [dic [] [],dic [] [],dic [] []]))):=rfl
 let d:aq U_33 1000 (br Gj 5) [0] (mQ c (bh c))=PB (.nx (mQ c (bh c))):=by
  show ox (uG (l:=([]:List Nat)) (f:=iD) rfl (λ_ Z=>Z=mQ c (bh c)) rfl (λi x Z e=>by simp at e) λZ e=>?_);subst e;show a7 rfl
 let e:pZ (mQ c (.nd (.obj "Ground" []) []))=PB (.nx (mQ c (bh c))):=by
  unfold pZ;rw[s0];change cm (pY 0 1 (mQ c (lT [dic [] [],dic [] [],dic [] []]))) _=_;rw[s1];change cm (pY 1 2 (mQ c _)) _=_;rw[s2];show d
 unfold Iz yw
 change(match lw pZ 4 6 [0] [(kG,.nd (.obj "Ground" []) []),ua (cD c),ua (cD c),ua dN] with|some (.sh,.non,PB (k',d')::_)=>PB (Kd.fr k',d')|_=>PC)=_
 let e2:lw pZ 4 6 [0] [(kG,.nd (.obj "Ground" []) []),ua (cD c),ua (cD c),ua dN]=PB (.sh,.non,[PB (kG,bh c),PC,PC,PC]):=by
  unfold lw;rw[if_pos (by rfl)];change iu 4 [0] (pZ (mQ c (.nd (.obj "Ground" []) [])))=_;rw[e];rfl
 rw[e2]
theorem zb(c:Ci):(wl c).Nodup:=by
 let d:∀w,(gK c w c.gates.length).Nodup:=λw=>by
  unfold gK;show List.Pairwise.map _ (λa b f e=>f (by have:=(bS e).2;lia)) Pu
 show Om.mpr ⟨d 0,d 1,λa j b g e=>?_⟩;obtain⟨k,_,h⟩:=gK_mem.mp j;obtain⟨l,_,i⟩:=gK_mem.mp g;have:=(bS (h.symm.trans (e.trans i))).1
 lia
theorem oj(c:Ci):(oh c).Nodup:=by
 let d:∀w,(mK c w c.mems.length).Nodup:=λw=>by
  unfold mK;show List.Pairwise.map _ (λa b f e=>f (by have:=(bS e).2;lia)) Pu
 show Om.mpr ⟨d 0,d 1,λa j b g e=>?_⟩;obtain⟨k,_,h⟩:=mK_mem.mp j;obtain⟨l,_,i⟩:=mK_mem.mp g;have:=(bS (h.symm.trans (e.trans i))).1
 lia
theorem gKs_mem{c:Ci}{w p:Nat}:sp w p∈wl c↔w<2/\c.f<=p/\p<c.n:=by
 unfold wl;rw[M5,gK_mem,gK_mem];unfold Ci.n;constructor
 ·rintro (⟨k,b,a⟩|⟨k,b,a⟩)<;>(obtain⟨rfl,rfl⟩:=bS a;lia)
 ·rintro ⟨b,a,d⟩
  have:w=0\/w=1:=by lia
  rcases this with rfl|rfl
  ·show .inl ⟨p-c.f,by lia,by congr 2;lia⟩
  ·show .inr ⟨p-c.f,by lia,by congr 2;lia⟩
theorem mKs_mem{c:Ci}{w p:Nat}:sp w p∈oh c↔w<2/\c.ins<=p/\p<c.f:=by
 unfold oh;rw[M5,mK_mem,mK_mem];unfold Ci.f;constructor
 ·rintro (⟨k,b,a⟩|⟨k,b,a⟩)<;>(obtain⟨rfl,rfl⟩:=bS a;lia)
 ·rintro ⟨b,a,d⟩
  have:w=0\/w=1:=by lia
  rcases this with rfl|rfl
  ·show .inl ⟨p-c.ins,by lia,by congr 2;lia⟩
  ·show .inr ⟨p-c.ins,by lia,by congr 2;lia⟩
theorem L8{c:Ci}{w k:Nat}(h:w<2)(b:c.gates[k]?=PB g):∃n:Nat,(wl c)[n]?=PB (sp w (c.f+k))/\(CU c)[n]?=PB (og w g):=by
 let hk:=(Mv.mp b).1;let d:∀w,(gK c w c.gates.length)[k]?=PB (sp w (c.f+k)):=λw=>by unfold gK;rw[MA,No hk];rfl
 let a:∀w,(gK c w c.gates.length).length=c.gates.length:=λw=>by simp[gK]
 let e:∀w,(c.gates.map (og w))[k]?=PB (og w g):=λw=>by rw[MA,b];rfl
 have:w=0\/w=1:=by lia
 rcases this with rfl|rfl
 ·show⟨k,by unfold wl;rw[MP (by rw[a];show hk)];show d 0,by unfold CU;rw[MP (by rw[My];show hk)];show e 0⟩
 ·show⟨c.gates.length+k,?_,?_⟩
  ·unfold wl;rw[MZ (by rw[a];lia),a,Nm];show d 1
  ·unfold CU;rw[MZ (by rw[My];lia),My,Nm];show e 1
theorem LD{c:Ci}{w k:Nat}{m:Bool×Nat}(g:w<2)(b:c.mems[k]?=PB m):∃n:Nat,(oh c)[n]?=PB (sp w (c.ins+k))/\(wm c)[n]?=PB (bD m.1)/\(I0 c)[n]?=PB (pD (sp w m.2)):=by
 let hk:=(Mv.mp b).1;let d:∀w,(mK c w c.mems.length)[k]?=PB (sp w (c.ins+k)):=λw=>by unfold mK;rw[MA,No hk];rfl
 let a:∀w,(mK c w c.mems.length).length=c.mems.length:=λw=>by simp[mK]
 let f:(c.mems.map λm=>bD m.1)[k]?=PB (bD m.1):=by rw[MA,b];rfl
 let e:∀w,(c.mems.map λm=>pD (sp w m.2))[k]?=PB (pD (sp w m.2)):=λw=>by rw[MA,b];rfl
 have:w=0\/w=1:=by lia
 rcases this with rfl|rfl
 ·show⟨k,by unfold oh;rw[MP (by rw[a];show hk)];show d 0,by unfold wm;rw[MP (by rw[My];show hk)];show f,by unfold I0;rw[MP (by rw[My];show hk)];show e 0⟩
 ·show⟨c.mems.length+k,?_,?_,?_⟩
  ·unfold oh;rw[MZ (by rw[a];lia),a,Nm];show d 1
  ·unfold wm;rw[MZ (by rw[My];lia),My,Nm];show f
  ·unfold I0;rw[MZ (by rw[My];lia),My,Nm];show e 1
theorem zc{Q:KD->Prop}(h:dF k ds=PD)(q:Q (.fr bQ,.lst ds)):Wp (eK "list" [(k,.nd .tup ds)]) Q:=⟨_,if_pos h,q⟩
theorem iH(a:hd=.lst\/hd=.tup):Wp (eK "list" [(Kd.sh,.nd hd ds)]) λx=>x=(.fr k0,.lst ds):=by
 rcases a with rfl|rfl
 ·show uh (k:=.sh) rfl rfl
 ·show zc (k:=.sh) rfl rfl
theorem FA{Z:Ro}{i:Nat}{d:D}{ds:List D}{Q:Kd×D×Ro->Prop}(h:Z[i]?=PB (PB ⟨PF,k0,.lst (ds++[d])⟩))(q:Q (.sh,d,Z.set i (PB ⟨PF,k0,.lst ds⟩))):Wp (bp U (.mut "pop" (.nm i) .nil) Z) Q:=by
 show⟨_,?_,q⟩;rw[j0,aZ];change iq "pop" i (gA Z[i]?) (PB []) Z=_;rw[h]
 change(match ji "pop" [] .fz (ds++[d]) [],Z[i]? with|some (d',ds'),PB (PB ⟨PF,k,_⟩)=>PB (Kd.sh,d',Z.set i (PB ⟨PF,k,id (.lst ds')⟩))|_,_=>PC)=_
 have:ji "pop" [] .fz (ds++[d]) []=PB (d,ds):=by
  change(if e7 (.own [] .fz)=PD then((ds++[d])[(ds++[d]).length-1]?).map λx=>(x,(ds++[d]).dropLast) else PC)=_
  rw[if_pos (show e7 (.own [] .fz)=PD from rfl),MN,Ot,OI,MZ (Mz _),OT,List.dropLast_concat];rfl
 rw[this,h];rfl
theorem FB{U:GG}{Z:Ro}{i:Nat}{ds ys:List D}{Q:Kd×D×Ro->Prop}(h:Z[i]?=PB (PB ⟨PF,k0,.lst ds⟩))(a:aa U.fn e Z=PB (.sh,.lst ys))(b:ds.length+ys.length<=100000)(q:Q (.sh,.non,Z.set i (PB ⟨PF,k0,.lst (ds++ys)⟩))):Wp (bp U (.mut "extend" (.nm i) (.cons e .nil)) Z) Q:=by
 show⟨_,?_,q⟩;rw[j0,e1 a];change iq "extend" i (gA Z[i]?) (PB [(.sh,.lst ys)]) Z=_;rw[h]
 change(match ji "extend" [] .fz ds [(.sh,.lst ys)],Z[i]? with|some (d',ds'),PB (PB ⟨PF,k,_⟩)=>PB (Kd.sh,d',Z.set i (PB ⟨PF,k,id (.lst ds')⟩))|_,_=>PC)=_
 let c:ji "extend" [] .fz ds [(.sh,.lst ys)]=PB (.non,ds++ys):=by
  change(if e7 (.own [] .fz)=PD/\dF Kd.sh ys=PD/\bE Kd.sh=PF/\ds.length+ys.length<=100000 then PB (D.non,ds++ys) else PC)=_
  show if_pos ⟨rfl,rfl,rfl,b⟩
 rw[c,h];rfl
def Ja(c:Ci)(s:Int×Int)(q:List (Int×Int)):Prop:=(s∉wl c/\q=[])\/∃(n:Nat) (t:D),(wl c)[n]?=PB s/\(CU c)[n]?=PB (.tup [t,.lst (q.map pD)])/\q.length<=3
abbrev v8(c:Ci)(kk:List (Int×Int))(kv:List D)(hd:Hd)(B fk L:List (Int×Int))(q:Option Sl):Ro:=[fS (bh c),fS (dic kk kv),fS (.nd hd (B.map pD)),PB ⟨PF,k0,dic fk (fk.map λ_=>.bl PD)⟩,PB ⟨PF,k0,.lst (L.map pD)⟩,q]
theorem jv(hD:Hd)(hh:hD=.lst\/hD=.tup){kk:List (Int×Int)}{L0 ks0 r:List (Int×Int)}(hn:L0.Nodup)(l0:L0.length<=2)(lk:ks0.length<=3)(hk:∀s∈L0,s∉kk/\∃o,Ja c s o/\∀q∈o,q∈kk)(h0:∀s∈ks0,s∈kk)(hr:rW L0.reverse=PB r) :
  Bs [bh c,dic kk kv,.nd hD ((L0++ks0).map pD)]=PB (.fr k0,.lst (r.map pD)):=by
 unfold Bs vO;rw[if_pos (show FZ (mC "Ground.all_below") (mM "Ground.all_below") [bh c,dic kk kv,.nd hD ((L0++ks0).map pD)]=PD from(show(decide (("Ground":Str)=mC "Ground.all_below")&&!fl3.contains (mM "Ground.all_below"))=PD by nofun))];unfold jP;rw[if_pos (by rfl)];change gg (yT [fS (bh c),fS (dic kk kv),fS (.nd hD ((L0++ks0).map pD)),PC,PC,PC])=_
 suffices h:∃g,aq U_11 1000 (bq Gg 3) [] [fS (bh c),fS (dic kk kv),fS (.nd hD ((L0++ks0).map pD)),PC,PC,PC]=PB (.nx (v8 c kk kv hD (L0++ks0) L0.reverse [] g)) by
  obtain⟨g,e⟩:=h;unfold yT;rw[e];change gg (rJ (wj (vQ (eI 3 (v8 c kk kv hD (L0++ks0) L0.reverse [] g)[3]?)) (v8 c kk kv hD (L0++ks0) L0.reverse [] g)))=_
  let e2:vQ (eI 3 (v8 c kk kv hD (L0++ks0) L0.reverse [] g)[3]?)=PB (.fr k0,.lst (r.map pD)):=by
   let ep:∀l:List (Int×Int),vP (l.map pk)=PB l:=λl=>by
    induction l with
    |nil=>rfl
    |cons a l ih=>
     change((Ge (pk a)).bind λp=>(vP (l.map pk)).map λP=>p::P)=_;rw[ih];rfl
   change((vP (L0.reverse.map pk)).bind λP=>(rW P).map λr=>(Kd.fr k0,D.lst (r.map pD)))=_;rw[ep,Nl,hr];rfl
  rw[e2];rfl
 suffices h:Wp (aq U_11 1000 (bq Gg 3) [] [fS (bh c),fS (dic kk kv),fS (.nd hD ((L0++ks0).map pD)),PC,PC,PC]) λr=>∃g,r=.nx (v8 c kk kv hD (L0++ks0) L0.reverse [] g) by
  obtain⟨r,e,g,rfl⟩:=h;show⟨g,e⟩
 unfold Gg bq bq bq bq;show au (x:=(.fr k0,dic [] [])) rfl rfl (by decide) ?_;show au (x:=(.fr k0,.lst ((L0++ks0).map pD))) (aD (du (aB (wv (r:=(Kd.sh,D.nd hD ((L0++ks0).map pD))) rfl (aU (iH hh)))))) rfl (by decide) ?_;change Wp (aq _ _ _ _ (v8 c kk kv hD (L0++ks0) [] (L0++ks0) PC)) _;show CM (λm Z=>∃j f g,j<=L0.length/\f.length<=3/\(∀s∈f,s∈kk)/\m=100*j+f.length/\Z=v8 c kk kv hD (L0++ks0) (L0.drop j).reverse (L0.take j++f) g) (m0:=100*L0.length+ks0.length) (by lia) ⟨L0.length,ks0,PC,Mz _,lk,h0,rfl,by rw[OS,Nx];rfl⟩ λm Z hI=>?_;obtain⟨j,f,g,S,E,A,rfl,rfl⟩:=hI;let Y:aO U_11.fn (.var 4) (v8 c kk kv hD (L0++ks0) (L0.drop j).reverse (L0.take j++f) PC)=PB (!((L0.take j++f).map pD).isEmpty):=IL (n:=4) rfl rfl;show mF (wv Y ⟨λe=>?_,λe=>?_⟩)
 ·let e:(!((L0.take j++f).map pD).isEmpty)=PF:=e
  let V:L0.take j++f=[]:=by
   cases q:L0.take j++f with
   |nil=>rfl
   |cons a l=>rw[q] at e;cases e
  let e3:=List.append_eq_nil_iff.mp V
  let N:j=0:=by
   have:=congrArg NU e3.1;rw[M8] at this;simp at this;rcases this with h|h
   ·show h
   ·subst h;simpa using S
  subst N;rw[V];show a7 ⟨PC,rfl⟩
 ·let e:(!((L0.take j++f).map pD).isEmpty)=PD:=e
  -- one u
  let u:∀(L:List (Int×Int)) (s:Int×Int) (O:List (Int×Int)) {Q:Res->Prop} {rest:bB},Wp (aq U_11 1000 rest [] (v8 c kk kv hD (L0++ks0) O L (fS (pD s)))) Q->Wp (aq U_11 1000 (.cons (.asg 5 (.mut "pop" (.nm 4) .nil)) rest) [] (v8 c kk kv hD (L0++ks0) O (L++[s]) PC)) Q:=λL s O Q rest w=>
   eC (FA (d:=pD s) (ds:=L.map pD) (by change PB (PB _)=_;rw[MU];rfl) ⟨⟨rfl,by decide⟩,w⟩)
  rcases List.eq_nil_or_concat f with rfl|⟨F,s,rfl⟩
  ·let ha:0<j:=by
    rcases Pg j with h|h
    ·subst h;cases e
    ·show h
   obtain⟨i,rfl⟩:∃i,j=i+1:=⟨j-1,by lia⟩;let B:L0[i]?=PB (L0[i]'(by lia)):=MF (by lia);generalize L0[i]'(by lia)=s at B;rw[Nj,lB B];obtain⟨v,o,W,R⟩:=hk s (MH B)
   let U:L0.drop i=s::L0.drop (i+1):=by
    rw[Ni (by lia)];congr 1;have:=MF (l:=L0) (i:=i) (by lia);rw[this] at B;show Option.some.inj B
   let C:s∉(L0.drop (i+1)).reverse:=by
    rw[List.mem_reverse];have:(L0.drop i).Nodup:=hn.sublist (List.drop_sublist _ _);rw[U,MW] at this;show this.1
   let T:(L0.drop i).reverse=(L0.drop (i+1)).reverse++[s]:=by rw[U,List.reverse_cons]
   show u _ s _ ?_;show jr (z:=!decide (s∈(L0.drop (i+1)).reverse)&&!decide (s∈kk)) (mJ (uB (k:=.sh) (k':=.bo 3 k0) rfl rfl) λ_=>eV (uB (k:=.sh) (k':=.sh) rfl rfl)) (λ_=>?_) λe=>?_
   ·show yY (p:=s) (x:=(.sh,.bl PD)) (y:=(.sh,pD s)) rfl rfl rfl rfl C (by simp;lia) rfl ?_;let e5:((L0.drop (i+1)).reverse.map λ_=>D.bl PD)++[D.bl PD]=((L0.drop i).reverse.map λ_=>D.bl PD):=by rw[T,MU];rfl
    rw[e5,<- T];change Wp (aq _ _ _ _ (v8 c kk kv hD (L0++ks0) (L0.drop i).reverse (L0.take i) (fS (pD s)))) _;let I:aa U_11.fn (.fld "gates" (.var 0)) (v8 c kk kv hD (L0++ks0) (L0.drop i).reverse (L0.take i) (fS (pD s)))=PB (.sh,dic (wl c) (CU c)):=mO (k:=.sh) (n:=0) rfl rfl rfl;rcases W with⟨H,rfl⟩|⟨n,t,H,h2,X⟩
    ·show jr (z:=PF) (by rw[lR (k:=.sh) (p:=s) rfl I,decide_eq_false H]) (λe=>by cases e) λ_=>jK (a7 (eB (a7 (.inl ⟨_,100*i,.inl rfl,by simp,i,[],fS (pD s),by lia,by simp,(λ_ h=>nomatch h),by simp,by rw[Nj]⟩))))
    ·show jr (z:=PD) (by rw[lR (k:=.sh) (p:=s) rfl I,decide_eq_true (MH H)]) (λ_=>?_) λe=>by cases e
     let K:=gC (k':=.sh) (b:=.var 5) (p:=s) I rfl (zb c) H h2;let M:=bK (k':=.sh) (b:=.lit (.int 1)) (n:=1) K rfl (.inr rfl) rfl (show [t,D.lst (o.map pD)][1]?=PB (.lst (o.map pD)) from rfl);show jJ (FB (ds:=(L0.take i).map pD) (ys:=o.map pD) rfl M (by simp;lia) (jK (a7 (eB (a7 (.inl ⟨_,100*i+o.length,.inl rfl,by simp;lia,i,o,fS (pD s),by lia,X,R,rfl,?_⟩))))));unfold v8;rw[MU (l₁:=L0.take i)];rfl
   ·rw[decide_eq_false C,decide_eq_false v] at e;cases e
  ·rw[O9,<- M7];rw[O9] at E A;show u _ s _ ?_;let v:s∈kk:=A s (by simp);show jr (z:=!decide (s∈(L0.drop j).reverse)&&!decide (s∈kk)) (mJ (uB (k:=.sh) (k':=.bo 3 k0) rfl rfl) λ_=>eV (uB (k:=.sh) (k':=.sh) rfl rfl)) (λe=>?_) λ_=>?_
   ·rw[decide_eq_true v,Oa,O4] at e;cases e
   ·show jK (a7 (.inl ⟨_,100*j+F.length,.inl rfl,by simp,j,F,fS (pD s),S,by simp at E;lia,λq hq=>A q (by simp[hq]),rfl,rfl⟩))
def hk(i:Nat):Int:=hs2 (sp (i / 41) (i%41))
theorem Jb:((Na 82).map hk).Nodup:=by nofun
theorem p9{α:Type}{a:α}:∀{l:List α} {i j:Nat},l.Nodup->l[i]?=PB a->l[j]?=PB a->i=j
 |[],i,j,_,h,_=>by simp at h
 |b::l,0,0,_,_,_=>rfl
 |b::l,0,j+1,nd,h,h2=>by
  simp at h h2;subst h;show absurd (MH h2) (MW.mp nd).1
 |b::l,i+1,0,nd,h,h2=>by
  simp at h h2;subst h2;show absurd (MH h) (MW.mp nd).1
 |b::l,i+1,j+1,nd,h,h2=>by
  show congrArg (·+1) (p9 (MW.mp nd).2 (by simpa using h) (by simpa using h2))
def BE(l:List (Int×Int)):Prop:=∀p∈l,∃w q,w<2/\q<41/\p=sp w q
theorem Jc{w q:Nat}(h:q<41):hk (w*41+q)=hs2 (sp w q):=by
 let e1:(w*41+q) / 41=w:=by lia
 let e2:(w*41+q)%41=q:=by lia
 unfold hk;rw[e1,e2]
theorem FC{w q a b:Nat}(h1:w<2)(h2:q<41)(d:a<2)(f:b<41)(e:hs2 (sp w q)=hs2 (sp a b)):sp w q=sp a b:=by
 let c:∀w q:Nat,w<2->q<41->((Na 82).map hk)[w*41+q]?=PB (hs2 (sp w q)):=λw q h1 h2=>by
  rw[MA,No (by lia),OY,Jc h2]
 have:=p9 Jb (c w q h1 h2) ((c a b d f).trans (congrArg PB e.symm));let e1:w=a:=by lia
 let e2:q=b:=by lia
 rw[e1,e2]
theorem zd:∀l:List (Int×Int),vP (l.map pk)=PB l
 |[]=>rfl
 |a::l=>by
  change((Ge (pk a)).bind λp=>(vP (l.map pk)).map λb=>p::b)=_;rw[zd l];rfl
theorem FD{ks:List (Int×Int)}(j:ks.Nodup)(d:BE ks):pS (ks.map pk)=PD:=by
 unfold pS;rw[zd];show decide_eq_true (List.pairwise_map.mpr (j.imp_of_mem λ{a b} l c h e=>h ?_));obtain⟨w,q,k,i,rfl⟩:=d a l;obtain⟨n,m,f,g,rfl⟩:=d b c;show FC k i f g e
theorem uI{ks:List (Int×Int)}{vs:List D}(b:ks.Nodup)(a:BE ks)(d:vs.length<=1000)(c:dF k vs=PD):pT (PB (k,dic ks vs))=PB (.fr k0,dic ks vs):=by
 change(if dF k vs=PD/\pS (ks.map pk)=PD/\vs.length<=100000 then PB (Kd.fr (.own [] .fz),D.nd (.dic (0+1) (ks.map pk)) vs) else PC)=_
 rw[if_pos ⟨c,FD b a,by lia⟩]
section
variable {U:Nat->Option Fn} {Z:Ro} {k:Kd}
theorem Jd{α:Type}{l:List α}{f g:α->D}(o:hd=.lst\/hd=.tup)(s:aa U a Z=PB (k,.nd hd (l.map f)))(n:dF k (l.map f)=PD)(j:l.length<=100000)(p:∀d,bX [(1,d)] (aQ Z cap)=PD)(q:∀a∈l,aO U t (setAll [(1,f a)] (aQ Z cap))=PB PD)(h:∀a∈l,Wp (aa U elt (setAll [(1,f a)] (aQ Z cap))) λx=>bM r (x.1,g a)=PD/\x.2=g a):aa U (.comp r cap (.nm 1) (.e a) (.som t) elt) Z=PB (.fr (.own [] r),.lst (l.map g)):=by
 let b:Wp (aP r (dS (.nm 1) (di U (.som t)) (aa U elt) (aQ Z cap)) (l.map f)) λc=>c=l.map g:=ly λx i=>um (ps:=[(1,f x)]) rfl (p _) (q x i) ((h x i).mono λy m=>⟨y.1,by obtain⟨u,v⟩:=y;cases m.2;rfl,m.1⟩);show aD (dL (gh (wv s ?_)));rcases o with rfl|rfl
 ·show dw n ⟨by simpa using j,b.mono λc e=>by rw[e]⟩
 ·show nY n ⟨by simpa using j,b.mono λc e=>by rw[e]⟩
end
abbrev Je(c:Ci)(kk:List (Int×Int))(kv:List D)(q d3:D)(fk:List (Int×Int))(fv:List D)(O B W R:Option Sl):Ro:=[fS (bh c),fS (dic kk kv),fS q,fS d3,PB ⟨PF,k0,dic fk fv⟩,O,B,W,R]
theorem lC{kk:List (Int×Int)}{kv:List D}(d:kk.Nodup)(a:BE kk)(f:kv.length<=1000)(h:Wp (aq U_14 1000 (br Gi 1) [] (Je c kk kv wd d3 kk kv PC PC PC PC)) λr=>Wp (gg (PB r)) λx=>x=q):wk [bh c,dic kk kv,wd,d3]=PB q:=by
 unfold wk vO;rw[if_pos (show FZ (mC "Ground.reckoned") (mM "Ground.reckoned") [bh c,dic kk kv,wd,d3]=PD from(show(decide (("Ground":Str)=mC "Ground.reckoned")&&!fl3.contains (mM "Ground.reckoned"))=PD by nofun))];unfold jP;rw[if_pos (by rfl)];change gg (vT [fS (bh c),fS (dic kk kv),fS wd,fS d3,PC,PC,PC,PC,PC])=_;obtain⟨r,e,x,e2,rfl⟩:=h
 let b:vT [fS (bh c),fS (dic kk kv),fS wd,fS d3,PC,PC,PC,PC,PC]=PB r:=by
  unfold vT;change cm (fy [] 4 (wj (pT (PB (.sh,dic kk kv))) [fS (bh c),fS (dic kk kv),fS wd,fS d3,PC,PC,PC,PC,PC])) _=_;rw[uI d a f rfl];show e
 rw[b,e2]
theorem dC(hd:Hd)(e:hd=.lst\/hd=.tup){kk ks:List (Int×Int)}{kv:List D}(f:kk.Nodup)(b:BE kk)(g:kv.length<=1000)(j:ks.length<=3)(k:∀s∈ks,s∈kk):wk [bh c,dic kk kv,.nd hd (ks.map pD),d3]=PB (.fr k0,dic kk kv):=by
 show lC f b g ?_;unfold Gi br br
 let a:=jv hd e (c:=c) (kk:=kk) (kv:=kv) (L0:=[]) (ks0:=ks) (r:=[]) OD (by simp) j (λ_ h=>nomatch h) k rfl
 show cU (cb (gh (wv (bC (B:=Bs) (ds:=[bh c,dic kk kv,.nd hd (ks.map pD)]) rfl (e3 (p:=(.sh,bh c)) (q:=(.sh,dic kk kv)) (u:=(.sh,.nd hd (ks.map pD))) rfl rfl rfl) rfl rfl a rfl) (dw rfl ⟨λ_ Z=>Z=Je c kk kv (.nd hd (ks.map pD)) d3 kk kv PC PC PC PC,rfl,λi d Z hd _=>by simp at hd,λZ l=>?_⟩))));subst l;show cR (dv rfl ⟨rfl,eD rfl rfl⟩)
theorem v9{c:Ci}(h:Ok c){k n:Nat}{g:Nat×List Nat}{col:Nat->Nat}{kk:List (Int×Int)}{kv:List D}(T:c.gates[k]?=PB g)(hf:n<=8)(V:kk.Nodup)(S:BE kk)(hl:kv.length<=1000)(hc:∀w,w<2->∀p∈g.2,∃i:Nat,kk[i]?=PB (sp w p)/\kv[i]?=PB (iD (col p)))(C:∀w,w<2->sp w (c.f+k)∉kk)(hh:kk.length=kv.length) :
  ∃v:Nat,wk [bh c,dic kk kv,.lst ([sp 0 (c.f+k),sp 1 (c.f+k)].map pD),iD (W n)]=PB (.fr k0,dic (kk++[sp 0 (c.f+k),sp 1 (c.f+k)]) (kv++[iD v,iD v])):=by
 let K:=(h.g k g T).1;obtain⟨v,hv⟩:=BA g.1 (n:=n) (xs:=g.2.map col) hf (by rw[My];show K);show⟨v,lC V S hl ?_⟩;unfold Gi br br
 let L:=jv .lst (.inl rfl) (c:=c) (kk:=kk) (kv:=kv) (L0:=[sp 0 (c.f+k),sp 1 (c.f+k)]) (ks0:=[]) (r:=[sp 0 (c.f+k),sp 1 (c.f+k)]) (by
  show MW.mpr ⟨λz=>?_,MW.mpr ⟨by simp,.nil⟩⟩;have:=(bS (MY.mp z)).1
  lia) (by simp) (by simp) (λs Q=>by
  let he:∃w,w<2/\s=sp w (c.f+k):=by
   simp only[MD,MS,or_false] at Q;rcases Q with rfl|rfl
   ·show⟨0,by decide,rfl⟩
   ·show⟨1,by decide,rfl⟩
  obtain⟨w,o,rfl⟩:=he;obtain⟨i,P,X⟩:=L8 o T;show⟨C w o,g.2.map (sp w),.inr ⟨i,iD g.1,P,?_,by rw[My];show K⟩,λq hq=>?_⟩
  ·rw[X,MV];rfl
  ·obtain⟨p,E,rfl⟩:=Nd.mp hq;obtain⟨j,t,_⟩:=hc w o p E
   show MH t) (λ_ h=>nomatch h) (by
  change PB (if lu (sp 0 (c.f+k)) (sp 1 (c.f+k))=PD then _ else _)=_
  rw[if_pos (by simp[lu])])
 rw[Nj] at L;show cU (cb (gh (wv (bC (B:=Bs) (ds:=[bh c,dic kk kv,.lst ([sp 0 (c.f+k),sp 1 (c.f+k)].map pD)]) rfl (e3 (p:=(.sh,bh c)) (q:=(.sh,dic kk kv)) (u:=(.sh,.lst ([sp 0 (c.f+k),sp 1 (c.f+k)].map pD))) rfl rfl rfl) rfl rfl L rfl) (dw rfl ⟨λs Z=>s<=2/\∃N I H F,Z=Je c kk kv (.lst ([sp 0 (c.f+k),sp 1 (c.f+k)].map pD)) (iD (W n)) (kk++[sp 0 (c.f+k),sp 1 (c.f+k)].take s) (kv++[iD v,iD v].take s) N I H F,⟨by lia,PC,PC,PC,PC,by simp;rfl⟩,λs d Z hd hI=>?_,λZ hI=>?_⟩))))
 ·obtain⟨Q,N,I,H,F,rfl⟩:=hI
  obtain⟨w,o,rfl,rfl⟩:∃w,w<2/\w=s/\d=pD (sp w (c.f+k)):=by
   match s,hd with
   |0,hd=>show⟨0,by decide,rfl,(Option.some.inj hd).symm⟩
   |1,hd=>show⟨1,by decide,rfl,(Option.some.inj hd).symm⟩
   |s+2,hd=>simp at hd
  show⟨[(5,pD (sp w (c.f+k)))],rfl,rfl,?_⟩
  let tk:[sp 0 (c.f+k),sp 1 (c.f+k)].take (w+1)=[sp 0 (c.f+k),sp 1 (c.f+k)].take w++[sp w (c.f+k)]:=by
   match w,o with
   |0,_=>rfl
   |1,_=>rfl
  let tv:[iD v,iD v].take (w+1)=[iD v,iD v].take w++[iD v]:=by
   match w,o with
   |0,_=>rfl
   |1,_=>rfl
  let nw:sp w (c.f+k)∉kk++[sp 0 (c.f+k),sp 1 (c.f+k)].take w:=λz=>by
   rcases M5.mp z with z|z
   ·show C w o z
   ·match w,o,z with
    |0,_,z=>cases z
    |1,_,z=>have:=(bS (MY.mp z)).1;lia
  let Y:(kk++[sp 0 (c.f+k),sp 1 (c.f+k)].take w).Nodup:=by
   match w,o with
   |0,_=>rw[List.take_zero,Nj];show V
   |1,_=>
    show Om.mpr ⟨V,by simp,λa ha b S e=>?_⟩;have:b=sp 0 (c.f+k):=by simpa using S
    show C 0 (by decide) (this▸e▸ha)
  obtain⟨i,P,X⟩:=L8 o T;generalize M:kk++[sp 0 (c.f+k),sp 1 (c.f+k)].take w=fk at *;generalize A:kv++[iD v,iD v].take w=fv at *;let lv:fv.length<=1010:=by rw[<- A,MN,M8];simp;lia
  let m:∀p∈g.2,∃i:Nat,fk[i]?=PB (sp w p)/\fv[i]?=PB (iD (col p)):=λp E=>by
   obtain⟨j,t,R⟩:=hc w o p E;let hj:=(Mv.mp t).1;show⟨j,by rw[<- M,MP hj];show t,by rw[<- A,MP (by lia)];show R⟩
  let O:∀{N I H F:Option Sl},aa U_14.fn (.fld "gates" (.var 0)) (Je c kk kv (.lst ([sp 0 (c.f+k),sp 1 (c.f+k)].map pD)) (iD (W n)) fk fv N I H F)=PB (.sh,dic (wl c) (CU c)):=mO (k:=.sh) (n:=0) rfl rfl rfl;change Wp (aq _ _ _ [] (Je c kk kv (.lst ([sp 0 (c.f+k),sp 1 (c.f+k)].map pD)) (iD (W n)) fk fv (fS (pD (sp w (c.f+k)))) I H F)) _;show jr (z:=PD) (by rw[lR (k:=.sh) (p:=sp w (c.f+k)) rfl O,decide_eq_true (MH P)]) (λ_=>?_) λe=>by cases e
  show dM (ds:=[iD g.1,.lst (g.2.map λp=>pD (sp w p))]) (gC (k':=.sh) (b:=.var 5) (p:=sp w (c.f+k)) O rfl (zb c) P X) ⟨rfl,rfl⟩ ?_;show au (Jd (k:=.sh) (f:=λp=>pD (sp w p)) (g:=λp=>iD (col p)) (.inl rfl) rfl rfl (by lia) (λ_=>rfl) (λp E=>?_) λp E=>?_) rfl (by decide) ?_
  ·obtain⟨j,t,R⟩:=m p E;rw[lR (k:=.sh) (k':=.bo 2 k0) (p:=sp w p) (ks:=fk) (vs:=fv) rfl rfl,decide_eq_true (MH t)]
  ·obtain⟨j,t,R⟩:=m p E;show wv (gC (k:=.bo 2 k0) (k':=.sh) (p:=sp w p) (ks:=fk) (vs:=fv) rfl rfl Y t R) ⟨rfl,rfl⟩
  show jr (z:=PD) ?_ (λ_=>?_) λe=>by cases e
  ·rw[p4 (k:=.sh) (k':=.sh) (aX (l:=g.2) (f:=λp=>iD (col p)) (hd:=.lst) (k:=.bo 8 k0) rfl (.inl rfl)) (aX (l:=g.2) (f:=λp=>pD (sp w p)) (hd:=.lst) (k:=.sh) rfl (.inl rfl)),decide_eq_true rfl]
  ·let U:ψ8 [iD g.1,.lst (g.2.map λp=>iD (col p)),iD (W n)]=PB (.sh,iD v):=by rw[<- hv,MV];rfl
   show yY (p:=sp w (c.f+k)) (x:=(.sh,iD v)) (y:=(.sh,pD (sp w (c.f+k)))) rfl (iA (B:=ψ8) (p:=(.sh,iD v)) (ds:=[iD g.1,.lst (g.2.map λp=>iD (col p)),iD (W n)]) rfl (e3 (p:=(.sh,iD g.1)) (q:=(.bo 8 k0,.lst (g.2.map λp=>iD (col p)))) (u:=(.sh,iD (W n))) rfl rfl rfl) rfl rfl U rfl) rfl rfl nw (by lia) rfl ?_;show a7 (eB (a7 (eB (a7 ⟨_,.inl rfl,by lia,fS (pD (sp w (c.f+k))),fS (iD g.1),fS (.lst (g.2.map λp=>pD (sp w p))),aW (.lst (g.2.map λp=>iD (col p))),?_⟩))));rw[tk,tv,<- M7,<- M7,M,A];rfl
 ·obtain⟨Q,N,I,H,F,rfl⟩:=hI;show cR (dv rfl ⟨rfl,eD rfl rfl⟩)
theorem BF(a:Nat):rW [sp 1 a,sp 0 a]=PB [sp 0 a,sp 1 a]:=by
 change PB (if lu (sp 0 a) (sp 1 a)=PD then _ else _)=_
 rw[if_pos (by simp[lu])]
theorem ol(a:Nat):[sp 0 a,sp 1 a].Nodup:=MW.mpr ⟨λz=>by
 have:=(bS (MY.mp z)).1
 lia,MW.mpr ⟨by simp,.nil⟩⟩
theorem eR(b:s∈[sp 0 a,sp 1 a]):∃w,w<2/\s=sp w a:=by
 simp only[MD,MS,or_false] at b;rcases b with rfl|rfl
 ·show⟨0,by decide,rfl⟩
 ·show⟨1,by decide,rfl⟩
theorem mR(hd:Hd)(b:hd=.lst\/hd=.tup){c:Ci}{a:Nat}(h2:a<c.f):Bs [bh c,dic [] [],.nd hd ([sp 0 a,sp 1 a].map pD)]=PB (.fr k0,.lst ([sp 0 a,sp 1 a].map pD)):=
 jv hd b (c:=c) (kk:=[]) (kv:=[]) (L0:=[sp 0 a,sp 1 a]) (ks0:=[]) (r:=[sp 0 a,sp 1 a]) (ol a) (by simp) (by simp) (λs d=>by
  obtain⟨w,e,rfl⟩:=eR d
  show⟨by simp,[],.inl ⟨λz=>?_,rfl⟩,λ_ h=>nomatch h⟩
  have:=(gKs_mem.mp z).2.1
  lia) (λ_ h=>nomatch h) (BF a)
theorem ze{c:Ci}{a:Nat}(h1:c.ins<=a)(h2:a<c.f):Iu [bh c,lS a fr]=PB (.sh,.bl PD):=by
 unfold Iu;show eZ rfl ?_;unfold K5;change Wp (aq _ _ _ [] [fS (bh c),fS (lS a fr)]) _;show cc (fG (l:=[sp 0 a,sp 1 a]) (f:=pD) (k:=.fr k0) (hd:=.lst) (.inl rfl) (bC (B:=Bs) (ds:=[bh c,dic [] [],.tup ([sp 0 a,sp 1 a].map pD)]) rfl (e3 (p:=(.sh,bh c)) (q:=(.fr k0,dic [] [])) (u:=(.sh,.tup ([sp 0 a,sp 1 a].map pD))) rfl rfl (uE (n:=2) (xs:=[pD (sp 0 a),pD (sp 1 a),.lst (fr.map iD),.lst (([]:List Nat).map iD)]) rfl (by simp))) rfl rfl (mR .tup (.inr rfl) h2) rfl) rfl (by simp) (λ_=>rfl) λs g=>?_) rfl (fF rfl rfl);obtain⟨w,b,rfl⟩:=eR g;let e:aa U_34.fn (.fld "gates" (.var 2)) (setAll [(1,pD (sp w a))] (aQ [fS (bh c),fS (lS a fr)] [PC,PC,PB 0]))=PB (.sh,dic (wl c) (CU c)):=mO (k:=.sh) (n:=0) rfl rfl rfl;let d:aa U_34.fn (.fld "begins" (.var 2)) (setAll [(1,pD (sp w a))] (aQ [fS (bh c),fS (lS a fr)] [PC,PC,PB 0]))=PB (.sh,dic (oh c) (wm c)):=mO (k:=.sh) (n:=1) rfl rfl rfl;show IN (k:=.sh) (x:=PF) (y:=PD) (eW ?_) λ_=>iB (eW ?_)
 ·rw[lR (k:=.sh) (p:=sp w a) rfl e,decide_eq_false (λz=>by have:=(gKs_mem.mp z).2.1;lia)]
 ·rw[lR (k:=.sh) (p:=sp w a) rfl d,decide_eq_true (mKs_mem.mpr ⟨b,h1,h2⟩)]
theorem BG(h:Ok c):BE (oh c):=λp a=>by
 have:=h.bi;have:=h.bm;unfold oh at a
 rcases M5.mp a with z|z<;>obtain⟨k,b,rfl⟩:=mK_mem.mp z
 ·show⟨0,c.ins+k,by decide,by lia,rfl⟩
 ·show⟨1,c.ins+k,by decide,by lia,rfl⟩
theorem zf{c:Ci}(h:Ok c){k:Nat}{m:Bool×Nat}{fr:List Nat}(f:c.mems[k]?=PB m):Iv [bh c,lS (c.ins+k) fr]=PB (.sh,.bl PD):=by
 let x:=h.bm;obtain⟨i,e,g,_⟩:=LD (w:=0) (by decide) f;obtain⟨j,b,r,_⟩:=LD (w:=1) (by decide) f;unfold Iv;show eZ rfl ?_;unfold K6;change Wp (aq _ _ _ [] [fS (bh c),fS (lS (c.ins+k) fr),PC]) _
 let l:=dC .tup (.inr rfl) (c:=c) (kk:=oh c) (kv:=wm c) (ks:=[sp 0 (c.ins+k),sp 1 (c.ins+k)]) (d3:=.int 1) (oj c) (BG h) (by unfold wm;simp;lia) (by simp) (λs o=>by
  obtain⟨w,v,rfl⟩:=eR o;have:w=0\/w=1:=by lia
  rcases this with rfl|rfl
  ·show MH e
  ·show MH b)
 show au (bC (B:=wk) (ds:=[bh c,dic (oh c) (wm c),.tup ([sp 0 (c.ins+k),sp 1 (c.ins+k)].map pD),.int 1]) rfl (e4 (p:=(.sh,bh c)) (q:=(.sh,dic (oh c) (wm c))) (u:=(.sh,.tup ([sp 0 (c.ins+k),sp 1 (c.ins+k)].map pD))) (t:=(.sh,.int 1)) rfl (mO (k:=.sh) (n:=1) rfl rfl rfl) (uE (n:=2) (xs:=[pD (sp 0 (c.ins+k)),pD (sp 1 (c.ins+k)),.lst (fr.map iD),.lst (([]:List Nat).map iD)]) rfl (by simp)) rfl) rfl rfl l rfl) rfl (by decide) ?_;let a:∀(n:Nat) d,[pD (sp 0 (c.ins+k)),pD (sp 1 (c.ins+k)),.lst (fr.map iD),.lst (([]:List Nat).map iD)][n]?=PB d->aa U_35.fn (.ix (.var 1) (.lit (.int (n:Int)))) [fS (bh c),fS (lS (c.ins+k) fr),aW (dic (oh c) (wm c))]=PB (.sh,d):=λn d h=>bK (k:=.sh) (k':=.sh) (n:=n) rfl rfl (.inr rfl) rfl h;show cc (eW (p4 (gC (k:=.bo 2 k0) (k':=.sh) (p:=sp 0 (c.ins+k)) (ks:=oh c) (vs:=wm c) rfl (a 0 _ rfl) (oj c) e g) (gC (k:=.bo 2 k0) (k':=.sh) (p:=sp 1 (c.ins+k)) (ks:=oh c) (vs:=wm c) rfl (a 1 _ rfl) (oj c) b r))) rfl (fF rfl ?_);rw[decide_eq_true rfl];rfl
abbrev gO(k:Nat):D:=.tup ([sp 0 k,sp 1 k].map pD)
def dX(n:Nat)(es:List D):D:=.lst ((Na n).map gO++es)
structure Tab(kk:List (Int×Int))(kv:List D)(fr:List Nat):Prop where
 nd:kk.Nodup
 len:kk.length=kv.length
 le:kk.length<=2*fr.length
 int:∀v∈kv,∃x:Nat,v=iD x
 only:∀q∈kk,∃w p,w<2/\p∈fr/\q=sp w p
 all:∀p∈fr,∃col,∀w,w<2->∃i:Nat,kk[i]?=PB (sp w p)/\kv[i]?=PB (iD col)
theorem Tab.mem{kk:List (Int×Int)}{fr:List Nat}(t:Tab kk kv fr){w p:Nat}(a:w<2):sp w p∈kk↔p∈fr:=by
 constructor
 ·intro h;obtain⟨g,j,_,f,e⟩:=t.only _ h;rw[(bS e).2];show f
 ·intro h;obtain⟨c,b⟩:=t.all p h;obtain⟨i,d,_⟩:=b w a;show MH d
theorem Tab.old{fr:List Nat}{p:Nat}(t:Tab kk kv fr)(h:p∈fr):Tab kk kv (fr++[p]):=by
 show⟨t.nd,t.len,by have:=t.le;simp;lia,t.int,λq a=>?_,λq a=>?_⟩
 ·obtain⟨w,d,b,c,e⟩:=t.only q a;show⟨w,d,b,by simp[c],e⟩
 ·rcases M5.mp a with z|z
  ·show t.all q z
  ·rw[MY.mp z];show t.all p h
theorem Tab.new{kk:List (Int×Int)}{kv:List D}{fr:List Nat}{p col:Nat}(t:Tab kk kv fr)(h:p∉fr):Tab (kk++[sp 0 p,sp 1 p]) (kv++[iD col,iD col]) (fr++[p]):=by
 show⟨Om.mpr ⟨t.nd,ol p,λa n b k e=>?_⟩,by have:=t.len;simp;lia,by have:=t.le;simp;lia,λv m=>(M5.mp m).elim (t.int v) λz=>⟨col,by simpa using z⟩,λq j=>?_,λq j=>?_⟩
 ·obtain⟨w,d,rfl⟩:=eR k;show h ((t.mem d).mp (e▸n))
 ·rcases M5.mp j with z|z
  ·obtain⟨w,o,f,g,e⟩:=t.only q z;show⟨w,o,f,by simp[g],e⟩
  ·obtain⟨w,d,rfl⟩:=eR z;show⟨w,p,d,by simp,rfl⟩
 ·rcases M5.mp j with z|z
  ·obtain⟨c,l⟩:=t.all q z;show⟨c,λw d=>?_⟩;obtain⟨i,f,g⟩:=l w d;have:=(Mv.mp f).1;show⟨i,by rw[MP this];show f,by rw[MP (by rw[<- t.len];show this)];show g⟩
  ·rw[MY.mp z];show⟨col,λw d=>⟨kk.length+w,?_,?_⟩⟩
   ·rw[MZ (by lia),Nm]
    match w,d with
    |0,_=>rfl
    |1,_=>rfl
   ·rw[t.len,MZ (by lia),Nm]
    match w,d with
    |0,_=>rfl
    |1,_=>rfl
theorem Tab.box{fr:List Nat}(t:Tab kk kv fr)(h:∀p∈fr,p<41):BE kk:=λq a=>by
 obtain⟨w,p,b,c,e⟩:=t.only q a;show⟨w,p,b,h p c,e⟩
theorem iI{kk:List (Int×Int)}:∀{kv:List D},(∀v∈kv,∃x:Nat,v=iD x)->fj kv [] .fz=PD
 |[],_=>rfl
 |v::kv,h=>by
  obtain⟨x,rfl⟩:=h v (by simp);change(PD&&fj kv [] .fz)=PD;rw[iI (kk:=kk) λv a=>h v (by simp[a])];rfl
abbrev CV(n:Nat)(es:List D)(fr:List Nat)(kk:List (Int×Int))(kv:List D)(kp:Nat)(O B x7 R q:Option Sl):Ro:=[fS (dX n es),fS (.lst (fr.map iD)),fS (iD (W fr.length)),aW (dic kk kv),fS (iD kp),O,B,x7,R,q]
theorem om{n:Nat}(es:List D){fr:List Nat}(N:fr.length<=8)(R:∀p∈fr,p<n):∃kk kv kp,Fb [dX n es,.lst (fr.map iD)]=PB (.sh,.tup [dic kk kv,iD kp])/\Tab kk kv fr:=by
 suffices h:Wp (Fb [dX n es,.lst (fr.map iD)]) λr=>∃kk kv kp,r=(.sh,.tup [dic kk kv,iD kp])/\Tab kk kv fr by
  obtain⟨r,e,kk,kv,kp,rfl,t⟩:=h;show⟨kk,kv,kp,e,t⟩
 unfold Fb;show nZ rfl ?_;unfold Lb;change Wp (aq _ _ _ [] [fS (dX n es),fS (.lst (fr.map iD)),PC,PC,PC,PC,PC,PC,PC,PC]) _;let C:∀{S x3 Q q E u o a:Option Sl},aa U_15.fn (.blt "len" (.cons (.var 1) .nil)) [fS (dX n es),fS (.lst (fr.map iD)),S,x3,Q,q,E,u,o,a]=PB (.sh,iD fr.length):=aX (l:=fr) (f:=iD) (k:=.sh) rfl (.inl rfl);show au (bC (B:=ψ6) (ds:=[iD fr.length]) rfl (e1 C) rfl rfl (js N) rfl) rfl (by decide) ?_;show au (x:=(.fr k0,dic [] [])) rfl rfl (by decide) ?_;show au (x:=(.sh,iD (W fr.length))) rfl rfl (by decide) ?_;change Wp (aq _ _ _ _ (CV n es fr [] [] (W fr.length) PC PC PC PC PC)) _
 show uG (l:=fr) (f:=iD) rfl (λs Z=>∃kk kv kp q E u o a,Z=CV n es fr kk kv kp q E u o a/\Tab kk kv (fr.take s)) ⟨[],[],W fr.length,PC,PC,PC,PC,PC,rfl,⟨.nil,rfl,by simp,(λ_ h=>nomatch h),(λ_ h=>nomatch h),λp h=>by simp at h⟩⟩ (λs p Z L b=>?_) λZ b=>?_
 ·obtain⟨kk,kv,kp,q,E,u,o,a,rfl,T⟩:=b;let V:=(Mv.mp L).1;let m:=R p (MH L);let H:=T.le;let O:=T.len;rw[M8] at H;show⟨[(5,iD s),(6,iD p)],rfl,rfl,?_⟩;change Wp (aq _ _ _ _ (CV n es fr kk kv kp (fS (iD s)) (fS (iD p)) PC PC PC)) _;show au (bC (B:=ψ7) (ds:=[iD s,iD fr.length]) rfl (e2 (p:=(.sh,iD s)) rfl C) rfl rfl (v5 N V) rfl) rfl (by decide) ?_;show au (x:=(.sh,gO p)) (IP (x:=PD) (vZ (k:=.sh) (bC (B:=ψ0) (ds:=[iD p]) rfl (e1 (p:=(.sh,iD p)) rfl) rfl rfl (p7 _) rfl)) (λ_=>bK (k:=.sh) (k':=.sh) (n:=p) (hd:=.lst) (xs:=(Na n).map gO++es) rfl rfl (.inl rfl) rfl (by rw[MP (by simpa using m),MA,No m];rfl)) λe=>by cases e) rfl (by decide) ?_;change Wp (aq _ _ _ _ (CV n es fr kk kv kp (fS (iD s)) (fS (iD p)) (fS (iD (gN s fr.length))) (fS (gO p)) PC)) _;let A:=lB L;by_cases c:p∈fr.take s
  ·show cU (cb (gh (aJ rfl (nY rfl ⟨λ_ Z=>∃kp a,Z=CV n es fr kk kv kp (fS (iD s)) (fS (iD p)) (fS (iD (gN s fr.length))) (fS (gO p)) a,⟨kp,PC,rfl⟩,λi d Z hd b=>?_,λZ b=>?_⟩))))
   ·obtain⟨kp,a,rfl⟩:=b
    obtain⟨w,g,rfl⟩:∃w,w<2/\d=pD (sp w p):=by
     match i,hd with
     |0,hd=>show⟨0,by decide,(Option.some.inj hd).symm⟩
     |1,hd=>show⟨1,by decide,(Option.some.inj hd).symm⟩
     |i+2,hd=>simp at hd
    obtain⟨I,hc⟩:=T.all p c;obtain⟨j,M,Y⟩:=hc w g;show⟨[(9,pD (sp w p))],rfl,rfl,?_⟩;change Wp (aq _ _ _ [] (CV n es fr kk kv kp (fS (iD s)) (fS (iD p)) (fS (iD (gN s fr.length))) (fS (gO p)) (fS (pD (sp w p))))) _;show jr (z:=PD) (by rw[lR (k:=.sh) (k':=.bo 3 k0) (p:=sp w p) (ks:=kk) (vs:=kv) rfl rfl,decide_eq_true (MH M)]) (λ_=>?_) λe=>by cases e
    show Ie rfl (ce (bb (bb (aJ rfl (wv (gC (k:=.bo 3 k0) (k':=.sh) (p:=sp w p) (ks:=kk) (vs:=kv) rfl rfl T.nd M Y) (lA (aJ rfl (lA ⟨by decide,⟨iD (kp &&& (W fr.length ^^^ I ^^^ gN s fr.length)),?_,a7 (eB (a7 ⟨_,.inl rfl,_,_,rfl⟩))⟩⟩))))))));change PB (D.int _)=PB (D.int _);rw[n8]
   ·obtain⟨kp,a,rfl⟩:=b;show a7 ⟨_,.inl rfl,kk,kv,kp,_,_,_,_,_,rfl,by rw[A];show T.old c⟩
  ·show cU (cb (gh (aJ rfl (nY rfl ⟨λi Z=>i<=2/\∃a,Z=CV n es fr (kk++[sp 0 p,sp 1 p].take i) (kv++[iD (gN s fr.length),iD (gN s fr.length)].take i) kp (fS (iD s)) (fS (iD p)) (fS (iD (gN s fr.length))) (fS (gO p)) a,⟨by lia,PC,by simp;rfl⟩,λi d Z hd b=>?_,λZ b=>?_⟩))))
   ·obtain⟨_,a,rfl⟩:=b
    obtain⟨w,g,rfl,rfl⟩:∃w,w<2/\w=i/\d=pD (sp w p):=by
     match i,hd with
     |0,hd=>show⟨0,by decide,rfl,(Option.some.inj hd).symm⟩
     |1,hd=>show⟨1,by decide,rfl,(Option.some.inj hd).symm⟩
     |i+2,hd=>simp at hd
    let U:[sp 0 p,sp 1 p].take (w+1)=[sp 0 p,sp 1 p].take w++[sp w p]:=by
     match w,g with
     |0,_=>rfl
     |1,_=>rfl
    let X:∀v:D,[v,v].take (w+1)=[v,v].take w++[v]:=by
     match w,g with
     |0,_=>intro v;rfl
     |1,_=>intro v;rfl
    let P:sp w p∉kk++[sp 0 p,sp 1 p].take w:=λz=>by
     rcases M5.mp z with z|z
     ·show c ((T.mem g).mp z)
     ·match w,g,z with
      |0,_,z=>cases z
      |1,_,z=>have:=(bS (MY.mp z)).1;lia
    show⟨[(9,pD (sp w p))],rfl,rfl,?_⟩;let lv:(kv++[iD (gN s fr.length),iD (gN s fr.length)].take w).length<=100:=by rw[MN,M8];simp;lia
    generalize K:kk++[sp 0 p,sp 1 p].take w=fk at *;generalize F:kv++[iD (gN s fr.length),iD (gN s fr.length)].take w=fv at *;change Wp (aq _ _ _ [] (CV n es fr fk fv kp (fS (iD s)) (fS (iD p)) (fS (iD (gN s fr.length))) (fS (gO p)) (fS (pD (sp w p))))) _;show jr (z:=PF) (by rw[lR (k:=.sh) (k':=.bo 3 k0) (p:=sp w p) (ks:=fk) (vs:=fv) rfl rfl,decide_eq_false P]) (λe=>by cases e) λ_=>?_;show yY (p:=sp w p) (x:=(.sh,iD (gN s fr.length))) (y:=(.sh,pD (sp w p))) rfl rfl rfl rfl P (by lia) rfl ?_;show a7 (eB (a7 ⟨_,.inl rfl,by lia,fS (pD (sp w p)),?_⟩));rw[U,X,<- M7,<- M7,K,F];rfl
   ·obtain⟨_,a,rfl⟩:=b;show a7 ⟨_,.inl rfl,_,_,kp,_,_,_,_,_,rfl,by rw[A];show T.new c⟩
 ·obtain⟨kk,kv,kp,q,E,u,o,a,rfl,T⟩:=b;rw[Nx] at T;show cR (dU (bY (dv rfl (wv (e1 (p:=(.sh,iD kp)) rfl) (dA rfl ⟨rfl,_,rfl,kk,kv,kp,rfl,T⟩)))))
abbrev uJ(c:Ci)(n:Nat)(es:List D)(kk:List (Int×Int))(kv:List D)(B:D)(R O q:Option Sl):Ro:=[fS (bh c),fS (dX n es),fS dN,fS (dic kk kv),fS B,R,PC,PC,PC,O,q]
noncomputable abbrev zH:D:=.nd (.dic 0 []) []
theorem zg{kk:List (Int×Int)}{kv:List D}(b:kk.Nodup)(a:BE kk)(f:kv.length<=1000):Iw [bh c,dX n es,dN,dic kk kv,wd]=PB (.fr k0,dic kk kv):=by
 let s0:aq U_19 1000 (bq Fa 2) [] (uJ c n es kk kv wd PC PC PC)=PB (.nx (uJ c n es kk kv wd (aW zH) PC PC)):=by
  show ox ?_;unfold Fa bq bq bq;show au (x:=(.fr k0,zH)) rfl rfl (by decide) ?_;show cU (cb (gh (aJ rfl (dw rfl ⟨λ_ Z=>Z=uJ c n es kk kv wd (aW zH) PC PC,rfl,λi d Z m _=>by simp at m,λZ l=>?_⟩))));subst l;show a7 rfl
 let s1:Fc (uJ c n es kk kv wd (aW zH) PC PC)=PB (.nx (uJ c n es kk kv wd (aW zH) (aW (dic kk kv)) PC)):=by
  let e:=dC .lst (.inl rfl) (c:=c) (kk:=kk) (kv:=kv) (ks:=[]) (d3:=wd) b a f (by simp) (λ_ h=>nomatch h)
  let e2:AG wk [(.sh,bh c),(.sh,dic kk kv),(.fr k0,.lst []),(.sh,wd)]=PB (.fr k0,dic kk kv):=ox (ui ⟨_,e,rfl,.inl rfl,rfl⟩);change fy [] 9 (wj (AG wk [(.sh,bh c),(.sh,dic kk kv),(.fr k0,.lst []),(.sh,wd)]) (uJ c n es kk kv wd (aW zH) PC PC))=_;rw[e2];rfl
 let s2:Fd (uJ c n es kk kv wd (aW zH) (aW (dic kk kv)) PC)=PB (.nx (uJ c n es kk kv wd (aW zH) (aW (dic kk kv)) (aW (dic kk kv)))):=by
  change fy [] 10 (wj (pT (PB (.sh,dic kk kv))) (uJ c n es kk kv wd (aW zH) (aW (dic kk kv)) PC))=_;rw[uI b a f rfl];rfl
 let k:Fe (uJ c n es kk kv wd (aW zH) (aW (dic kk kv)) (aW (dic kk kv)))=PB (.nx (uJ c n es kk kv wd PC (aW (dic kk kv)) (aW (dic kk kv)))):=rfl;let s4:Wp (aq U_19 1000 (br Fa 5) [] (uJ c n es kk kv wd PC (aW (dic kk kv)) (aW (dic kk kv)))) λr=>Wp (gg (PB r)) λx=>x=(.fr k0,dic kk kv):=cR (dv rfl ⟨rfl,eD rfl rfl⟩);obtain⟨r,e,x,j,rfl⟩:=s4;unfold Iw jP;rw[if_pos (by rfl)];change gg (vU (uJ c n es kk kv wd PC PC PC))=_
 let g:vU (uJ c n es kk kv wd PC PC PC)=PB r:=by
  unfold vU;rw[s0];dsimp only[cm];rw[s1];dsimp only;rw[s2];dsimp only;rw[k];dsimp only;rw[e]
 rw[g,j]
theorem jw{c:Ci}{n:Nat}{es:List D}{fr:List Nat}{kk fk ks:List (Int×Int)}{kv fv:List D}{kp:Nat}(w:fr.length<=8)(b:Fb [dX n es,.lst (fr.map iD)]=PB (.sh,.tup [dic kk kv,iD kp]))(o:kk.Nodup)(j:BE kk)(v:kv.length<=1000)(y:ks.length<=2)
  (h33:wk [bh c,dic kk kv,.lst (ks.map pD),iD (W fr.length)]=PB (.fr k0,dic fk fv)) (hc:fj fv [] .fz=PD) (ha:∀s∈ks,s∈fk):Ff [bh c,dX n es,.lst (fr.map iD),dN,.lst (ks.map pD)]=PB (.sh,.tup [dic fk fv,iD kp]):=by
 unfold Ff;show aD (nZ rfl ?_);unfold La;change Wp (aq _ _ _ [] [fS (bh c),fS (dX n es),fS (.lst (fr.map iD)),fS dN,fS (.lst (ks.map pD)),PC,PC,PC,PC,PC,PC,PC,PC,PC]) _;show au (bC (B:=ψ6) (ds:=[iD fr.length]) rfl (e1 (aX (l:=fr) (f:=iD) (k:=.sh) rfl (.inl rfl))) rfl rfl (js w) rfl) rfl (by decide) ?_;show dM (ds:=[dic kk kv,iD kp]) (bC (B:=Fb) (ds:=[dX n es,.lst (fr.map iD)]) rfl (e2 (p:=(.sh,dX n es)) (q:=(.sh,.lst (fr.map iD))) rfl rfl) rfl rfl b rfl) ⟨rfl,rfl⟩ ?_;change Wp (aq _ _ _ [] [fS (bh c),fS (dX n es),fS (.lst (fr.map iD)),fS dN,fS (.lst (ks.map pD)),fS (iD (W fr.length)),fS (dic kk kv),fS (iD kp),PC,PC,PC,PC,PC,PC]) _;show au (bC (B:=Iw) (ds:=[bh c,dX n es,dN,dic kk kv,iD (W fr.length)]) rfl (ox (aB (a:=.var 0) (wv (r:=(.sh,bh c)) rfl (wv (e4 (p:=(.sh,dX n es)) (q:=(.sh,dN)) (u:=(.sh,dic kk kv)) (t:=(.sh,iD (W fr.length))) rfl rfl rfl rfl) rfl)))) rfl rfl (zg o j v) rfl) rfl (by decide) ?_;show au (x:=(.fr k0,.lst (ks.map pD))) (aD (du (aB (wv (r:=(Kd.sh,D.lst (ks.map pD))) rfl (aU (iH (.inl rfl))))))) rfl (by decide) ?_;change Wp (aq _ _ _ [] [fS (bh c),fS (dX n es),fS (.lst (fr.map iD)),fS dN,fS (.lst (ks.map pD)),fS (iD (W fr.length)),fS (dic kk kv),fS (iD kp),aW (dic kk kv),aW (.lst (ks.map pD)),PC,PC,PC,PC]) _;show cU (cb (gh (aJ rfl (dw rfl ⟨λ_ Z=>Z=[fS (bh c),fS (dX n es),fS (.lst (fr.map iD)),fS dN,fS (.lst (ks.map pD)),fS (iD (W fr.length)),fS (dic kk kv),fS (iD kp),aW (dic kk kv),aW (.lst (ks.map pD)),PC,PC,PC,PC],rfl,λi d Z hd _=>by simp at hd,λZ h=>?_⟩))));subst h;let g:kK (.fr k0) (dic fk fv)=PD:=hc;show au (iA (B:=wk) (ds:=[bh c,dic kk kv,.lst (ks.map pD),iD (W fr.length)]) rfl (e4 (p:=(.sh,bh c)) (q:=(.bo 8 k0,dic kk kv)) (u:=(.bo 9 k0,.lst (ks.map pD))) (t:=(.sh,iD (W fr.length))) rfl rfl rfl rfl) g rfl h33 rfl) rfl (by decide) ?_;change Wp (aq _ _ _ [] [fS (bh c),fS (dX n es),fS (.lst (fr.map iD)),fS dN,fS (.lst (ks.map pD)),fS (iD (W fr.length)),fS (dic kk kv),fS (iD kp),aW (dic kk kv),aW (.lst (ks.map pD)),PC,aW (dic fk fv),PC,PC]) _;show cV (z:=PF) (x:=(.sh,.non)) (eU (x:=PD) (CJ (k:=.sh) (fG (l:=ks) (f:=pD) (k:=.bo 9 k0) (hd:=.lst) (.inl rfl) rfl rfl (by lia) (λ_=>rfl) λs m=>eW ?_))) (λe=>by cases e) λ_=>?_
 ·rw[lR (k:=.sh) (k':=.bo 2 k0) (p:=s) (ks:=fk) (vs:=fv) rfl rfl,decide_eq_true (ha s m)]
 show cU (cb (gh (aJ rfl (dw rfl ⟨λ_ Z=>Z=[fS (bh c),fS (dX n es),fS (.lst (fr.map iD)),fS dN,fS (.lst (ks.map pD)),fS (iD (W fr.length)),fS (dic kk kv),fS (iD kp),aW (dic kk kv),aW (.lst (ks.map pD)),PC,aW (dic fk fv),PC,PC],rfl,λi d Z hd _=>by simp at hd,λZ h=>?_⟩))));subst h;show cR (dU (bY (dv rfl (wv (e1 (p:=(.sh,iD kp)) rfl) (dA rfl ⟨rfl,_,rfl,rfl⟩)))))
theorem zh(v kp:Nat):(v ^^^ v) &&& kp=0:=by rw[Nat.xor_self,Nat.zero_and]
theorem FE{c:Ci}{k:Nat}(h:Ok c){fr:List Nat}(hk:c.f+k<=c.n)(a:∀p∈fr,p<c.f+k):∀p∈fr,p<41:=λp b=>by
 have:=h.bn;have:=a p b
 lia
theorem uK{fk:List (Int×Int)}{fv:List D}{i j v kp:Nat}(c:aa U f Z=PB (kf,dic fk fv))(n:aa U a Z=PB (ka,pD p))(g:aa U b Z=PB (kb,pD q))(hk:aa U kx Z=PB (kk,iD kp))(d:fk.Nodup)(l:fk[i]?=PB p)(k:fv[i]?=PB (iD v))(m:fk[j]?=PB q)(h:fv[j]?=PB (iD v)) :
  aa U (.cmp .Eq (.bin .BitAnd (.bin .BitXor (.ix f a) (.ix f b)) kx) (.lit (.int 0))) Z=PB (.sh,.bl PD):=by
 let e:aa U (.bin .BitAnd (.bin .BitXor (.ix f a) (.ix f b)) kx) Z=PB (.sh,iD 0):=aD (bb (bb (wv (gC c n d l k) (wv (gC c g d m h) (lA (wv hk (yZ (by rw[zh]))))))));show eW (bR e rfl rfl)
theorem zi{c:Ci}{fr:List Nat}{fk:List (Int×Int)}{fv:List D}{i j v kp:Nat}(b:Ff [bh c,dX c.n es,.lst (fr.map iD),dN,.lst ([p,q].map pD)]=PB (.sh,.tup [dic fk fv,iD kp]))(o:fk.Nodup)(h:fk[i]?=PB p)(g:fv[i]?=PB (iD v))(m:fk[j]?=PB q)(f:fv[j]?=PB (iD v)) :
  CD [bh c,dX c.n es,.tup [pD p,pD q,.lst (fr.map iD),dN]]=PB (.sh,.bl PD):=by
 unfold CD;show eZ rfl ?_;unfold K7;generalize l:D.tup [pD p,pD q,.lst (fr.map iD),dN]=S;change Wp (aq _ _ _ [] [fS (bh c),fS (dX c.n es),fS S,PC,PC,PC,PC,PC,PC,PC]) _;show dM (ds:=[pD p,pD q,.lst (fr.map iD),dN]) (by rw[l];rfl) ⟨rfl,rfl⟩ ?_;change Wp (aq _ _ _ [] [fS (bh c),fS (dX c.n es),fS S,fS (pD p),fS (pD q),fS (.lst (fr.map iD)),fS dN,PC,PC,PC]) _;show au (bC (B:=Ff) (ds:=[bh c,dX c.n es,.lst (fr.map iD),dN,.lst ([p,q].map pD)]) rfl (ox (aB (a:=.var 0) (wv (r:=(.sh,bh c)) rfl (wv (e4 (p:=(.sh,dX c.n es)) (q:=(.sh,.lst (fr.map iD))) (u:=(.sh,dN)) (t:=(.fr k0,.lst ([p,q].map pD))) rfl rfl rfl (eX (kds:=[(.sh,pD p),(.sh,pD q)]) (e2 rfl rfl) ⟨rfl,by simp⟩)) rfl)))) rfl rfl b rfl) rfl (by decide) ?_;show cV (z:=PF) (x:=(.sh,.bl PF)) (uw (k:=.sh) (d:=.tup [dic fk fv,iD kp]) rfl) (λe=>by cases e) λ_=>?_;show dM (ds:=[dic fk fv,iD kp]) rfl ⟨rfl,rfl⟩ ?_;change Wp (aq _ _ _ [] [fS (bh c),fS (dX c.n es),fS S,fS (pD p),fS (pD q),fS (.lst (fr.map iD)),fS dN,fS (.tup [dic fk fv,iD kp]),fS (dic fk fv),fS (iD kp)]) _;show cc (uK (kf:=.sh) (ka:=.sh) (kb:=.sh) (kk:=.sh) (fk:=fk) (fv:=fv) (v:=v) (kp:=kp) rfl rfl rfl rfl o h g m f) rfl (fF rfl rfl)
theorem FF{c:Ci}(h:Ok c)(es:List D){k:Nat}{g:Nat×List Nat}(r:c.gates[k]?=PB g):CD [bh c,dX c.n es,lS (c.f+k) g.2]=PB (.sh,.bl PD):=by
 let hk:=(Mv.mp r).1;obtain⟨O,m⟩:=h.g k g r;let o:c.f+k<c.n:=by unfold Ci.n;lia
 obtain⟨kk,K,M,y,T⟩:=om (n:=c.n) es (fr:=g.2) (by lia) (λp a=>Og (m p a) o);let e:=T.box (FE h (by lia) m);let H:=T.le;let l:=T.len
 let b:∃col:Nat->Nat,∀p∈g.2,∀w,w<2->∃i:Nat,kk[i]?=PB (sp w p)/\K[i]?=PB (iD (col p)):=by
  show⟨λp=>if a:p∈g.2 then Classical.choose (T.all p a) else 0,λp a=>?_⟩
  dsimp only;rw[dif_pos a];show Classical.choose_spec (T.all p a)
 obtain⟨col,F⟩:=b
 let x:∀w,w<2->sp w (c.f+k)∉kk:=λw u z=>by
  have:=m _ ((T.mem u).mp z)
  lia
 obtain⟨v,t⟩:=v9 h (col:=col) (n:=g.2.length) r (by lia) T.nd e (by lia) (λw u p a=>F p a w u) x l;let A:=T.new (p:=c.f+k) (col:=v) (λz=>by have:=m _ z;lia);let q:=jw (c:=c) (n:=c.n) (es:=es) (ks:=[sp 0 (c.f+k),sp 1 (c.f+k)]) (by lia) y T.nd e (by lia) (by simp) t (iI (kk:=kk) A.int) (λs E=>MJ _ E);obtain⟨N,d⟩:=A.all (c.f+k) (by simp);obtain⟨i,L,C⟩:=d 0 (by decide);obtain⟨j,B,I⟩:=d 1 (by decide);show zi q A.nd L C B I
theorem FG{c:Ci}(h:Ok c)(es:List D){p:Nat}(z:Bool)(u:p<c.n):CD [bh c,dX c.n es,v6 z p [p]]=PB (.sh,.bl PD):=by
 let v:=h.bn;obtain⟨kk,kv,C,f,T⟩:=om (n:=c.n) es (fr:=[p]) (by simp) (λq g=>by rw[MY.mp g];show u);let a:=T.box (λq g=>by rw[MY.mp g];lia);let y:kk.length<=2:=T.le;let m:=T.len
 let e:∀b:Bool,b.toNat<2:=λb=>by cases b<;>decide
 let A:∀b:Bool,sp b.toNat p∈kk:=λb=>(T.mem (e b)).mpr (by simp)
 let hk:∀s∈[sp z.toNat p,sp (!z).toNat p],s∈kk:=λs l=>by
  simp only[MD,MS,or_false] at l
  rcases l with rfl|rfl<;>show A _
 let k:=dC .lst (.inl rfl) (c:=c) (kk:=kk) (kv:=kv) (ks:=[sp z.toNat p,sp (!z).toNat p]) (d3:=iD (W 1)) T.nd a (by lia) (by simp) hk;let d:=jw (c:=c) (n:=c.n) (es:=es) (fr:=[p]) (ks:=[sp z.toNat p,sp (!z).toNat p]) (by simp) f T.nd a (by lia) (by simp) k (iI (kk:=kk) T.int) hk;obtain⟨B,o⟩:=T.all p (by simp);obtain⟨i,x,r⟩:=o _ (e z);obtain⟨j,t,w⟩:=o _ (e (!z));show zi d T.nd x r t w
abbrev FH(c:Ci)(es:List D)(a b:Nat)(x7 W R B O q:Option Sl):Ro:=[fS (bh c),fS (dX c.n es),fS (lS a [b]),fS (pD (sp 0 a)),fS (pD (sp 1 a)),fS (.lst (([b]:List Nat).map iD)),fS dN,x7,W,R,B,O,q]
abbrev sj(a:Nat):D:=.lst (([0,1]:List Nat).map λw=>pD (sp w a))
theorem L9{w:Nat}(a:w∈[0,1]):w<2:=by
 simp only[MD,MS,or_false] at a
 lia
theorem BH{c:Ci}(h:Ok c)(es:List D){k:Nat}{m:Bool×Nat}(U:c.mems[k]?=PB m):Ix [bh c,dX c.n es,lS (c.ins+k) [m.2]]=PB (.sh,.bl PD):=by
 let hk:=(Mv.mp U).1;let N:=h.m m (MH U);let hi:=h.bn;let X:c.ins+k<c.f:=by unfold Ci.f;lia
 let hh:c.f<=c.n:=by unfold Ci.n;lia
 obtain⟨kk,kv,kp,R,T⟩:=om (n:=c.n) es (fr:=[m.2]) (by simp) (λp P=>by rw[MY.mp P];show N);let F:=T.box (λp P=>by rw[MY.mp P];lia);let K:=T.le;let Y:=T.len;let hg:kk.length<=2:=K
 let L:=dC .lst (.inl rfl) (c:=c) (kk:=kk) (kv:=kv) (ks:=[sp 0 m.2,sp 1 m.2]) (d3:=iD (W 1)) T.nd F (by lia) (by simp) (λs H=>by
  obtain⟨w,A,rfl⟩:=eR H;show(T.mem A).mpr (by simp))
 let I:=jw (c:=c) (n:=c.n) (es:=es) (fr:=[m.2]) (ks:=[sp 0 m.2,sp 1 m.2]) (by simp) R T.nd F (by lia) (by simp) L (iI (kk:=kk) T.int) (λs H=>by
  obtain⟨w,A,rfl⟩:=eR H;show(T.mem A).mpr (by simp))
 obtain⟨o,hc⟩:=T.all m.2 (by simp)
 let O:=dC .lst (.inl rfl) (c:=c) (kk:=[sp 0 (c.ins+k),sp 1 (c.ins+k)]) (kv:=[iD o,iD o]) (ks:=[sp 0 (c.ins+k),sp 1 (c.ins+k)]) (d3:=iD (W 1)) (ol _) (λq hq=>by
  obtain⟨w,A,rfl⟩:=eR hq;show⟨w,c.ins+k,A,by lia,rfl⟩) (by simp) (by simp) (λs H=>H)
 let Q:∀w,w<2->sp w (c.ins+k)∈oh c:=λw A=>mKs_mem.mpr ⟨A,by lia,X⟩;let E:∀{Z:Ro} {e:IE},aa U_16.fn e Z=PB (.sh,bh c)->aa U_16.fn (.fld "afters" e) Z=PB (.sh,dic (oh c) (I0 c)):=λM=>mO (k:=.sh) (n:=2) M rfl rfl
 let C:∀{Z:Ro} {e b:IE} {kb:Kd} {w:Nat},w<2->aa U_16.fn e Z=PB (.sh,bh c)->aa U_16.fn b Z=PB (kb,pD (sp w (c.ins+k)))->aa U_16.fn (.ix (.fld "afters" e) b) Z=PB (.sh,pD (sp w m.2)):=λ{Z e b kb w} A M hb=>by
  obtain⟨i,S,_,i3⟩:=LD A U;show gC (E M) hb (oj c) S i3
 generalize hA:c.ins+k=a at *
 let s0:aq U_16 1000 (bq CC 5) [] [fS (bh c),fS (dX c.n es),fS (lS a [m.2]),PC,PC,PC,PC,PC,PC,PC,PC,PC,PC]=PB (.nx (FH c es a m.2 (aW (sj a)) (fS (.tup [dic kk kv,iD kp])) (fS (dic kk kv)) (fS (iD kp)) PC PC)):=by
  show ox ?_;unfold CC bq bq bq bq bq bq;show dM (ds:=[pD (sp 0 a),pD (sp 1 a),.lst (([m.2]:List Nat).map iD),dN]) rfl ⟨rfl,rfl⟩ ?_;change Wp (aq _ _ _ [] (FH c es a m.2 PC PC PC PC PC PC)) _;show au (x:=(.fr k0,sj a)) (Jd (l:=[0,1]) (f:=λw=>pD (sp w a)) (g:=λw=>pD (sp w a)) (k:=.fr k0) (hd:=.lst) (.inl rfl) (bC (B:=Bs) (ds:=[bh c,dic [] [],.lst ([sp 0 a,sp 1 a].map pD)]) rfl (e3 (p:=(.sh,bh c)) (q:=(.fr k0,dic [] [])) (u:=(.fr k0,.lst ([sp 0 a,sp 1 a].map pD))) rfl rfl (eX (kds:=[(.sh,pD (sp 0 a)),(.sh,pD (sp 1 a))]) (e2 rfl rfl) ⟨rfl,by simp⟩)) rfl rfl (mR .lst (.inl rfl) X) rfl) rfl (by simp) (λ_=>rfl) (λw A=>?_) λw A=>wv rfl ⟨rfl,rfl⟩) rfl (by decide) ?_
  ·rw[lR (k:=.sh) (p:=sp w a) rfl (E (e:=.var 2) rfl),decide_eq_true (Q w (L9 A))]
  change Wp (aq _ _ _ [] (FH c es a m.2 (aW (sj a)) PC PC PC PC PC)) _;show au (bC (B:=Ff) (ds:=[bh c,dX c.n es,.lst (([m.2]:List Nat).map iD),dN,.lst ([sp 0 m.2,sp 1 m.2].map pD)]) rfl (ox (aB (a:=.var 0) (wv (r:=(.sh,bh c)) rfl (wv (e4 (p:=(.sh,dX c.n es)) (q:=(.sh,.lst (([m.2]:List Nat).map iD))) (u:=(.sh,dN)) (t:=(.fr k0,.lst (([0,1]:List Nat).map λw=>pD (sp w m.2)))) rfl rfl rfl (iC (k:=.bo 7 k0) (hd:=.lst) (l:=[0,1]) (f:=λw=>pD (sp w a)) (g:=λw=>pD (sp w m.2)) (.inl rfl) rfl rfl (by simp) λw A=>v3 rfl (wv (C (L9 A) rfl rfl) ⟨_,rfl,rfl⟩))) rfl)))) rfl rfl I rfl) rfl (by decide) ?_;show cV (z:=PF) (x:=(.sh,.bl PF)) (uw (k:=.sh) (d:=.tup [dic kk kv,iD kp]) rfl) (λe=>by cases e) λ_=>?_;show dM (ds:=[dic kk kv,iD kp]) rfl ⟨rfl,rfl⟩ ?_;show a7 rfl
 let s1:Fg (FH c es a m.2 (aW (sj a)) (fS (.tup [dic kk kv,iD kp])) (fS (dic kk kv)) (fS (iD kp)) PC PC)=PB (.nx (FH c es a m.2 (aW (sj a)) (fS (.tup [dic kk kv,iD kp])) (fS (dic kk kv)) (fS (iD kp)) (aW (dic [sp 0 a,sp 1 a] [iD o,iD o])) PC)):=by
  let V:∀w,w<2->gJ (.nm 1) (λ_=>PB PD) (aa U_16.fn (.var 1)) (aa U_16.fn (.ix (.var 2) (.ix (.fld "afters" (.var 3)) (.var 1)))) [PC,PC,fS (dic kk kv),fS (bh c)] (pD (sp w a))=PB (PB (pD (sp w a),iD o)):=λw A=>by
   obtain⟨i,S,i2⟩:=hc w A;let e:aa U_16.fn (.ix (.var 2) (.ix (.fld "afters" (.var 3)) (.var 1))) [PC,fS (pD (sp w a)),fS (dic kk kv),fS (bh c)]=PB (.sh,iD o):=gC (k:=.sh) (p:=sp w m.2) (ks:=kk) (vs:=kv) rfl (C A rfl rfl) T.nd S i2
   change(match aa U_16.fn (.ix (.var 2) (.ix (.fld "afters" (.var 3)) (.var 1))) [PC,fS (pD (sp w a)),fS (dic kk kv),fS (bh c)] with|some y=>if qR y.1 y.2=PD then PB (PB (pD (sp w a),y.2)) else PC|none=>PC)=_
   rw[e];rfl
  let z0:vM 1 ([],[]) (pD (sp 0 a)) (iD o)=PB ([pk (sp 0 a)],[iD o]):=rfl
  let z1:vM 1 ([pk (sp 0 a)],[iD o]) (pD (sp 1 a)) (iD o)=PB ([pk (sp 0 a),pk (sp 1 a)],[iD o,iD o]):=by
   change(match aR ([sp 0 a].map pk) (pk (sp 1 a)) with|some j=>if [pk (sp 0 a)].Nodup then PB ([pk (sp 0 a)],[iD o].set j (iD o)) else PC|none=>PB ([pk (sp 0 a)]++[pk (sp 1 a)],[iD o]++[iD o]))=_
   rw[p6 (λz=>by
    have:=(bS (MY.mp z)).1
    lia)]
   rfl
  let e:eO 1 (PB ([7],[pD (sp 0 a),pD (sp 1 a)])) (gJ (.nm 1) (λ_=>PB PD) (aa U_16.fn (.var 1)) (aa U_16.fn (.ix (.var 2) (.ix (.fld "afters" (.var 3)) (.var 1)))) [PC,PC,fS (dic kk kv),fS (bh c)])=PB (.fr k0,dic [sp 0 a,sp 1 a] [iD o,iD o]):=by
   unfold eO;dsimp only;rw[if_pos (by simp),eA,V 0 (by decide)];dsimp only;rw[z0];dsimp only;rw[eA,V 1 (by decide)];dsimp only;rw[z1];rfl
  change fy [] 11 (wj (eO 1 (PB ([7],[pD (sp 0 a),pD (sp 1 a)])) (gJ (.nm 1) (λ_=>PB PD) (aa U_16.fn (.var 1)) (aa U_16.fn (.ix (.var 2) (.ix (.fld "afters" (.var 3)) (.var 1)))) [PC,PC,fS (dic kk kv),fS (bh c)])) _)=_;rw[e];rfl
 let s2:Wp (aq U_16 1000 (br CC 6) [] (FH c es a m.2 (aW (sj a)) (fS (.tup [dic kk kv,iD kp])) (fS (dic kk kv)) (fS (iD kp)) (aW (dic [sp 0 a,sp 1 a] [iD o,iD o])) PC)) λr=>Wp (gg (PB r)) λx=>x=(.sh,.bl PD):=by
  unfold CC br br br br br br br;show au (iA (B:=wk) (ds:=[bh c,dic [sp 0 a,sp 1 a] [iD o,iD o],.lst ([sp 0 a,sp 1 a].map pD),iD (W 1)]) rfl (e4 (p:=(.sh,bh c)) (q:=(.bo 11 k0,dic [sp 0 a,sp 1 a] [iD o,iD o])) (u:=(.fr k0,.lst ([sp 0 a,sp 1 a].map pD))) (t:=(.sh,iD (W 1))) rfl rfl (eX (kds:=[(.sh,pD (sp 0 a)),(.sh,pD (sp 1 a))]) (e2 rfl rfl) ⟨rfl,by simp⟩) (bC (B:=ψ6) (ds:=[iD 1]) rfl (e1 (aX (l:=[m.2]) (f:=iD) (k:=.sh) rfl (.inl rfl))) rfl rfl (js (by decide)) rfl)) rfl rfl O rfl) rfl (by decide) ?_;change Wp (aq _ _ _ [] (FH c es a m.2 (aW (sj a)) (fS (.tup [dic kk kv,iD kp])) (fS (dic kk kv)) (fS (iD kp)) (aW (dic [sp 0 a,sp 1 a] [iD o,iD o])) (aW (dic [sp 0 a,sp 1 a] [iD o,iD o])))) _;show cc (uK (kf:=.bo 12 k0) (ka:=.sh) (kb:=.sh) (kk:=.sh) (fk:=[sp 0 a,sp 1 a]) (fv:=[iD o,iD o]) (i:=0) (j:=1) (v:=o) (kp:=kp) rfl rfl rfl rfl (ol a) rfl rfl rfl rfl) rfl (fF rfl rfl)
 obtain⟨r,e,x,ex,rfl⟩:=s2;unfold Ix jP;rw[if_pos (by rfl)];change gg (vV [fS (bh c),fS (dX c.n es),fS (lS a [m.2]),PC,PC,PC,PC,PC,PC,PC,PC,PC,PC])=_
 let eb:vV [fS (bh c),fS (dX c.n es),fS (lS a [m.2]),PC,PC,PC,PC,PC,PC,PC,PC,PC,PC]=PB r:=by
  unfold vV;rw[s0];dsimp only[cm];rw[s1];dsimp only;rw[e]
 rw[eb,ex]
theorem zj{α:Type}(l:List α)(f:α->D):q8 (PB (.sh,.lst (l.map f))) (PB (.sh,.lst (l.map f)))=PB ([],l.map λa=>.tup [f a,f a]):=by
 change PB (([]:List Nat),kJ (l.map f) (l.map f))=_;unfold kJ;rw[Pv,List.zipWith_self]
theorem Jf{α β:Type}(l:List α)(F:Nat->β):(l.zipIdx.map λp=>F p.2)=(Na l.length).map F:=by
 show Ol λi=>?_;rw[MA,MA,Oz]
 cases e:l[i]? with
 |none=>
  have:=NR.mp e;rw[Np (by rw[N5];show this)];rfl
 |some a=>
  have:=(Mv.mp e).1;rw[No this];simp
abbrev uL(z:Bool)(p:Nat):D:=.tup [pD (sp z.toNat p),pD (sp (!z).toNat p)]
def zk(ex:List Nat):List D:=(BB ex).map λt=>uL t.1 t.2.1
def lU(c:Ci)(ex:List Nat):List D:=(Na c.n).map gO++zk ex
def wn(c:Ci)(ex:List Nat)(e:Nat):D:=(lU c ex).getD e .non
theorem BI(c:Ci)(ex:List Nat):(Na c.ins).map gO++(uF c++oa c ex).map (λt=>uL t.1 t.2.1)=lU c ex:=by
 unfold lU uF oa Ci.n;rw[MU,MU,MV,MV,show((λt:St=>uL t.1 t.2.1)∘λp:(Bool×Nat)×Nat=>(PF,c.ins+p.2,[p.1.2]))=λp=>(λi=>gO (c.ins+i)) p.2 from rfl,show((λt:St=>uL t.1 t.2.1)∘λp:(Nat×List Nat)×Nat=>(PF,c.f+p.2,p.1.2))=λp=>(λi=>gO (c.f+i)) p.2 from rfl,Jf c.mems (λi=>gO (c.ins+i)),Jf c.gates (λi=>gO (c.f+i)),List.range_add (n:=c.f),MU,MV];unfold Ci.f;rw[List.range_add (n:=c.ins),MU,MV,M7,M7];rfl
theorem zl{p:Nat}(z:Bool):∀{ex:List Nat} {j:Nat},ex[j]?=PB p->(BB ex)[2*j+z.toNat]?=PB (z,p,[p])
 |q::ex,0,h=>by
  cases h
  cases z<;>rfl
 |q::ex,j+1,h=>by
  rw[show 2*(j+1)+z.toNat=2*j+z.toNat+2 by lia];show zl z (ex:=ex) h
theorem uM{c:Ci}{e:Nat}(h:e<c.n):(lU c ex)[e]?=PB (gO e):=by
 unfold lU;rw[MP (by simpa using h),MA,No h];rfl
theorem ot{c:Ci}{ex:List Nat}{j p:Nat}(z:Bool)(h:ex[j]?=PB p):(lU c ex)[c.n+(2*j+z.toNat)]?=PB (uL z p):=by
 unfold lU zk;rw[MZ (by simp),MA,My,N5,Nm,zl z h];rfl
theorem uN{c:Ci}{e:Nat}(h:e<c.m ex):(lU c ex)[e]?=PB (wn c ex e)/\∃z p,wn c ex e=uL z p:=by
 suffices w:∃z p,(lU c ex)[e]?=PB (uL z p) by
  obtain⟨z,p,w⟩:=w;have:wn c ex e=uL z p:=by unfold wn;rw[NQ,w];rfl
  show⟨by rw[w,this],z,p,this⟩
 by_cases b:e<c.n
 ·show⟨PF,e,uM b⟩
 ·unfold Ci.m at h;let a:(e-c.n) / 2<ex.length:=by lia
  rcases Ob (e-c.n) with m|m
  ·show⟨PF,_,by rw[show e=c.n+(2*((e-c.n) / 2)+false.toNat) by change _=c.n+(2*_+0);lia];show ot PF (MF a)⟩
  ·show⟨PD,_,by rw[show e=c.n+(2*((e-c.n) / 2)+true.toNat) by change _=c.n+(2*_+1);lia];show ot PD (MF a)⟩
theorem ou{l:List D}(h:∀d∈l,∃z p,d=uL z p):d9 90 (.lst l)=PD:=by
 change(decide (1<=90)&&g7 89 l)=PD;rw[iy λd a=>?_]
 ·rfl
 ·obtain⟨z,p,rfl⟩:=h d a;rfl
abbrev Jy(c:Ci)(ex q:List Nat)(R O B:Option Sl):Ro:=[fS (cD c),fS (cD c),fS (bO c ex q),fS dN,fS (hD c),fS (lD c ex),fS (nD q),R,O,B]
abbrev gS(c:Ci):Option Sl:=PB ⟨PF,kG,bh c⟩
theorem mS{c:Ci}{ex b:List Nat}(h:Ok c)(r:LC c ex b):r6 [cD c,cD c,bO c ex b]=PB (.sh,.bl (gx (.lst (b.map (wn c ex))) (.lst (c.outs.map gO)))):=by
 let P:=h.bi;let M:=h.bm;let Q:=h.bg;let O:=h.bo;let K:=r.xl;let L:=r.nl;let v:=y8 c;let A:=sg c ex
 let two:∀{Z:Ro} {e y:IE} {k:Nat},aa U_36.fn e Z=PB (.sh,iD k)->aa U_36.fn y Z=PB (.sh,iD k)->aa U_36.fn (.tup .fz (.cons (.tup .fz (.cons (.lit (.int 0)) (.cons e .nil))) (.cons (.tup .fz (.cons (.lit (.int 1)) (.cons y .nil))) .nil))) Z=PB (.sh,gO k):=λ{Z e y k} s w=>
  fH (kds:=[(.sh,pD (sp 0 k)),(.sh,pD (sp 1 k))]) (e2 (eS rfl s) (eS rfl w)) ⟨rfl,by simp⟩
 unfold r6;show eZ rfl ?_;unfold Jw;change Wp (aq _ _ _ [] [fS (cD c),fS (cD c),fS (bO c ex b),PC,PC,PC,PC,PC,PC,PC]) _;let j:∀{Z:Ro} {e:IE} (n:Nat) d,aa U_36.fn e Z=PB (.sh,cD c)->[iD c.ins,D.lst (c.mems.map bu),.lst (c.gates.map aC),.lst (c.outs.map iD)][n]?=PB d->aa U_36.fn (.ix e (.lit (.int (n:Int)))) Z=PB (.sh,d):=λn d s h=>bK (k:=.sh) (k':=.sh) (n:=n) s rfl (.inr rfl) rfl h;show cV (z:=(!PD)||!PD) (x:=(.sh,.bl PF)) (n5 ((Bu (j 0 _ rfl rfl) (j 0 _ rfl rfl)).trans (by rw[decide_eq_true rfl])) λ_=>eV ((Bu (aX (l:=c.outs) (f:=iD) (k:=.sh) (j 3 _ rfl rfl) (.inl rfl)) (aX (l:=c.outs) (f:=iD) (k:=.sh) (j 3 _ rfl rfl) (.inl rfl))).trans (by rw[decide_eq_true rfl]))) (λe=>by cases e) λ_=>?_;show cV (z:=!PD) (x:=(.sh,.bl PF)) (eU (vZ (k:=.sh) (bC (B:=Ir) (p:=(.sh,.bl PD)) (ds:=[cD c,cD c,bO c ex b]) rfl (e3 (p:=(.sh,cD c)) (q:=(.sh,cD c)) (u:=(.sh,bO c ex b)) rfl rfl rfl) rfl rfl (y9 h r) rfl))) (λe=>by cases e) λ_=>?_;show dM (ds:=[dN,hD c,lD c ex,nD b]) rfl ⟨rfl,rfl⟩ ?_;change Wp (aq _ _ _ [] (Jy c ex b PC PC PC)) _;show au (bC (B:=Iz) (ds:=[cD c,cD c,dN]) rfl (e3 (p:=(.sh,cD c)) (q:=(.sh,cD c)) (u:=(.sh,dN)) rfl rfl rfl) rfl rfl (v7 h) rfl) rfl (by decide) ?_;change Wp (aq _ _ _ [] (Jy c ex b (gS c) PC PC)) _;show au (x:=(.fr k0,dX c.n (zk ex))) ((lx (k:=.fr k0) (k':=.fr k0) (xs:=(Na c.ins).map gO) (ys:=(uF c++oa c ex).map λt=>uL t.1 t.2.1) ⟨rfl,rfl,by simp[v,A];lia⟩ (IQ (k:=.sh) (j 0 _ rfl rfl) (by lia) λi _=>v3 rfl (wv (two rfl rfl) ⟨_,rfl,rfl⟩)) (iC (l:=uF c++oa c ex) (f:=ju) (k:=.fr bQ) (hd:=.lst) (.inl rfl) ((lx (k:=.sh) (k':=.sh) ⟨rfl,rfl,by simp[v,A];lia⟩ rfl rfl).trans (by rw[MU])) rfl (by simp[v,A];lia) λq C=>v3 rfl (wv (uE (n:=2) (xs:=[pD (sp q.1.toNat q.2.1),pD (sp (!q.1).toNat q.2.1),.lst (q.2.2.map iD),dN]) rfl (by simp)) ⟨_,rfl,rfl⟩))).trans (by rw[BI];rfl)) rfl (by decide) ?_;change Wp (aq _ _ _ [] (Jy c ex b (gS c) (aW (dX c.n (zk ex))) PC)) _;show au (x:=(.fr k0,.lst (c.outs.map gO))) (aD (dL (ue (wv (j 3 _ rfl rfl) (wv (j 3 _ rfl rfl) (wv (zj c.outs iD) ⟨by simp;lia,(ly (f:=λo=>.tup [iD o,iD o]) (g:=gO) λo E=>CK rfl (wv (two rfl rfl) ⟨_,rfl,rfl⟩)).mono λys e=>by rw[e]⟩)))))) rfl (by decide) ?_;change Wp (aq _ _ _ [] (Jy c ex b (gS c) (aW (dX c.n (zk ex))) (aW (.lst (c.outs.map gO))))) _;generalize H:gx (.lst (b.map (wn c ex))) (.lst (c.outs.map gO))=x
 show cc (x:=(.sh,.bl (x&&(PD&&(PD&&(PD&&PD)))))) (dB (eW (bR (iC (k:=.sh) (hd:=.lst) (l:=b) (f:=iD) (g:=wn c ex) (.inl rfl) rfl rfl (by lia) λo E=>v3 rfl (wv (bK (k:=.bo 2 k0) (k':=.sh) (n:=o) (hd:=.lst) (xs:=lU c ex) rfl rfl (.inl rfl) rfl (uN (r.nb o E)).1) ⟨_,rfl,rfl⟩)) rfl ?_)) λ_=>dB (x:=PD) (fG (l:=uF c) (f:=ju) (k:=.sh) (.inl rfl) rfl rfl (by lia) (λ_=>rfl) λp a=>?_) λ_=>dB (x:=PD) (fG (l:=uF c) (f:=ju) (k:=.sh) (.inl rfl) rfl rfl (by lia) (λ_=>rfl) λp a=>?_) λ_=>dB (x:=PD) (fG (l:=oa c ex) (f:=ju) (k:=.sh) (.inl rfl) rfl rfl (by lia) (λ_=>rfl) λp a=>?_) λ_=>iB (fG (l:=uF c) (f:=ju) (k:=.sh) (.inl rfl) rfl rfl (by lia) (λ_=>rfl) λp a=>?_)) rfl (fF rfl (by cases x<;>rfl))
 ·rw[<- H]
  show if_pos ⟨ou λd hd=>by
   obtain⟨e,s,rfl⟩:=Nd.mp hd;show(uN (r.nb e s)).2,ou λd hd=>by
   obtain⟨e,s,rfl⟩:=Nd.mp hd;show⟨PF,e,rfl⟩⟩
 ·obtain⟨k,m,e,rfl⟩:=oe a;let N:=(Mv.mp e).1;show iA (B:=Iu) (p:=(.sh,.bl PD)) (ds:=[bh c,lS (c.ins+k) [m.2]]) rfl (e2 (p:=(.bo 3 kG,bh c)) (q:=(.sh,lS (c.ins+k) [m.2])) rfl rfl) rfl rfl (ze (by lia) (by unfold Ci.f;lia)) rfl
 ·obtain⟨k,m,e,rfl⟩:=oe a;show iA (B:=Iv) (p:=(.sh,.bl PD)) (ds:=[bh c,lS (c.ins+k) [m.2]]) rfl (e2 (p:=(.bo 3 kG,bh c)) (q:=(.sh,lS (c.ins+k) [m.2])) rfl rfl) rfl rfl (zf h e) rfl
 ·obtain⟨i,e⟩:=Ou.mp a
  let F:CD [bh c,dX c.n (zk ex),ju p]=PB (.sh,.bl PD):=by
   rcases CT e with⟨g,I,rfl⟩|⟨_,z,q,C,rfl⟩
   ·have:=FF h (zk ex) I;show this
   ·show FG h _ z (r.xb q C)
  show iA (B:=CD) (p:=(.sh,.bl PD)) (ds:=[bh c,dX c.n (zk ex),ju p]) rfl (e3 (p:=(.bo 3 kG,bh c)) (q:=(.bo 4 k0,dX c.n (zk ex))) (u:=(.sh,ju p)) rfl rfl rfl) rfl rfl F rfl
 ·obtain⟨k,m,e,rfl⟩:=oe a;show iA (B:=Ix) (p:=(.sh,.bl PD)) (ds:=[bh c,dX c.n (zk ex),lS (c.ins+k) [m.2]]) rfl (e3 (p:=(.bo 3 kG,bh c)) (q:=(.bo 4 k0,dX c.n (zk ex))) (u:=(.sh,lS (c.ins+k) [m.2])) rfl rfl rfl) rfl rfl (BH h _ e) rfl
theorem fZ{c a:Ci}(h:c.ins≠a.ins\/c.outs.length≠a.outs.length):r6 [cD c,cD a,d]=PB (.sh,.bl PF):=by
 unfold r6;show eZ rfl ?_;unfold Jw;change Wp (aq _ _ _ [] [fS (cD c),fS (cD a),fS d,PC,PC,PC,PC,PC,PC,PC]) _;show cV (z:=PD) (x:=(.sh,.bl PF)) ((n5 (Bu (bK (k:=.sh) (k':=.sh) (n:=0) (hd:=.tup) (xs:=[iD c.ins,.lst (c.mems.map bu),.lst (c.gates.map aC),.lst (c.outs.map iD)]) rfl rfl (.inr rfl) rfl rfl) (bK (k:=.sh) (k':=.sh) (n:=0) (hd:=.tup) (xs:=[iD a.ins,.lst (a.mems.map bu),.lst (a.gates.map aC),.lst (a.outs.map iD)]) rfl rfl (.inr rfl) rfl rfl)) λ_=>eV (Bu (aX (l:=c.outs) (f:=iD) (k:=.sh) (bK (k:=.sh) (k':=.sh) (n:=3) (hd:=.tup) (xs:=[iD c.ins,.lst (c.mems.map bu),.lst (c.gates.map aC),.lst (c.outs.map iD)]) rfl rfl (.inr rfl) rfl rfl) (.inl rfl)) (aX (l:=a.outs) (f:=iD) (k:=.sh) (bK (k:=.sh) (k':=.sh) (n:=3) (hd:=.tup) (xs:=[iD a.ins,.lst (a.mems.map bu),.lst (a.gates.map aC),.lst (a.outs.map iD)]) rfl rfl (.inr rfl) rfl rfl) (.inl rfl)))).trans ?_) (λ_=>⟨rfl,rfl,fF rfl rfl⟩) λe=>by cases e
 have:(!decide ((c.ins:Int)=a.ins)||!decide ((c.outs.length:Int)=a.outs.length))=PD:=by
  simp only[NE,NF,decide_eq_false_iff_not]
  lia
 rw[this]
noncomputable abbrev kS:Ow:=.own [.own [] .fz] .fz
abbrev qm(ds:List Int)(t k:Int):D:=.lst [.lst (ds.map D.int),.int t,.int k]
structure Stt(n:Nat)(d:D):Prop where
 ex:∃(ds:List Int) (t k:Int),d=qm ds t k/\(∀x∈ds,0<=x)/\ds.length<=63/\0<=t/\t<1000000000000000009/\0<=k/\k<=n
theorem Stt.mono{n m:Nat}(h:Stt n d)(l:n<=m):Stt m d:=by
 obtain⟨i,t,k,e,f,g,a,b,c,j⟩:=h.ex;show⟨i,t,k,e,f,g,a,b,c,by lia⟩
abbrev sS(d:D):Option Sl:=PB ⟨PF,kS,d⟩
section
variable {U:Nat->Option Fn} {Z:Ro} {a b:IE} {k k':Kd} {i j:Int}
theorem fI(h:i.natAbs<lim/\j.natAbs<lim)(d:aa U a Z=PB (k,.int i))(c:aa U b Z=PB (k',.int j)):aa U (.bin .Mult a b) Z=PB (.sh,.int (i*j)):=aD (bb (wv d (wv c (yD h rfl))))
theorem sn(h:0<j/\j.natAbs<lim)(d:aa U a Z=PB (k,.int i))(c:aa U b Z=PB (k',.int j)):aa U (.bin .FloorDiv a b) Z=PB (.sh,.int (i / j)):=aD (bb (wv d (wv c (uf h rfl))))
theorem bJ(i:Int):aa U (.lit (.int i)) Z=PB (.sh,.int i):=rfl
end
theorem bZ{z:Int}(h:z.natAbs<2^64):z.natAbs<lim:=Og h (by unfold lim;decide)
theorem jx(z m:Int)(a:0<m):0<=z%m/\z%m<m:=⟨Int.emod_nonneg z (by lia),Pl z a⟩
theorem zm(t k:Int)(a:0<=k)(h1:k<=100000):∃z:Int,Gm [.int t,.int k]=PB (.sh,.int z):=by
 suffices h:Wp (Gm [.int t,.int k]) λr=>∃z:Int,r=(.sh,.int z) by
  obtain⟨r,e,z,rfl⟩:=h;show⟨z,e⟩
 unfold Gm;show nZ rfl ?_;unfold Lf;let o:k*k<=100000*100000:=Int.mul_le_mul h1 h1 a (by decide);let d:0<=k*k:=Int.mul_nonneg a a;let m:2*k*k=2*(k*k):=Int.mul_assoc 2 k k;obtain⟨q,l⟩:=jx t 2147483647 (by decide);change Wp (aq _ _ _ [] [fS (.int t),fS (.int k),PC]) _;show au (iz (by decide) (bt (bt (fI ⟨bZ (by lia),bZ (by lia)⟩ (iz (by decide) rfl (bJ 2147483647)) (bt (bJ 48271) (fI ⟨bZ (by lia),bZ (by lia)⟩ (fI ⟨by decide,bZ (by lia)⟩ (bJ 2) rfl) rfl))) (fI ⟨by decide,bZ (by lia)⟩ (bJ 7919) rfl)) (bJ 12345)) (bJ 2147483629)) rfl (by decide) ?_;obtain⟨b0,b1⟩:=jx (t%2147483647*(48271+2*k*k)+7919*k+12345) 2147483629 (by decide);generalize (t%2147483647*(48271+2*k*k)+7919*k+12345)%2147483629=y at b0 b1⊢;change Wp (aq _ _ _ [] [fS (.int t),fS (.int k),fS (.int y)]) _;show au (sn ⟨by decide,by decide⟩ (iz (by decide) (fI ⟨bZ (by lia),bZ (by lia)⟩ rfl rfl) (bJ 2147483587)) (bJ 3)) rfl (by decide) ?_;obtain⟨b,n⟩:=jx (y*y) 2147483587 (by decide);let g:0<=y*y%2147483587 / 3:=Int.ediv_nonneg b (by decide);let c:y*y%2147483587 / 3<2147483587:=by lia
 generalize y*y%2147483587 / 3=x at g c⊢;change Wp (aq _ _ _ [] [fS (.int t),fS (.int k),fS (.int x)]) _;obtain⟨i,f⟩:=jx (x*69621+16807*k+1) 2147483579 (by decide);obtain⟨p,j⟩:=jx x 65521 (by decide);show cc (sn ⟨by decide,by decide⟩ (iz (by decide) (fI ⟨bZ (by lia),bZ (by lia)⟩ (iz (by decide) (bt (bt (fI ⟨bZ (by lia),by decide⟩ rfl (bJ 69621)) (fI ⟨by decide,bZ (by lia)⟩ (bJ 16807) rfl)) (bJ 1)) (bJ 2147483579)) (bt (iz (by decide) rfl (bJ 65521)) (bJ 1))) (bJ 2147483563)) (bJ 5)) rfl (eD rfl ⟨_,rfl⟩)
theorem BJ{Q:Kd×D×Ro->Prop}(q:Q (.sh,.int x,sS (qm ds t k)::Z')):Wp (bp U (.mut "pop" (.ix (.nm 0) (.lit (.int 0))) (.cons (.lit (.int 0)) .nil)) (sS (qm (x::ds) t k)::Z')) Q:=by
 show⟨_,?_,q⟩;rw[j0,aZ,aZ,tf];change iq "pop" 0 (rC U.fn (.ix (.nm 0) (.lit (.int 0))) (sS (qm (x::ds) t k)::Z')) (PB [(.sh,.int 0)]) (sS (qm (x::ds) t k)::Z')=_;let b:rC U.fn (.ix (.nm 0) (.lit (.int 0))) (sS (qm (x::ds) t k)::Z')=PB (k0,.lst ((x::ds).map D.int),λz=>.lst [z,.int t,.int k]):=rfl;rw[b];let a:seqIndex? 0 (D.int x::ds.map D.int).length=PB 0:=by unfold seqIndex?;simp
 have:ji "pop" [] .fz (.int x::ds.map D.int) [(.sh,.int 0)]=PB (.int x,ds.map D.int):=by
  change(if e7 (.own [] .fz)=PD/\-(2^63)<=(0:Int)/\(0:Int)<2^63 then(match seqIndex? 0 (D.int x::ds.map D.int).length with|some j=>((D.int x::ds.map D.int)[j]?).map λy=>(y,(D.int x::ds.map D.int).eraseIdx j)|none=>PC) else PC)=_
  rw[if_pos ⟨rfl,by decide,by decide⟩,a];rfl
 unfold iq;dsimp only;rw[show ji "pop" [] .fz ((x::ds).map D.int) [(.sh,.int 0)]=PB (.int x,ds.map D.int) from this];rfl
theorem uO{n:Nat}{d:D}{m:Nat}{Q:Kd×D×List (Option kW)->Prop}(h:Stt n d)(O:n<=1000)(S:0<m)(A:m<2^64)(q:∀(r:Nat) d',r<m->Stt (n+1) d'->Q (.sh,iD r,[PB (kS,d'),PC])):Wp (Gn [(kS,d),(.fz,iD m)]) Q:=by
 let N:((m:Nat):Int).natAbs<lim:=by
  rw[Pi];show Og A (by unfold lim;decide)
 let F:∀z:Int,∃r:Nat,z%(m:Int)=(r:Int)/\r<m:=λz=>by
  let T:=Int.emod_nonneg z (show(m:Int)≠0 by lia);let R:=Pl z (show(0:Int)<(m:Int) by lia);show⟨(z%(m:Int)).toNat,by lia,by lia⟩
 obtain⟨ds,t,k,rfl,f,p,I,H,w,P⟩:=h.ex;unfold Gn;show Bl rfl ?_;unfold Im;change Wp (aq _ _ _ [0] [sS (qm ds t k),fS (iD m),PC]) _;show CM (λj Z=>∃ds:List Int,ds.length=j/\(∀x∈ds,0<=x)/\ds.length<=63/\Z=[sS (qm ds t k),fS (iD m),PC]) (m0:=ds.length) (by lia) ⟨ds,rfl,f,p,rfl⟩ λj Z M=>?_;obtain⟨ds,rfl,f,p,rfl⟩:=M;let l:∀{ds:List Int} {x2:Option Sl},aa U_22.fn (.ix (.var 0) (.lit (.int 0))) [sS (qm ds t k),fS (iD m),x2]=PB (.bo 0 k0,.lst (ds.map D.int)):=λ{ds x2}=>bK (k:=.bo 0 kS) (k':=.sh) (n:=0) (hd:=.lst) (xs:=[.lst (ds.map D.int),.int t,.int k]) rfl rfl (.inl rfl) rfl rfl
 let a:∀{ds:List Int} {x2:Option Sl},aO U_22.fn (.cmp .Gt (.blt "len" (.cons (.ix (.var 0) (.lit (.int 0))) .nil)) (.lit (.int 0))) [sS (qm ds t k),fS (iD m),x2]=PB (decide (0<ds.length)):=λ{ds x2}=>by
  rw[Fo (k:=.sh) (k':=.sh) (mI (n:=ds.length) l (congrArg PB (My _))) (bJ 0)];congr 1;show decide_eq_decide.mpr (by lia)
 let b:∀{x:Int} {ds:List Int} {x2:Option Sl},aa U_22.fn (.ix (.ix (.var 0) (.lit (.int 0))) (.lit (.int 0))) [sS (qm (x::ds) t k),fS (iD m),x2]=PB (.sh,.int x):=λ{x ds x2}=>bK (k:=.bo 0 k0) (k':=.sh) (n:=0) (hd:=.lst) (xs:=(x::ds).map D.int) l rfl (.inl rfl) rfl rfl
 -- behind the loop
 let c:(ds=[]\/∃x r,ds=x::r/\x≠0)->Wp (aq U_22 1000 (br Im 1) [0] [sS (qm ds t k),fS (iD m),PC]) λr=>Wp (iu 2 [0] (PB r)) Q:=λK=>by
  unfold Im br br;rcases K with rfl|⟨x,ds,rfl,s⟩
  ·show jr (z:=PF) a (λe=>by cases e) λ_=>jK ?_;show pP (ce (wv (bt (k:=.sh) (k':=.sh) (i:=k) (j:=1) (bK (k:=.bo 0 kS) (k':=.sh) (n:=2) (hd:=.lst) (xs:=[.lst (([]:List Int).map D.int),.int t,.int k]) rfl rfl (.inl rfl) rfl rfl) rfl) (yI rfl (ba (lq rfl rfl rfl (lr (r:=(.lst,[.lst (([]:List Int).map D.int),.int t,.int (k+1)])) rfl ?_))))));obtain⟨z,L⟩:=zm t (k+1) (by lia) (by lia);obtain⟨r,e,v⟩:=F z;change Wp (aq _ _ _ [0] [sS (qm [] t (k+1)),fS (iD m),PC]) _;show cc (iz (by lia) (bC (B:=Gm) (ds:=[.int t,.int (k+1)]) rfl (e2 (bK (k:=.bo 0 kS) (k':=.sh) (n:=1) (hd:=.lst) (xs:=[.lst (([]:List Int).map D.int),.int t,.int (k+1)]) rfl rfl (.inl rfl) rfl rfl) (bK (k:=.bo 0 kS) (k':=.sh) (n:=2) (hd:=.lst) (xs:=[.lst (([]:List Int).map D.int),.int t,.int (k+1)]) rfl rfl (.inl rfl) rfl rfl)) rfl rfl L rfl) rfl) rfl (pR rfl ?_);change Q (.sh,.int (z%(m:Int)),_);rw[e]
   show q r _ v ⟨[],t,k+1,rfl,λx f=>(nomatch f),by simp,I,H,by lia,by lia⟩
  ·show jr (z:=PD) (a.trans (by rw[decide_eq_true (by simp)])) (λ_=>?_) λe=>by cases e
   obtain⟨r,e,v⟩:=F x;let u:=f x MX;let E:∀y∈ds,0<=y:=λy g=>f y (MK _ g);let C:0<=x / (m:Int):=Int.ediv_nonneg u (by lia);let o:=iz (U:=U_22.fn) (k:=.sh) (k':=.sh) (j:=(m:Int)) (by lia) (b (x:=x) (ds:=ds) (x2:=PC)) (show aa U_22.fn (.var 1) [sS (qm (x::ds) t k),fS (iD m),PC]=PB (.sh,.int m) from rfl);rw[e] at o;show au o rfl (by decide) ?_;change Wp (aq _ _ _ [0] [sS (qm (x::ds) t k),fS (iD m),fS (iD r)]) _;show pP (ce (wv (sn (k:=.sh) (k':=.sh) (i:=x) (j:=(m:Int)) ⟨by lia,N⟩ b rfl) (yI rfl (ba (lq rfl rfl rfl (lr (r:=(.lst,.int (x / (m:Int))::ds.map D.int)) ?_ ?_))))))
   ·change(match jL ((x::ds).map D.int).length 0 with|some j=>if bM .fz (.sh,.int (x / (m:Int)))=PD then PB (Hd.lst,((x::ds).map D.int).set j (.int (x / (m:Int)))) else PC|none=>PC)=_
    rw[ug (by decide) (by simp)];rfl
   ·change Wp (aq _ _ _ [0] [sS (qm (x / (m:Int)::ds) t k),fS (iD m),fS (iD r)]) _;show cc (x:=(.sh,iD r)) rfl rfl (ul (pR rfl (q r _ v ⟨x / (m:Int)::ds,t,k,rfl,λy g=>?_,p,I,H,w,by lia⟩)));rcases MD.mp g with rfl|g
    ·show C
    ·show E y g
 rcases ds with _|⟨x,ds⟩
 ·show mF (wv (mJ (x:=PF) (y:=PD) a λe=>by cases e) ⟨λ_=>c (.inl rfl),λe=>by cases e⟩)
 ·by_cases s:x=0
  ·show mF (wv (mJ (x:=PD) (y:=PD) (a.trans (by rw[decide_eq_true (by simp)])) λ_=>eV ((p4 b (bJ 0)).trans (by rw[decide_eq_true s]))) ⟨λe=>(by cases e),λ_=>?_⟩);show jJ (BJ (a7 (.inl ⟨_,ds.length,.inl rfl,by simp,ds,rfl,λy g=>f y (MK _ g),by simp at p;lia,rfl⟩)))
  ·show mF (wv (mJ (x:=PD) (y:=PF) (a.trans (by rw[decide_eq_true (by simp)])) λ_=>eV ((p4 b (bJ 0)).trans (by rw[decide_eq_false s]))) ⟨λ_=>c (.inr ⟨x,ds,rfl,s⟩),λe=>by cases e⟩)
theorem jQ{U:GG}{Z:Ro}{i m n:Nat}{Q:Kd×D×Ro->Prop}(o:U.fm 23=PB Gn)(b:Z[i]?=PB (sS d))(h:Stt n d)(j:n<=1000)(c:aa U.fn e Z=PB (.sh,iD m))(l:0<m)(a:m<2^64)(q:∀(r:Nat) d',r<m->Stt (n+1) d'->Q (.sh,iD r,Z.set i (sS d'))):Wp (bp U (.io 23 (.ref i (.val (.p e) .nil))) Z) Q:=by
 show uj o (lp b (eP (ce (wv c ?_))));show⟨rfl,ln ⟨by simp[cJ],[(kS,d),(.fz,iD m)],?_,uO h j l a λr d' f g=>⟨rfl,rfl,q r d' f g⟩⟩⟩
 change(match Z[i]?,PB [((.fz:Ow),iD m)] with|some (PB ⟨PF,k,d⟩),PB ks=>PB ((k,d)::ks)|_,_=>PC)=_
 rw[b]
theorem CW{f:D->Option (Option KD)}(P:D->Prop):∀{ds:List D},(∀d∈ds,Wp (f d) λo=>o=PC\/∃a,o=PB a/\bM r a=PD/\P a.2)->Wp (aP r f ds) λys=>ys.length<=ds.length/\∀y∈ys,P y
 |[],_=>⟨[],rfl,Mz _,λy b=>by simp at b⟩
 |d::ds,h=>by
  obtain⟨ys,e1,k,c⟩:=CW P (ds:=ds) λx e=>h x (MK _ e);obtain⟨o,e2,j⟩:=h d MX;rcases j with rfl|⟨a,rfl,i,g⟩
  ·show⟨ys,by simp[aP,e1,e2],by simp;lia,c⟩
  ·show⟨a.2::ys,by simp[aP,e1,e2,i],by simp;lia,λy b=>?_⟩;rcases MD.mp b with rfl|b
   ·show g
   ·show c y b
theorem zn{ft:Ro->Option Bool}{a:Ro->Option KD}{Q:Option KD->Prop}(h1:pc tg d=PB ps)(h2:bX ps Z0=PD)(h:Wp (ft (setAll ps Z0)) λb=>(b=PD->Wp (a (setAll ps Z0)) λx=>Q (PB x))/\(b=PF->Q PC)):Wp (dS tg ft a Z0 d) Q:=by
 obtain⟨b,c,f,e⟩:=h
 cases b with
 |true=>show um h1 h2 c (f rfl)
 |false=>show⟨PC,by unfold dS;rw[h1];dsimp only;rw[if_pos h2,c],e rfl⟩
theorem zo{Q:KD->Prop}{i:Int}(q:Q (.sh,.int (if i<0 then -i else i))):Wp (eK "abs" [(k,.int i)]) Q:=⟨_,rfl,q⟩
theorem uP:∀{ys:List D},(∀y∈ys,∃z:Int,y=.int z/\0<=z)->∃zs:List Int,ys=zs.map D.int/\∀z∈zs,0<=z
 |[],_=>⟨[],rfl,λz b=>by simp at b⟩
 |y::ys,h=>by
  obtain⟨zs,rfl,b⟩:=uP (ys:=ys) λx a=>h x (MK _ a);obtain⟨z,rfl,c⟩:=h y MX;show⟨z::zs,rfl,λx a=>(MD.mp a).elim (λe=>e▸c) (b x)⟩
theorem uQ:aa U (.bin .Pow (.lit (.int 10)) (.lit (.int 18))) Z=PB (.sh,.int 1000000000000000000):=aD (bb (ba (ba (yE (by decide) rfl))))
theorem zq{ns:List Int}(o:ns.length<=63){Q:KD->Prop}(q:∀d,Stt 0 d->Q (.fr kS,d)):Wp (IA [.scr ns]) Q:=by
 unfold IA;show nZ rfl ?_;unfold Lg;change Wp (aq _ _ _ [] [fS (.scr ns),PC,PC]) _;show au (bJ 0) rfl (by decide) ?_;show cU (cb (gh (aJ rfl (yG ⟨λs Z=>∃(t:Int) (c:Option Sl),Z=[fS (.scr ns),fS (.int t),c]/\0<=t/\t<1000000000000000009,⟨0,PC,rfl,by decide,by decide⟩,λs d Z a b=>?_,λZ b=>?_⟩))))
 ·obtain⟨t,c,rfl,f,h⟩:=b;let a:(ns.map D.int)[s]?=PB d:=a;rw[MA] at a
  cases e:ns[s]? with
  |none=>rw[e] at a;cases a
  |some z=>
   rw[e] at a;cases a;show⟨[(2,.int z)],rfl,rfl,?_⟩;change Wp (aq _ _ _ [] [fS (.scr ns),fS (.int t),fS (.int z)]) _;obtain⟨m,i⟩:=jx (t*31+z) 1000000000000000009 (by decide);show au (iz (j:=1000000000000000009) (by decide) (bt (fI ⟨bZ (by lia),by decide⟩ rfl (bJ 31)) rfl) (bt uQ (bJ 9))) rfl (by decide) (a7 ⟨_,.inl rfl,_,_,rfl,m,i⟩)
 ·obtain⟨t,c,rfl,f,h⟩:=b;show cR (ce (rP (aB (dL (gh (aJ rfl (yG ⟨by rw[My];lia,(CW (λy=>∃z:Int,y=.int z/\0<=z) λd a=>?_).mono λn g=>?_⟩)))))))
  ·obtain⟨z,_,rfl⟩:=Nd.mp a;show zn (ps:=[(1,.int z)]) rfl rfl (rR (du (aB (aJ rfl (aU (zo (wv uQ (Cs ⟨λ_=>du (aB (aJ rfl (aU (zo (.inr ⟨_,rfl,rfl,_,rfl,?_⟩))))),λ_=>.inl rfl⟩))))))))
   split<;>lia
  ·obtain⟨l,rfl,k⟩:=uP g.2;rw[My,My] at g;show aB (aJ rfl (aB (ba (aU (rV rfl ⟨rfl,eD rfl (q _ ⟨l,t,0,rfl,k,by lia,f,h,by decide,by decide⟩)⟩)))))
theorem LF:∀n,n<=3->[iD 2,iD 4,iD 16,iD 256][n]?=PB (iD (2^2^n))/\2^2^n<=256
 |0,_=>⟨rfl,by decide⟩
 |1,_=>⟨rfl,by decide⟩
 |2,_=>⟨rfl,by decide⟩
 |3,_=>⟨rfl,by decide⟩
 |n+4,h=>by lia
theorem fJ(m:Nat):(dR 0 (m:Int)).length=m:=by rw[n6,My,N5]
theorem qc{n m f k:Nat}{d:D}{s2 t s6:Option Sl}{Q:Kd×D×Ro->Prop}(h:Stt n d)(A:n+3<=1000)(B:m<=3)(v:0<m->0<f+k)(y:f+k<=1000)(q:∀(ps:List Nat) d',ps.length=m->(∀p∈ps,p<f+k)->Stt (n+m) d'->Q (.fr k0,.lst (ps.map iD),[sS d',fS (iD f),s2,t,fS (iD k),fS (iD m),s6])) :
  Wp (bp U_23 (.comp .fz [PC,PC,PC,PB 1,PB 4,PB 0] (.nm 1) (.p (.rng (.lit (.int 0)) (.var 5))) .non (.io 23 (.ref 5 (.val (.p (.bin .Add (.var 3) (.var 4))) .nil)))) [sS d,fS (iD f),s2,t,fS (iD k),fS (iD m),s6]) Q:=by
 show nX (cb (gM (ba (aJ rfl (jq (cy (by lia) (by lia) (by lia) (by lia) (by lia)) ⟨rfl,?_,?_⟩)))))
 ·change(dR 0 (m:Int)).length<=_;rw[fJ];lia
 show yH (λi s Z=>∃(ps:List Nat) (d:D),s=ps.map iD/\ps.length=i/\i<=m/\(∀p∈ps,p<f+k)/\Stt (n+i) d/\Z=[PC,PC,PC,fS (iD f),fS (iD k),sS d]) ⟨[],d,rfl,rfl,M3 _,λp c=>(nomatch c),h,rfl⟩ (λi x s Z e j=>?_) λs Z j=>?_
 ·obtain⟨ps,d,rfl,b,l,c,a,rfl⟩:=j;obtain⟨rfl,u⟩:=fB e;show rU rfl ⟨rfl,rfl⟩ rfl ?_;show jQ (m:=f+k) rfl rfl a (by lia) ((bt rfl rfl).trans rfl) (v (by lia)) (by lia) λr d' w o=>⟨_,rfl,rfl,ps++[r],d',by rw[MU];rfl,by simp;lia,by lia,λp g=>(M5.mp g).elim (c p) λz=>by rw[MY.mp z];show w,o,rfl⟩
 ·obtain⟨ps,d,rfl,b,l,c,a,rfl⟩:=j;let b:ps.length=(dR 0 (m:Int)).length:=b;rw[fJ] at b;let a:Stt (n+(dR 0 (m:Int)).length) d:=a;rw[fJ] at a;show⟨rfl,q ps d b c a⟩
def FI(f:Nat)(q:List (Nat×List Nat)):Prop:=∀(k:Nat) g,q[k]?=PB g->g.2.length<=3/\∀p∈g.2,p<f+k
theorem zr{n f a:Nat}{d:D}{Q:Kd×D×List (Option kW)->Prop}(h:Stt n d)(N:n+5*a+5<=900)(O:f<=100)(S:a<=50)(q:∀b d',b.length=a->FI f b->Stt (n+5*a) d'->Q (.fr k0,.lst (b.map aC),[PB (kS,d'),PC,PC])):Wp (IB [(kS,d),(.fz,iD f),(.fz,iD a)]) Q:=by
 unfold IB;show Bl rfl ?_;unfold Gf;change Wp (aq _ _ _ [0] [sS d,fS (iD f),fS (iD a),PC,PC,PC,PC]) _;show au (x:=(.fr k0,.lst [])) rfl rfl (by decide) ?_;change Wp (aq _ _ _ [0] [sS d,fS (iD f),fS (iD a),aW (.lst []),PC,PC,PC]) _;show cU (cb (gM (ba (aJ rfl (jq (cy (by lia) (by lia) (by lia) (by lia) (by lia)) ⟨λs Z=>∃(d:D) (b:List (Nat×List Nat)) (o p t:Option Sl),Z=[sS d,fS (iD f),fS (iD a),aW (.lst (b.map aC)),o,p,t]/\Stt (n+5*s) d/\b.length=s/\s<=a/\FI f b,⟨d,[],PC,PC,PC,rfl,h,rfl,M3 _,λk g e=>by simp at e⟩,λs x Z hd A=>?_,λZ A=>?_⟩)))))
 ·obtain⟨d,b,o,p,t,rfl,j,l,L,v⟩:=A;obtain⟨rfl,R⟩:=fB hd;rw[Ph];show⟨[(4,iD s)],rfl,rfl,?_⟩;change Wp (aq _ _ _ [0] [sS d,fS (iD f),fS (iD a),aW (.lst (b.map aC)),fS (iD s),PC,PC]) _
  let c:∀(m:Nat) (d:D),m<=3->(0<m->0<f+s)->Stt (n+5*s+1) d->Wp (aq U_23 1000 (match Gf with|.cons _ (.cons (.fo _ _ _ (.cons _ (.cons _ r))) _)=>r|r=>r) [0] [sS d,fS (iD f),fS (iD a),aW (.lst (b.map aC)),fS (iD s),fS (iD m),PC]) λr=>∃y,(r=.nx y\/r=.ct y)/\∃(d:D) (b:List (Nat×List Nat)) (o p t:Option Sl),y=[sS d,fS (iD f),fS (iD a),aW (.lst (b.map aC)),o,p,t]/\Stt (n+5*(s+1)) d/\b.length=s+1/\s+1<=a/\FI f b:=by
   intro m d u C j;unfold Gf;obtain⟨M,P⟩:=LF m u;show eC (jQ (m:=2^2^m) rfl rfl j (by lia) (bK (k:=.fr k0) (k':=.sh) (n:=m) (hd:=.lst) (xs:=[iD 2,iD 4,iD 16,iD 256]) rfl rfl (.inl rfl) rfl M) (OZ _) (by lia) λr d' I i=>⟨⟨rfl,by decide⟩,?_⟩);change Wp (aq _ _ _ [0] [sS d',fS (iD f),fS (iD a),aW (.lst (b.map aC)),fS (iD s),fS (iD m),fS (iD r)]) _;show jJ (E1 rfl (dU (bd (ce (wv (r:=(.sh,iD r)) rfl ⟨rfl,bY (yF (bY (qc i (by lia) u C (by lia) λF H K E B=>aU (lm rfl (aU (dA rfl ⟨[],.fz,_,rfl,⟨M3 _,rfl,by rw[My];lia⟩,a7 ⟨_,.inl rfl,H,b++[(r,F)],fS (iD s),fS (iD m),fS (iD r),?_,B.mono (by lia),by simp;lia,by lia,λk g e=>?_⟩⟩))))))⟩)))))
   ·change [sS H,fS (iD f),fS (iD a),aW (.lst (b.map aC++[aC (r,F)])),fS (iD s),fS (iD m),fS (iD r)]=_;rw[MU];rfl
   ·by_cases hk:k<b.length
    ·rw[MP hk] at e;show v k g e
    ·let w:k=s:=by
      have:=(Mv.mp e).1;simp at this
      lia
     subst w;rw[MZ (by lia),l,OT] at e;cases e;show⟨by change F.length<=3;lia,E⟩
  unfold Gf at c;show eC (jQ (m:=4) rfl rfl j (by lia) rfl (by decide) (by decide) λr d' I i=>⟨⟨rfl,by decide⟩,?_⟩);change Wp (aq _ _ _ [0] [sS d',fS (iD f),fS (iD a),aW (.lst (b.map aC)),fS (iD s),fS (iD r),PC]) _;show jr (z:=decide (((f:Int)+(s:Int))=0)) (p4 (bt rfl rfl) (bJ 0)) (λe=>?_) λe=>jK (c r d' (by lia) (λ_=>?_) i)
  ·show au (bJ 0) rfl (by decide) (jK (c 0 d' (by decide) (λh=>absurd h (by decide)) i))
  ·have:=of_decide_eq_false e
   lia
 ·obtain⟨d,b,o,p,t,rfl,j,l,L,v⟩:=A;let l:b.length=(dR 0 (a:Int)).length:=l;let j:Stt (n+5*(dR 0 (a:Int)).length) d:=j;rw[fJ] at l j;show cR (dv rfl ⟨rfl,pR rfl (q b d l v j)⟩)
theorem FJ{r:Nat}(h:r<2):∃b:Bool,bD b=iD r:=by
 match r,h with
 |0,_=>show⟨PF,rfl⟩
 |1,_=>show⟨PD,rfl⟩
theorem wa{n m t:Nat}{d:D}{s1 A s4 s5 s6 s8 s9:Option Sl}{Q:Kd×D×Ro->Prop}(h:Stt n d)(I:n+2*m+5<=1000)(K:m<=50)(C:0<m->0<t)(H:t<=1000)(q:∀(a:List (Bool×Nat)) d',a.length=m->(∀p∈a,p.2<t)->Stt (n+2*m) d'->Q (.fr k0,.lst (a.map bu),[sS d',s1,fS (iD m),A,s4,s5,s6,fS (iD t),s8,s9])) :
  Wp (bp U_24 (.comp .fz [PC,PC,PC,PB 0,PB 7] (.nm 1) (.p (.rng (.lit (.int 0)) (.var 2))) .non (.tup .fz (.cons (.io 23 (.ref 3 (.val (.p (.lit (.int 2))) .nil))) (.fin (.io 23 (.ref 3 (.val (.p (.var 4)) .nil))) .nil)))) [sS d,s1,fS (iD m),A,s4,s5,s6,fS (iD t),s8,s9]) Q:=by
 show nX (cb (gM (ba (aJ rfl (jq (cy (by lia) (by lia) (by lia) (by lia) (by lia)) ⟨rfl,?_,?_⟩)))))
 ·change(dR 0 (m:Int)).length<=_;rw[fJ];lia
 show yH (λi w Z=>∃(a:List (Bool×Nat)) (d:D),w=a.map bu/\a.length=i/\i<=m/\(∀p∈a,p.2<t)/\Stt (n+2*i) d/\Z=[PC,PC,PC,sS d,fS (iD t)]) ⟨[],d,rfl,rfl,M3 _,λp g=>(nomatch g),h,rfl⟩ (λi x w Z e l=>?_) λw Z l=>?_
 ·obtain⟨a,d,rfl,f,u,g,c,rfl⟩:=l;obtain⟨rfl,B⟩:=fB e;show rU rfl ⟨rfl,rfl⟩ rfl ?_;show dU (bd (jQ (m:=2) rfl rfl c (by lia) rfl (by decide) (by decide) λr d' F v=>⟨rfl,bY (jQ (m:=t) rfl rfl v (by lia) rfl (C (by lia)) (by lia) λj E s o=>aU (dA rfl ?_))⟩));obtain⟨b,y⟩:=FJ F;show⟨_,rfl,rfl,a++[(b,j)],E,?_,by simp;lia,by lia,λp k=>(M5.mp k).elim (g p) λz=>by rw[MY.mp z];show s,o.mono (by lia),rfl⟩;rw[MU];change a.map bu++[.tup [iD r,iD j]]=a.map bu++[.tup [bD b,iD j]];rw[y]
 ·obtain⟨a,d,rfl,f,u,g,c,rfl⟩:=l;let f:a.length=(dR 0 (m:Int)).length:=f;rw[fJ] at f;let c:Stt (n+2*(dR 0 (m:Int)).length) d:=c;rw[fJ] at c;show⟨rfl,q a d f g c⟩
theorem wb{n m t:Nat}{d:D}{s1 s2 o s5 s6 s8 s9:Option Sl}{Q:Kd×D×Ro->Prop}(h:Stt n d)(y:n+m+5<=1000)(A:m<=50)(u:0<t)(w:t<=1000)(q:∀(os:List Nat) d',os.length=m->(∀p∈os,p<t)->Stt (n+m) d'->Q (.fr k0,.lst (os.map iD),[sS d',s1,s2,o,fS (iD m),s5,s6,fS (iD t),s8,s9])) :
  Wp (bp U_24 (.comp .fz [PC,PC,PC,PB 0,PB 7] (.nm 1) (.p (.rng (.lit (.int 0)) (.var 4))) .non (.io 23 (.ref 3 (.val (.p (.var 4)) .nil)))) [sS d,s1,s2,o,fS (iD m),s5,s6,fS (iD t),s8,s9]) Q:=by
 show nX (cb (gM (ba (aJ rfl (jq (cy (by lia) (by lia) (by lia) (by lia) (by lia)) ⟨rfl,?_,?_⟩)))))
 ·change(dR 0 (m:Int)).length<=_;rw[fJ];lia
 show yH (λi l Z=>∃(os:List Nat) (d:D),l=os.map iD/\os.length=i/\i<=m/\(∀p∈os,p<t)/\Stt (n+i) d/\Z=[PC,PC,PC,sS d,fS (iD t)]) ⟨[],d,rfl,rfl,M3 _,λp c=>(nomatch c),h,rfl⟩ (λi x l Z e g=>?_) λl Z g=>?_
 ·obtain⟨os,d,rfl,b,j,c,a,rfl⟩:=g;obtain⟨rfl,s⟩:=fB e;show rU rfl ⟨rfl,rfl⟩ rfl ?_;show jQ (m:=t) rfl rfl a (by lia) rfl u (by lia) λr d' v k=>⟨_,rfl,rfl,os++[r],d',by rw[MU];rfl,by simp;lia,by lia,λp f=>(M5.mp f).elim (c p) λz=>by rw[MY.mp z];show v,k,rfl⟩
 ·obtain⟨os,d,rfl,b,j,c,a,rfl⟩:=g;let b:os.length=(dR 0 (m:Int)).length:=b;rw[fJ] at b;let a:Stt (n+(dR 0 (m:Int)).length) d:=a;rw[fJ] at a;show⟨rfl,q os d b c a⟩
theorem sr{n a l outs:Nat}{Q:Kd×D×List (Option kW)->Prop}(h:Stt n d)(U:n<=100)(V:0<a)(h1:a<=10)(h2:l<=10)(T:outs<=10)(q:∀c d',Ok c->c.ins=a->c.outs.length=outs->Stt (n+100) d'->Q (.sh,cD c,[PB (kS,d'),PC,PC,PC,PC])):Wp (IC [(kS,d),(.fz,iD a),(.fz,iD l),(.fz,iD 8),(.fz,iD outs)]) Q:=by
 unfold IC;show Bl rfl ?_;unfold Lh;change Wp (aq _ _ _ [0] [sS d,fS (iD a),fS (iD l),fS (iD 8),fS (iD outs),PC,PC,PC,PC,PC]) _;show eC (jQ (m:=9) rfl rfl h (by lia) (bt (i:=8) (j:=1) rfl rfl) (by decide) (by decide) λb N W I=>⟨⟨rfl,by decide⟩,?_⟩);change Wp (aq _ _ _ [0] [sS N,fS (iD a),fS (iD l),fS (iD 8),fS (iD outs),fS (iD b),PC,PC,PC,PC]) _;show eC (uj (B:=IB) rfl (lp rfl (eP (ce (wv (bt (i:=(a:Int)) (j:=(l:Int)) rfl rfl) ⟨rfl,eP (ce (wv (r:=(.sh,iD b)) rfl ⟨rfl,ln ⟨by simp[cJ],[(kS,N),(.fz,iD (a+l)),(.fz,iD b)],rfl,zr I (by lia) (by lia) (by lia) λs M v y E=>⟨rfl,rfl,⟨rfl,by decide⟩,?_⟩⟩⟩))⟩)))));change Wp (aq _ _ _ [0] [sS M,fS (iD a),fS (iD l),fS (iD 8),fS (iD outs),fS (iD b),aW (.lst (s.map aC)),PC,PC,PC]) _;show au (x:=(.sh,iD (a+l+b))) (bt (i:=((a+l:Nat):Int)) (j:=(b:Int)) (bt (i:=(a:Int)) (j:=(l:Int)) rfl rfl) rfl) rfl (by decide) ?_;change Wp (aq _ _ _ [0] [sS M,fS (iD a),fS (iD l),fS (iD 8),fS (iD outs),fS (iD b),aW (.lst (s.map aC)),fS (iD (a+l+b)),PC,PC]) _;show eC (wa E (by lia) (by lia) (λz=>by lia) (by lia) λt O u K C=>⟨⟨rfl,by decide⟩,?_⟩);change Wp (aq _ _ _ [0] [sS O,fS (iD a),fS (iD l),fS (iD 8),fS (iD outs),fS (iD b),aW (.lst (s.map aC)),fS (iD (a+l+b)),aW (.lst (t.map bu)),PC]) _;show au (x:=(.fr k0,.lst [])) rfl rfl (by decide) ?_;change Wp (aq _ _ _ [0] [sS O,fS (iD a),fS (iD l),fS (iD 8),fS (iD outs),fS (iD b),aW (.lst (s.map aC)),fS (iD (a+l+b)),aW (.lst (t.map bu)),aW (.lst [])]) _;show jr (z:=PD) ((Fo rfl (bJ 0)).trans (by rw[decide_eq_true (by change(0:Int)<((a+l+b:Nat):Int);lia)])) (λ_=>?_) λe=>by cases e
 show eC (wb C (by lia) (by lia) (by lia) (by lia) λw P H F L=>⟨⟨rfl,by decide⟩,jK ?_⟩)
 let R:Ok ⟨a,t,s,w⟩:=by
  show⟨λk g e=>?_,λm A=>?_,λo S=>?_,by change a<=10;lia,by change t.length<=10;lia,by change s.length<=20;lia,by change w.length<=10;lia⟩
  ·have:=y k g e;unfold Ci.f;change g.2.length<=3/\∀p∈g.2,p<a+t.length+k;rw[u];show this
  ·change m.2<a+t.length+s.length;rw[u,v];show K m A
  ·change o<a+t.length+s.length;rw[u,v];show F o S
 show cR (dU (bd (ce (wv (r:=(.sh,iD a)) rfl ⟨rfl,bd (dv rfl ⟨rfl,bd (dv rfl ⟨rfl,bY (dv rfl (aU (dA (r:=(.sh,cD ⟨a,t,s,w⟩)) rfl ⟨rfl,pR rfl (q ⟨a,t,s,w⟩ P R rfl H (L.mono (by lia)))⟩)))⟩)⟩)⟩))))
theorem cq{p q:Nat}(d:aa U a Z=PB (k,iD p))(c:aa U b Z=PB (k',iD q)):aa U (.bin .Add a b) Z=PB (.sh,iD (p+q)):=bt d c
theorem qe(a:aa U b Z=PB (.sh,iD p)):aa U (.tup .fz (.cons (.lit (.int 0)) (.cons b .nil))) Z=PB (.sh,pD (sp 0 p)):=eS rfl a
theorem qf(a:aa U b Z=PB (.sh,iD p)):aa U (.tup .fz (.cons (.lit (.int 1)) (.cons b .nil))) Z=PB (.sh,pD (sp 1 p)):=eS rfl a
noncomputable def eT(os:List Nat)(a x:Nat):List Nat:=os.take a++x::os.drop (a+1)
theorem FK{xs:List D}{n:Nat}(h:n<=xs.length):f8 xs PC (PB (n:Int))=xs.take n:=by
 unfold f8;rw[HT.kj,HT.m3,O0 h,O5,Pf]
theorem FL{xs:List D}{n:Nat}(h:n<=xs.length):f8 xs (PB (n:Int)) PC=xs.drop n:=by
 unfold f8;rw[HT.kj,HT.m3,O0 h,List.take_of_length_le (by rw[N8];show Mz _)]
section
variable {U:Nat->Option Fn} {Z:Ro} {a b c:IE} {k k':Kd} {xs:List D} {n:Nat}
theorem CY(d:aa U a Z=PB (k,.lst xs))(c:aa U b Z=PB (k',iD n))(hk:dF k xs=PD):aa U (.sl a .non (.som b)) Z=PB (.fr k0,.lst (f8 xs PC (PB (n:Int)))):=aD (pM (wv d (jp (lj (wv c ⟨_,rfl,_,if_pos hk,rfl⟩)))))
theorem CZ(d:aa U a Z=PB (k,.lst xs))(c:aa U b Z=PB (k',iD n))(hk:dF k xs=PD):aa U (.sl a (.som b) .non) Z=PB (.fr k0,.lst (f8 xs (PB (n:Int)) PC)):=aD (pM (wv d (lj (wv c ⟨_,rfl,jp ⟨_,if_pos hk,rfl⟩⟩))))
theorem Jg(e:aa U a Z=PB (k,.lst xs))(c:aa U b Z=PB (k',iD n))(hk:dF k xs=PD)(d:n<=xs.length):aa U (.sl a .non (.som b)) Z=PB (.fr k0,.lst (xs.take n)):=by rw[CY e c hk,FK d]
theorem C0(e:aa U a Z=PB (k,.lst xs))(c:aa U b Z=PB (k',iD n))(hk:dF k xs=PD)(d:n<=xs.length):aa U (.sl a (.som b) .non) Z=PB (.fr k0,.lst (xs.drop n)):=by rw[CZ e c hk,FL d]
end
theorem uR{fr:List Nat}(z:Bool)(f:aa U a Z=PB (.sh,pD (sp z.toNat p)))(d:aa U b Z=PB (.sh,pD (sp (!z).toNat p)))(e:aa U c Z=PB (.fr ka,.lst (fr.map iD))):aa U (.tup .fz (.cons a (.cons b (.cons c (.cons (.lst (.own [] .fz) .nil) .nil))))) Z=PB (.sh,ju (z,p,fr)):=
 fH (kds:=[(.sh,pD (sp z.toNat p)),(.sh,pD (sp (!z).toNat p)),(.fr ka,.lst (fr.map iD)),(.fr k0,dN)]) (e4 f d e rfl) ⟨rfl,by simp⟩
theorem BK(l:List Nat)(p:Nat):BB (l++[p])=BB l++[(PF,p,[p]),(PD,p,[p])]:=by unfold BB;rw[MU,List.flatten_append];rfl
theorem zt{c:Ci}(h:Ok c){a x:Nat}(v:a<c.outs.length):Fh [cD c,iD a,iD x]=PB (.sh,bO c c.outs (eT c.outs a x)):=by
 let A:=h.bm;let y:=h.bg;let C:=h.bo;unfold Fh;show eZ rfl ?_;unfold Lj;change Wp (aq _ _ _ [] [fS (cD c),fS (iD a),fS (iD x),PC,PC,PC,PC,PC,PC,PC,PC]) _;show dM (ds:=[iD c.ins,.lst (c.mems.map bu),.lst (c.gates.map aC),.lst (c.outs.map iD)]) rfl ⟨rfl,rfl⟩ ?_;show au (x:=(.sh,iD c.f)) (bt (k:=.sh) (k':=.sh) (i:=(c.ins:Int)) (j:=(c.mems.length:Int)) rfl (aX (l:=c.mems) (f:=bu) (k:=.sh) rfl (.inl rfl))) rfl (by decide) ?_;change Wp (aq _ _ _ [] [fS (cD c),fS (iD a),fS (iD x),fS (iD c.ins),fS (.lst (c.mems.map bu)),fS (.lst (c.gates.map aC)),fS (.lst (c.outs.map iD)),fS (iD c.f),PC,PC,PC]) _;show au (x:=(.fr k0,hD c)) ((Fu (k:=.sh) (l:=c.mems) (f:=bu) (g:=λp=>ju (PF,c.ins+p.2,[p.1.2])) rfl rfl (by lia) λi m B=>CK rfl (wv (uR PF (qe (cq (k:=.sh) (k':=.sh) rfl rfl)) (qf (cq (k:=.sh) (k':=.sh) rfl rfl)) (eX (kds:=[(.sh,iD m.2)]) (e1 (bK (k:=.sh) (k':=.sh) (n:=1) (hd:=.tup) (xs:=[bD m.1,iD m.2]) rfl rfl (.inr rfl) rfl rfl)) ⟨rfl,by simp⟩)) ⟨_,rfl,rfl⟩)).trans (by unfold hD uF;rw[MV];rfl)) rfl (by decide) ?_;show au (x:=(.fr k0,lD c [])) ((Fu (k:=.sh) (l:=c.gates) (f:=aC) (g:=λp=>ju (PF,c.f+p.2,p.1.2)) rfl rfl (by lia) λi g w=>CK rfl (wv (uR PF (qe (cq (k:=.sh) (k':=.sh) rfl rfl)) (qf (cq (k:=.sh) (k':=.sh) rfl rfl)) (aD (du (aB (wv (bK (k:=.sh) (k':=.sh) (n:=1) (hd:=.tup) (xs:=[iD g.1,.tup (g.2.map iD)]) rfl rfl (.inr rfl) rfl rfl) (aU (iH (.inr rfl)))))))) ⟨_,rfl,rfl⟩)).trans (by unfold lD oa;rw[MU,MV];show congrArg (λl=>PB (Kd.fr k0,D.lst l)) (Nj _).symm)) rfl (by decide) ?_;change Wp (aq _ _ _ [] [fS (cD c),fS (iD a),fS (iD x),fS (iD c.ins),fS (.lst (c.mems.map bu)),fS (.lst (c.gates.map aC)),fS (.lst (c.outs.map iD)),fS (iD c.f),aW (hD c),aW (lD c []),PC]) _;show cU (cb (gh (aJ rfl (dw rfl ⟨λs Z=>s<=c.outs.length/\∃b,Z=[fS (cD c),fS (iD a),fS (iD x),fS (iD c.ins),fS (.lst (c.mems.map bu)),fS (.lst (c.gates.map aC)),fS (.lst (c.outs.map iD)),fS (iD c.f),aW (hD c),aW (lD c (c.outs.take s)),b],⟨M3 _,PC,rfl⟩,λs d Z hd o=>?_,λZ o=>?_⟩))))
 ·obtain⟨z,b,rfl⟩:=o;let hd:(c.outs.map iD)[s]?=PB d:=hd;rw[MA] at hd
  cases e:c.outs[s]? with
  |none=>rw[e] at hd;cases hd
  |some p=>
   rw[e] at hd;cases hd;let t:=(Mv.mp e).1;let E:((oa c (c.outs.take s)).map ju).length<=60:=by rw[My,sg,M8];lia
   show⟨[(10,iD p)],rfl,rfl,jJ (iw (wv (uR PF (p:=p) (fr:=[p]) (qe rfl) (qf rfl) rfl) ⟨_,_,_,rfl,⟨M3 _,rfl,by lia⟩,jJ (iw (wv (uR PD (p:=p) (fr:=[p]) (qf rfl) (qe rfl) rfl) ⟨_,_,_,rfl,⟨M3 _,rfl,by rw[MN];change _+1<_;lia⟩,a7 ⟨_,.inl rfl,t,fS (iD p),?_⟩⟩))⟩))⟩
   let e2:(oa c (c.outs.take s)).map ju++[ju (PF,p,[p])]++[ju (PD,p,[p])]=(oa c (c.outs.take (s+1))).map ju:=by
    rw[lB e];unfold oa;rw[BK,<- M7,MU (l₂:=[(PF,p,[p]),(PD,p,[p])]),M7];rfl
   change [fS (cD c),fS (iD a),fS (iD x),fS (iD c.ins),fS (.lst (c.mems.map bu)),fS (.lst (c.gates.map aC)),fS (.lst (c.outs.map iD)),fS (iD c.f),aW (hD c),aW (.lst ((oa c (c.outs.take s)).map ju++[ju (PF,p,[p])]++[ju (PD,p,[p])])),fS (iD p)]=_;rw[e2]
 ·obtain⟨_,b,rfl⟩:=o;rw[show(c.outs.map iD).length=c.outs.length from My _,Nx];let q:(c.outs.map iD).length=c.outs.length:=My _
  let u:(c.outs.map iD).take a++[iD x]++(c.outs.map iD).drop (a+1)=(eT c.outs a x).map iD:=by
   unfold eT;rw[MU,MQ,List.map_take,List.map_drop,M7];rfl
  show cR (dU (bd (ce (wv (r:=(.fr k0,dN)) rfl ⟨rfl,bd (dv rfl ⟨rfl,bY (dv rfl (wv (e1 (lx (k:=.fr k0) (k':=.fr k0) ⟨rfl,rfl,?_⟩ (lx (k:=.fr k0) (k':=.fr k0) ⟨rfl,rfl,?_⟩ (Jg (k:=.sh) (k':=.sh) (n:=a) (xs:=c.outs.map iD) rfl rfl rfl (by lia)) (eX (kds:=[(.sh,iD x)]) (e1 rfl) ⟨rfl,by simp⟩)) (C0 (k:=.sh) (k':=.sh) (n:=a+1) (xs:=c.outs.map iD) rfl (cq (k:=.sh) (k':=.sh) rfl rfl) rfl (by lia)))) (dA (r:=(.sh,bO c c.outs (eT c.outs a x))) ?_ ⟨rfl,eD rfl rfl⟩)))⟩)⟩))))
  ·simp;lia
  ·simp;lia
  ·change PB (Kd.sh,D.tup [dN,hD c,lD c c.outs,.lst ((c.outs.map iD).take a++[iD x]++(c.outs.map iD).drop (a+1))])=_;rw[u];rfl
theorem BL{os:List Nat}{a x p:Nat}(h:p∈eT os a x):p=x\/p∈os:=by
 unfold eT at h;rcases M5.mp h with z|z
 ·show .inr (List.mem_of_mem_take z)
 ·rcases MD.mp z with z|z
  ·show .inl z
  ·show .inr (List.mem_of_mem_drop z)
theorem BM{os:List Nat}{a x:Nat}(h:a<os.length):(eT os a x).length=os.length:=by
 unfold eT;rw[MN,Nh,M8,N8]
 lia
theorem BN{c:Ci}(h:Ok c){a x:Nat}(f:a<c.outs.length)(d:x<c.m c.outs):LC c c.outs (eT c.outs a x):=
 ⟨h.bo,h.o,BM f,λe b=>(BL b).elim (λz=>z▸d) λz=>by have:=h.o e z;change e<c.n+_;lia⟩
noncomputable def jR(p i:Nat):Nat:=p+if i<=p then 1 else 0
theorem FM(p i:Nat):Fk [iD p,iD i]=PB (.sh,iD (jR p i)):=by
 unfold Fk;show eZ rfl ?_;unfold Lk
 show cc (x:=(.sh,iD (jR p i))) ((bt (k:=.sh) (k':=.sh) (i:=(p:Int)) (j:=if decide ((i:Int)<=p) then 1 else 0) rfl (aD (du (aB (wv (eW (IK (k:=.sh) (k':=.sh) (i:=(p:Int)) (j:=(i:Int)) rfl rfl)) (aU ⟨_,rfl,rfl⟩)))))).trans ?_) rfl (fF rfl rfl)
 unfold jR;by_cases e:i<=p
 ·rw[decide_eq_true (Int.ofNat_le.mpr e),if_pos rfl,if_pos e];rfl
 ·rw[decide_eq_false (λz=>e (Int.ofNat_le.mp z)),if_neg (by decide),if_neg e];rfl
theorem qg{U:Nat->Option Fn}(d:U 28=PB Fk)(c:aa U a Z=PB (.sh,iD p))(e:aa U b Z=PB (.sh,iD i)):aa U (.fn 28 (.cons a (.cons b .nil))) Z=PB (.sh,iD (jR p i)):=bC d (e2 c e) rfl rfl (FM p i) rfl
def wc(c:Ci):Ci:=⟨c.ins+1,c.mems.map λm=>(m.1,jR m.2 c.ins),c.gates.map λg=>(g.1,g.2.map λp=>jR p c.ins),c.outs.map λp=>jR p c.ins⟩
theorem FN(h:Ok c):ID [cD c]=PB (.sh,cD (wc c)):=by
 let d:=h.bm;let b:=h.bg;let n:=h.bo;unfold ID;show eZ rfl ?_;unfold Ll;change Wp (aq _ _ _ [] [fS (cD c),PC,PC,PC,PC,PC,PC]) _;show dM (ds:=[iD c.ins,.lst (c.mems.map bu),.lst (c.gates.map aC),.lst (c.outs.map iD)]) rfl ⟨rfl,rfl⟩ ?_;show au (iC (k:=.sh) (hd:=.lst) (l:=c.mems) (f:=bu) (g:=λm=>bu (m.1,jR m.2 c.ins)) (.inl rfl) rfl rfl (by lia) λm _=>CK rfl (wv (fH (kds:=[(.sh,bD m.1),(.sh,iD (jR m.2 c.ins))]) (e2 rfl (qg rfl rfl rfl)) ⟨rfl,by simp⟩) ⟨_,rfl,rfl⟩)) rfl (by decide) ?_;show au (iC (k:=.sh) (hd:=.lst) (l:=c.gates) (f:=aC) (g:=λg=>aC (g.1,g.2.map λp=>jR p c.ins)) (.inl rfl) rfl rfl (by lia) λg a=>?_) rfl (by decide) ?_
 ·obtain⟨k,hk⟩:=Ou.mp a;let e:=(h.g k g hk).1;show CK rfl (wv (fH (kds:=[(.sh,iD g.1),(.sh,.tup (g.2.map λp=>iD (jR p c.ins)))]) (e2 rfl (aD (du (aB (wv (iC (k:=.sh) (hd:=.tup) (l:=g.2) (f:=iD) (g:=λp=>iD (jR p c.ins)) (r:=.fz) (.inr rfl) rfl rfl (by lia) λp _=>v3 rfl (wv (qg rfl rfl rfl) ⟨_,rfl,rfl⟩)) (aU (lm rfl rfl))))))) ⟨rfl,by simp⟩) ⟨_,by unfold aC;rw[MV];rfl,rfl⟩)
 change Wp (aq _ _ _ [] [fS (cD c),fS (iD c.ins),fS (.lst (c.mems.map bu)),fS (.lst (c.gates.map aC)),fS (.lst (c.outs.map iD)),aW (.lst (c.mems.map λm=>bu (m.1,jR m.2 c.ins))),aW (.lst (c.gates.map λg=>aC (g.1,g.2.map λp=>jR p c.ins)))]) _;show cR (dU (bd (ce (wv (bt (k:=.sh) (k':=.sh) (i:=(c.ins:Int)) (j:=1) rfl rfl) ⟨rfl,bd (dv rfl ⟨rfl,bY (dv rfl (wv (e1 (iC (k:=.sh) (hd:=.lst) (l:=c.outs) (f:=iD) (g:=λp=>iD (jR p c.ins)) (.inl rfl) rfl rfl (by lia) λp _=>v3 rfl (wv (qg rfl rfl rfl) ⟨_,rfl,rfl⟩))) (dA (r:=(.sh,cD (wc c))) ?_ ⟨rfl,eD rfl rfl⟩)))⟩)⟩))));unfold cD wc;rw[MV,MV,MV];rfl
def qi(t:Nat×Nat):D:=.tup [pD (sp 0 t.1),pD (sp 1 t.2)]
abbrev fL(l:List Nat):D:=.lst (l.map iD)
theorem zu{s:Nat}(b:s<2)(p q:Nat):∃a:Nat,[iD p,iD q][s]?=PB (iD a):=by
 match s,b with
 |0,_=>show⟨p,rfl⟩
 |1,_=>show⟨q,rfl⟩
theorem FO{U:Nat->Option Fn}{p i s:Nat}(h:s<2)(j:U 28=PB Fk)(c:aa U a Z=PB (.sh,iD p))(d:aa U b Z=PB (.sh,iD i))(f:aa U e Z=PB (.sh,iD s)):∃q:Nat,aa U (.ix (.lst (.own [] .fz) (.cons a (.cons (.fn 28 (.cons a (.cons b .nil))) .nil))) e) Z=PB (.sh,iD q):=by
 obtain⟨q,g⟩:=zu h p (jR p i);show⟨q,bK (k:=.fr k0) (k':=.sh) (n:=s) (hd:=.lst) (xs:=[iD p,iD (jR p i)]) (eX (kds:=[(.sh,iD p),(.sh,iD (jR p i))]) (e2 c (qg j c d)) ⟨rfl,by simp⟩) f (.inl rfl) rfl g⟩
theorem C4{U:Nat->Option Fn}{l:List Nat}{i s:Nat}(j:s<2)(n:U 28=PB Fk)(m:aa U a Z=PB (k,fL l))(d:dF k (l.map iD)=PD)(f:l.length<=100000)(c:aQ Z cap=[PC,PC,PC,fS (iD i),fS (iD s)]) :
  ∃h:List Nat,aa U (.comp .fz cap (.nm 1) (.e a) .non (.ix (.lst (.own [] .fz) (.cons (.var 1) (.cons (.fn 28 (.cons (.var 1) (.cons (.var 3) .nil))) .nil))) (.var 4))) Z=PB (.fr k0,fL h):=by
 let b:∀p:Nat,∃q:Nat,aa U (.ix (.lst (.own [] .fz) (.cons (.var 1) (.cons (.fn 28 (.cons (.var 1) (.cons (.var 3) .nil))) .nil))) (.var 4)) [PC,fS (iD p),PC,fS (iD i),fS (iD s)]=PB (.sh,iD q):=λp=>FO j n rfl rfl rfl;show⟨l.map λp=>Classical.choose (b p),?_⟩;show(iC (g:=λp=>iD (Classical.choose (b p))) (.inl rfl) m d f λp _=>?_).trans (by unfold fL;rw[MV];rfl);rw[c];show v3 rfl (wv (Classical.choose_spec (b p)) ⟨_,rfl,rfl⟩)
theorem kH{α β:Type}{f:α->D}{g:β->D}{xs:List α}{ys:List β}{i:Nat}(h:(kJ (xs.map f) (ys.map g))[i]?=PB d):i<xs.length/\∃a b,d=.tup [f a,g b]/\b∈ys:=by
 unfold kJ at h;rw[Pv,O6] at h
 cases e1:xs[i]? with
 |none=>rw[e1] at h;cases h
 |some a=>cases e2:ys[i]? with
  |none=>rw[e1,e2] at h;cases h
  |some b=>
   rw[e1,e2] at h;cases h;show⟨(Mv.mp e1).1,a,b,rfl,MH e2⟩
abbrev wo(c:Ci)(s:Nat)(x6 x7 x8 W O R B q:Option Sl):Ro:=[fS (cD c),fS (iD s),fS (iD c.ins),fS (.lst (c.mems.map bu)),fS (.lst (c.gates.map aC)),fS (.lst (c.outs.map iD)),x6,x7,x8,W,O,R,B,q]
theorem zw(h:Ok c){s:Nat}(N:s<2):∃d,Fl [cD c,iD s]=PB (.sh,d):=by
 let Y:=h.bi;let W:=h.bm;let bg:=h.bg;let X:=h.bo
 suffices w:Wp (Fl [cD c,iD s]) λr=>∃d,r=(.sh,d) by
  obtain⟨r,e,d,rfl⟩:=w;show⟨d,e⟩
 unfold Fl;show nZ rfl ?_;unfold Lm;change Wp (aq _ _ _ [] [fS (cD c),fS (iD s),PC,PC,PC,PC,PC,PC,PC,PC,PC,PC,PC,PC]) _;show dM (ds:=[iD c.ins,.lst (c.mems.map bu),.lst (c.gates.map aC),.lst (c.outs.map iD)]) rfl ⟨rfl,rfl⟩ ?_;show au (x:=(.fr k0,.lst [])) rfl rfl (by decide) ?_;change Wp (aq _ _ _ [] (wo c s (aW (.lst [])) PC PC PC PC PC PC PC)) _
 let T:∀{Z:Ro},Z=wo c s (aW (.lst [])) PC PC PC PC PC PC PC->aa U_29.fn (.bin .Add (.bin .Add (.var 2) (.blt "len" (.cons (.var 3) .nil))) (.blt "len" (.cons (.var 4) .nil))) Z=PB (.sh,iD c.n):=λ{Z} e=>by
  subst e;show cq (p:=c.f) (k:=.sh) (k':=.sh) (cq (k:=.sh) (k':=.sh) rfl (aX (l:=c.mems) (f:=bu) (k:=.sh) rfl (.inl rfl))) (aX (l:=c.gates) (f:=aC) (k:=.sh) rfl (.inl rfl))
 let V:=h.bn;show cU (cb (gM (ba (wv (T rfl) (jq (cy (by lia) (by lia) (by lia) (by lia) (by lia)) ⟨λi Z=>i<=c.n/\∃(L:List (Nat×Nat)) (M H:Option Sl),L.length=i/\Z=wo c s (aW (.lst (L.map qi))) M H PC PC PC PC PC,⟨M3 _,[],PC,PC,rfl,rfl⟩,λi d Z hd v=>?_,λZ v=>?_⟩)))))
 ·obtain⟨F,L,M,H,E,rfl⟩:=v;obtain⟨rfl,R⟩:=fB hd;rw[Ph] at R⊢;show⟨[(7,iD i)],rfl,rfl,?_⟩;change Wp (aq _ _ _ [] (wo c s (aW (.lst (L.map qi))) (fS (iD i)) PC PC PC PC PC PC)) _;show au (eX (kds:=[(.sh,iD i),(.sh,iD (jR i c.ins))]) (e2 rfl (qg rfl rfl rfl)) ⟨rfl,by simp⟩) rfl (by decide) ?_;change Wp (aq _ _ _ [] (wo c s (aW (.lst (L.map qi))) (fS (iD i)) (aW (.lst [iD i,iD (jR i c.ins)])) PC PC PC PC PC)) _;obtain⟨a,K⟩:=zu N i (jR i c.ins);obtain⟨b,Q⟩:=zu (s:=1-s) (by lia) i (jR i c.ins);show jJ (iw (wv (fH (kds:=[(.sh,pD (sp 0 a)),(.sh,pD (sp 1 b))]) (e2 (qe (bK (k:=.bo 8 k0) (k':=.sh) (n:=s) (hd:=.lst) (xs:=[iD i,iD (jR i c.ins)]) rfl rfl (.inl rfl) rfl K)) (qf (bK (k:=.bo 8 k0) (k':=.sh) (n:=1-s) (hd:=.lst) (xs:=[iD i,iD (jR i c.ins)]) rfl (IJ (k:=.sh) (k':=.sh) (i:=1) (j:=(s:Int)) rfl rfl) (.inl rfl) (by lia) Q))) ⟨rfl,by simp⟩) ⟨_,_,_,rfl,⟨M3 _,rfl,by rw[My];lia⟩,a7 ⟨_,.inl rfl,by lia,L++[(a,b)],fS (iD i),aW (.lst [iD i,iD (jR i c.ins)]),by simp[E],?_⟩⟩));rw[MU];rfl
 ·obtain⟨_,L,M,H,E,rfl⟩:=v;rw[fJ] at E;show let q:List (List Nat):=c.mems.map (λm=>[m.2])++c.gates.map (·.2);?_;let S:q.length<=40:=by simp[q];lia
  let O:∀l∈q,l.length<=3:=λl I=>by
   rcases M5.mp I with z|z<;>obtain⟨a,K,rfl⟩:=Nd.mp z
   ·simp
   ·obtain⟨k,hk⟩:=Ou.mp K;show(h.g k a hk).1
  show au (x:=(.fr k0,.lst (q.map fL))) ((lx (k:=.fr k0) (k':=.fr k0) ⟨rfl,rfl,by simp;lia⟩ (iC (k:=.sh) (hd:=.lst) (l:=c.mems) (f:=bu) (g:=λm=>fL [m.2]) (.inl rfl) rfl rfl (by lia) λm _=>v3 rfl (wv (eX (kds:=[(.sh,iD m.2)]) (e1 (bK (k:=.sh) (k':=.sh) (n:=1) (hd:=.tup) (xs:=[bD m.1,iD m.2]) rfl rfl (.inr rfl) rfl rfl)) ⟨rfl,by simp⟩) ⟨_,rfl,rfl⟩)) (iC (k:=.sh) (hd:=.lst) (l:=c.gates) (f:=aC) (g:=λg=>fL g.2) (.inl rfl) rfl rfl (by lia) λg _=>CK rfl (wv (aD (du (aB (wv (r:=(.sh,.tup (g.2.map iD))) rfl (aU (iH (.inr rfl))))))) ⟨_,rfl,rfl⟩))).trans (by simp only[q];rw[MU,MV,MV];rfl)) rfl (by decide) ?_;show au (x:=(.fr k0,.lst [])) rfl rfl (by decide) ?_;change Wp (aq _ _ _ [] (wo c s (aW (.lst (L.map qi))) PC PC (aW (.lst (q.map fL))) (aW (.lst [])) PC PC PC)) _;generalize q=q at S O⊢;show cU (cb (ue (wv (C0 (k:=.bo 6 k0) (k':=.sh) (n:=c.ins) (xs:=L.map qi) rfl rfl rfl (by rw[My,E];unfold Ci.n Ci.f;lia)) (wv (r:=(.bo 9 k0,.lst (q.map fL))) rfl (wv (r:=([9],kJ ((L.drop c.ins).map qi) (q.map fL))) (by rw[List.map_drop];rfl) ⟨λi Z=>∃(o:List D) (y A:Option Sl),o.length=i/\Z=wo c s (aW (.lst (L.map qi))) PC PC PC (aW (.lst o)) y A PC,⟨[],PC,PC,rfl,rfl⟩,λi d Z hd v=>?_,λZ v=>?_⟩)))))
  ·obtain⟨o,y,A,C,rfl⟩:=v;obtain⟨F,t,l,rfl,I⟩:=kH hd;let F:i<=40:=by rw[N8] at F;lia
   show⟨[(11,qi t),(12,fL l)],rfl,rfl,?_⟩;change Wp (aq _ _ _ _ (wo c s (aW (.lst (L.map qi))) PC PC PC (aW (.lst o)) (fS (qi t)) (fS (fL l)) PC)) _;obtain⟨B,u⟩:=C4 (U:=U_29.fn) (Z:=wo c s (aW (.lst (L.map qi))) PC PC PC (aW (.lst o)) (fS (qi t)) (fS (fL l)) PC) (cap:=[PC,PC,PC,PB 2,PB 1]) (a:=.var 12) (k:=.sh) N rfl rfl rfl (by have:=O l I;lia) rfl;show jJ (iw (wv (fH (kds:=[(.sh,pD (sp 0 t.1)),(.sh,pD (sp 1 t.2)),(.fr k0,fL B),(.fr k0,dN)]) (e4 (bK (k:=.sh) (k':=.sh) (n:=0) (hd:=.tup) (xs:=[pD (sp 0 t.1),pD (sp 1 t.2)]) rfl rfl (.inr rfl) rfl rfl) (bK (k:=.sh) (k':=.sh) (n:=1) (hd:=.tup) (xs:=[pD (sp 0 t.1),pD (sp 1 t.2)]) rfl rfl (.inr rfl) rfl rfl) u rfl) ⟨rfl,by simp⟩) ⟨_,_,_,rfl,⟨M3 _,rfl,by lia⟩,a7 ⟨_,.inl rfl,o++[.tup [pD (sp 0 t.1),pD (sp 1 t.2),fL B,dN]],fS (qi t),fS (fL l),?_,rfl⟩⟩));rw[MN,C];rfl
  ·obtain⟨o,y,A,C,rfl⟩:=v
   let C:o.length<=40:=by
    have:=(show o.length=(kJ ((L.drop c.ins).map qi) (q.map fL)).length from C);unfold kJ at this;simp at this
    lia
   obtain⟨B,u⟩:=C4 (U:=U_29.fn) (Z:=wo c s (aW (.lst (L.map qi))) PC PC (aW (.lst (q.map fL))) (aW (.lst o)) PC PC PC) (cap:=[PC,PC,PC,PB 2,PB 1]) (l:=c.outs) (a:=.var 5) (k:=.sh) N rfl rfl rfl (by lia) rfl;show au u rfl (by decide) ?_;change Wp (aq _ _ _ [] (wo c s (aW (.lst (L.map qi))) PC PC (aW (.lst (q.map fL))) (aW (.lst o)) PC PC (aW (fL B)))) _
   let P:∀{Z:Ro},Z=wo c s (aW (.lst (L.map qi))) PC PC (aW (.lst (q.map fL))) (aW (.lst o)) PC PC (aW (fL B))->aa U_29.fn (.blt "len" (.cons (.var 3) .nil)) Z=PB (.sh,iD c.mems.length):=λ{Z} e=>by
    subst e;show aX (l:=c.mems) (f:=bu) (k:=.sh) rfl (.inl rfl)
   show cR (dU (bd (ce (wv (r:=(.fr k0,dN)) rfl ⟨rfl,bd (ce (wv (CY (k:=.bo 10 k0) (xs:=o) rfl (P rfl) rfl) ⟨rfl,bd (ce (wv (CZ (k:=.bo 10 k0) (xs:=o) rfl (P rfl) rfl) ⟨rfl,bY (dv rfl (aU (dA rfl ⟨rfl,eD rfl ⟨_,rfl⟩⟩)))⟩))⟩))⟩))))
theorem Jh{U:GG}{Z:Ro}{i:Nat}{Q:Kd×D×Ro->Prop}(t:U.fm 23=PB Gn)(u:Z[i]?=PB (PB s))(h:Wp (bp U a Z) λx=>∃m n d,x.1=.sh/\x.2.1=iD m/\x.2.2[i]?=PB (sS d)/\Stt n d/\n<=1000/\0<m/\m<2^64/\∀(r:Nat) d',r<m->Stt (n+1) d'->Q (.sh,iD r,x.2.2.set i (sS d'))):Wp (bp U (.io 23 (.ref i (.val a .nil))) Z) Q:=by
 show uj t (lp u (eP (h.mono λx f=>?_)));obtain⟨v,w,e⟩:=x;obtain⟨m,n,d,rfl,rfl,c,o,l,p,b,q⟩:=f;let c:e[i]?=PB (sS d):=c;show⟨rfl,ln ⟨by simp[cJ],[(kS,d),(.fz,iD m)],?_,uO o l p b λr d' g j=>⟨rfl,rfl,q r d' g j⟩⟩⟩
 change(match e[i]?,PB [((.fz:Ow),iD m)] with|some (PB ⟨PF,k,d⟩),PB ks=>PB ((k,d)::ks)|_,_=>PC)=_
 rw[c]
theorem BO{ns:List Int}(P:ns.length<=63):∃c a x,Ok c/\c.outs.length<=9/\a<c.outs.length/\x<c.m c.outs/\Go [.scr ns]=PB (.sh,.tup [cD c,iD a,iD x]):=by
 suffices w:Wp (Go [.scr ns]) λr=>∃c a x,Ok c/\c.outs.length<=9/\a<c.outs.length/\x<c.m c.outs/\r=(.sh,.tup [cD c,iD a,iD x]) by
  obtain⟨r,e,c,a,x,Z,W,L,M,rfl⟩:=w;show⟨c,a,x,Z,W,L,M,e⟩
 unfold Go;show nZ rfl ?_;unfold Li;change Wp (aq _ _ _ [] [fS (.scr ns),PC,PC,PC,PC,PC]) _;show eC (ce (yB (B:=IA) rfl (wv (e1 (p:=(.sh,.scr ns)) rfl) (ui (zq P λd Q=>⟨rfl,.inl rfl,⟨rfl,by decide⟩,?_⟩)))));change Wp (aq _ _ _ [] [fS (.scr ns),sS d,PC,PC,PC,PC]) _;show eC (nW (bd (ce (wv (r:=(.sh,iD 1)) rfl ⟨rfl,bY (jQ (m:=3) rfl rfl Q (by lia) rfl (by decide) (by decide) λr O hr A=>aU ⟨_,_,rfl,wv (r:=(.sh,iD (1+r))) rfl ⟨⟨rfl,by decide⟩,?_⟩⟩)⟩))));change Wp (aq _ _ _ [] [fS (.scr ns),sS O,fS (iD (1+r)),PC,PC,PC]) _;show eC (uj (B:=IC) rfl (lp rfl (eP (ce (wv (r:=(.sh,iD (1+r))) rfl ⟨rfl,?_⟩)))));show eP (jQ (m:=4) rfl rfl A (by lia) rfl (by decide) (by decide) λR d2 hm s=>⟨rfl,?_⟩);show eP (ce (wv (r:=(.sh,iD 8)) rfl ⟨rfl,eP (nW (bd (ce (wv (r:=(.sh,iD 1)) rfl ⟨rfl,bY (Jh rfl rfl ?_)⟩))))⟩));show Cv (bd (ce (wv (r:=(.fr k0,.lst [iD 4,iD 9])) rfl ⟨rfl,bY (nW (bY ?_))⟩)));show jQ (m:=4) rfl rfl s (by lia) rfl (by decide) (by decide) λy U X g=>aB (ba (aU ⟨_,_,rfl,uf (i:=y) (j:=3) ⟨by decide,by decide⟩ (aU ⟨_,_,rfl,?_⟩)⟩))
 obtain⟨z,hz,F⟩:∃z:Nat,(z=4\/z=9)/\[iD 4,iD 9][y / 3]?=PB (iD z):=by
  match y,X with
  |0,_=>show⟨4,.inl rfl,rfl⟩
  |1,_=>show⟨4,.inl rfl,rfl⟩
  |2,_=>show⟨4,.inl rfl,rfl⟩
  |3,_=>show⟨9,.inr rfl,rfl⟩
 show wv (CH (k:=.fr k0) (k':=.sh) (d:=iD z) (.inl rfl) (CI (n:=y / 3) rfl (Mv.mp F).1) F) ⟨z,_,U,rfl,rfl,rfl,g,by lia,by lia,by lia,λo T ho E=>aU ⟨_,_,rfl,wv (r:=(.sh,iD (1+o))) rfl ⟨rfl,ln ⟨by simp[cJ],[(kS,T),(.fz,iD (1+r)),(.fz,iD R),(.fz,iD 8),(.fz,iD (1+o))],rfl,sr E (by lia) (by lia) (by lia) (by lia) (by lia) λc t H u Y v=>⟨rfl,rfl,⟨rfl,by decide⟩,?_⟩⟩⟩⟩⟩;change Wp (aq _ _ _ [] [fS (.scr ns),sS t,fS (iD (1+r)),fS (cD c),PC,PC]) _;let bn:=H.bn;let b:∀{I V:Option Sl} (n:Nat) d,[iD c.ins,D.lst (c.mems.map bu),.lst (c.gates.map aC),.lst (c.outs.map iD)][n]?=PB d->aa U_25.fn (.ix (.var 3) (.lit (.int (n:Int)))) [fS (.scr ns),sS t,fS (iD (1+r)),fS (cD c),I,V]=PB (.sh,d):=λn d h=>bK (k:=.sh) (k':=.sh) (n:=n) rfl rfl (.inr rfl) rfl h;show au (x:=(.sh,iD c.n)) (cq (p:=c.f) (k:=.sh) (k':=.sh) (cq (p:=c.ins) (k:=.sh) (k':=.sh) (by rw[u];rfl) (aX (l:=c.mems) (f:=bu) (k:=.sh) (b 1 _ rfl) (.inl rfl))) (aX (l:=c.gates) (f:=aC) (k:=.sh) (b 2 _ rfl) (.inl rfl))) rfl (by decide) ?_;show au (x:=(.sh,iD c.outs.length)) (aX (l:=c.outs) (f:=iD) (k:=.sh) (b 3 _ rfl) (.inl rfl)) rfl (by decide) ?_;change Wp (aq _ _ _ [] [fS (.scr ns),sS t,fS (iD (1+r)),fS (cD c),fS (iD c.n),fS (iD c.outs.length)]) _;show cR (dU (bd (ce (wv (r:=(.sh,cD c)) rfl ⟨rfl,bd (jQ (m:=c.outs.length) rfl rfl v (by lia) rfl (by lia) (by lia) λa d6 S C=>⟨rfl,bY (jQ (m:=c.m c.outs) rfl rfl C (by lia) (cq (p:=c.n) (q:=2*c.outs.length) (k:=.sh) (k':=.sh) rfl ?_) (by change 0<c.n+_;lia) (by change c.n+_<_;lia) λx d7 N K=>aU (dA rfl ⟨rfl,eD rfl ⟨c,a,x,H,by lia,S,N,rfl⟩⟩))⟩)⟩))));show fI (k:=.sh) (k':=.sh) (i:=2) (j:=(c.outs.length:Int)) ⟨by decide,bZ (by lia)⟩ rfl rfl
theorem BQ{n:Nat}{ds:List D}(h:∀d∈ds,d9 n d=PD):d9 (n+1) (.lst ds)=PD:=by
 change(decide (1<=n+1)&&g7 (n+1-1) ds)=PD;rw[decide_eq_true (by lia),OI,iy h];rfl
theorem dO{n:Nat}{ds:List D}(h:∀d∈ds,d9 n d=PD):d9 (n+1) (.tup ds)=PD:=by
 change(decide (1<=n+1)&&g7 (n+1-1) ds)=PD;rw[decide_eq_true (by lia),OI,iy h];rfl
theorem c7{n:Nat}{α:Type}{l:List α}{f:α->D}(h:∀a,d9 n (f a)=PD):d9 (n+1) (.lst (l.map f))=PD:=BQ λd b=>by
 obtain⟨a,_,rfl⟩:=Nd.mp b;show h a
theorem cA:d9 n (iD k)=PD:=by unfold d9;rfl
theorem uS(n:Nat)(z:Bool)(a:Nat)(fr:List Nat):d9 (n+3) (v6 z a fr)=PD:=dO λd b=>by
 simp only[MD,MS,or_false] at b;rcases b with rfl|rfl|rfl|rfl
 ·show dO (n:=n+1) λd b=>by
   simp only[MD,MS,or_false] at b
   rcases b with rfl|rfl<;>show cA
 ·show dO (n:=n+1) λd b=>by
   simp only[MD,MS,or_false] at b
   rcases b with rfl|rfl<;>show cA
 ·show c7 (n:=n+1) λa=>cA
 ·show c7 (n:=n+1) λa=>cA
theorem lE(x y:D)(xs ys:List D):gx (.lst (x::xs)) (.lst (y::ys))=(gx x y&&gx (.lst xs) (.lst ys)):=rfl
theorem zx(p:Nat):gx (gO p) (gO p)=PD:=fC (n:=90) rfl
theorem zy(z:Bool)(k p:Nat):gx (uL z k) (gO p)=(!z&&decide (k=p)):=by
 let e:∀a b:Int,gx (.int a) (.int b)=decide (a=b):=λa b=>j8;let h:gx (uL z k) (gO p)=((gx (.int z.toNat) (.int 0)&&(gx (iD k) (iD p)&&PD))&&((gx (.int (!z).toNat) (.int 1)&&(gx (iD k) (iD p)&&PD))&&PD)):=rfl;rw[h,e,e,e,show decide ((k:Int)=p)=decide (k=p) from decide_eq_decide.mpr Oy]
 cases z<;>cases decide (k=p)<;>rfl
theorem uT{F G:Nat->D}(c:∀p,gx (G p) (G p)=PD):∀{os:List Nat} {a x p:Nat},os[a]?=PB p->(∀q∈os,F q=G q)->gx (.lst ((eT os a x).map F)) (.lst (os.map G))=gx (F x) (G p)
 |[],_,_,_,h,_=>by simp at h
 |q::os,0,x,p,h,hF=>by
  cases h
  let e:∀l:List Nat,gx (.lst (l.map G)) (.lst (l.map G))=PD:=λl=>by
   induction l with
   |nil=>rfl
   |cons q l d=>rw[MQ,lE,c,d];rfl
  change gx (.lst (F x::os.map F)) (.lst (G q::os.map G))=_;rw[lE,NZ λq b=>hF q (MK _ b),e,Bool.and_true]
 |q::os,a+1,x,p,h,hF=>by
  change gx (.lst (F q::(eT os a x).map F)) (.lst (G q::os.map G))=_;rw[lE,hF q MX,c,Oo];show uT c h λq b=>hF q (MK _ b)
theorem su{c:Ci}{e:Nat}(h:e<c.n):wn c ex e=gO e:=by unfold wn;rw[NQ,uM h];rfl
theorem FQ{c:Ci}{ex:List Nat}{j p:Nat}(z:Bool)(h:ex[j]?=PB p):wn c ex (c.n+(2*j+z.toNat))=uL z p:=by unfold wn;rw[NQ,ot z h];rfl
def gm(c:Ci)(p:Nat):List Nat:=p::(c.outs.zipIdx.filter λq=>decide (q.1=p)).map λq=>c.n+2*q.2
theorem mem_good{c:Ci}{p x:Nat}:x∈gm c p↔x=p\/∃j,c.outs[j]?=PB p/\x=c.n+2*j:=by
 unfold gm;rw[MD];show or_congr Iff.rfl ⟨λh=>?_,λ⟨j,a,b⟩=>?_⟩
 ·obtain⟨q,d,rfl⟩:=Nd.mp h;obtain⟨a,b⟩:=Od.mp d;have:=Fw a;rw[of_decide_eq_true b] at this;show⟨q.2,this,rfl⟩
 ·show Nd.mpr ⟨(p,j),Od.mpr ⟨N6.mpr a,by simp⟩,b.symm⟩
theorem BR{c:Ci}{p x:Nat}(b:p<c.n)(h:x∈gm c p):x<c.m c.outs:=by
 unfold Ci.m;rcases mem_good.mp h with rfl|⟨j,a,rfl⟩
 ·lia
 ·have:=(Mv.mp a).1
  lia
theorem FR{c:Ci}{p x:Nat}(l:p<c.n)(k:x<c.m c.outs):gx (wn c c.outs x) (gO p)=decide (x∈gm c p):=by
 by_cases g:x<c.n
 ·rw[su g,show gO x=uL PF x from rfl,zy];change decide (x=p)=_;show decide_eq_decide.mpr ⟨λe=>mem_good.mpr (.inl e),λh=>(mem_good.mp h).elim id λ⟨j,_,e⟩=>by lia⟩
 ·unfold Ci.m at k;let f:(x-c.n) / 2<c.outs.length:=by lia
  obtain⟨z,d⟩:∃z:Bool,x=c.n+(2*((x-c.n) / 2)+z.toNat):=by
   rcases Ob (x-c.n) with m|m
   ·show⟨PF,by change _=c.n+(2*_+0);lia⟩
   ·show⟨PD,by change _=c.n+(2*_+1);lia⟩
  generalize (x-c.n) / 2=j at f d;let a:=MF f;rw[d,FQ z a,zy]
  cases z with
  |false=>
   change decide (c.outs[j]=p)=_;show decide_eq_decide.mpr ⟨λe=>mem_good.mpr (.inr ⟨j,by rw[a,e],rfl⟩),λh=>(mem_good.mp h).elim (λe=>by lia) λ⟨i,b,e⟩=>?_⟩;have:i=j:=by change c.n+(2*j+0)=_ at e;lia
   rw[this,a] at b;show Option.some.inj b
  |true=>
   change PF=_;show(decide_eq_false λh=>(mem_good.mp h).elim (λe=>by lia) λ⟨i,b,e⟩=>?_).symm;change c.n+(2*j+1)=_ at e
   lia
theorem lF{c:Ci}(h:Ok c){a x p:Nat}(b:c.outs[a]?=PB p)(d:x<c.m c.outs):r6 [cD c,cD c,bO c c.outs (eT c.outs a x)]=PB (.sh,.bl (decide (x∈gm c p))):=by
 let e:=(Mv.mp b).1;rw[mS h (BN h e d),uT zx b λq f=>su (h.o q f),FR (h.o p (MH b)) d]
theorem FS{xs ys:List D}(e:aa U a Z=PB (.sh,.tup xs))(c:aa U b Z=PB (.sh,.tup ys))(d:xs.length+ys.length<=100000/\xs≠[]/\ys≠[]):aa U (.bin .Add a b) Z=PB (.sh,.tup (xs++ys)):=aD (bb (wv e (wv c ⟨_,if_pos ⟨rfl,rfl,d⟩,rfl⟩)))
theorem zA{l:List Nat}{p:Nat}(c:aa U a Z=PB (.sh,.tup [x,y,z,.lst (l.map iD)]))(d:aa U b Z=PB (.sh,iD p))(e:l.length<=1000):aa U (.bin .Add (.sl a .non (.som (.lit (.int 3)))) (.tup .fz (.cons (.bin .Add (.ix a (.lit (.int 3))) (.lst (.own [] .fz) (.cons b .nil))) .nil))) Z=PB (.sh,.tup [x,y,z,.lst ((l++[p]).map iD)]):=by
 have:=FS (uE (n:=3) c (by simp)) (fH (kds:=[(.fr k0,.lst (l.map iD++[iD p]))]) (e1 (lx (k:=.sh) (k':=.fr k0) ⟨rfl,rfl,by simp;lia⟩ (bK (k:=.sh) (k':=.sh) (n:=3) (b:=.lit (.int 3)) (z:=3) c rfl (.inr rfl) rfl rfl) (eX (kds:=[(.sh,iD p)]) (e1 d) ⟨rfl,by simp⟩))) ⟨rfl,by simp⟩) (by simp);rw[MU];show this
theorem qj:∀{os:List Nat} {a p:Nat},os[a]?=PB p->eT os a p=os
 |q::os,0,p,h=>by cases h;rfl
 |q::os,a+1,p,h=>congrArg (q::·) (qj (os:=os) h)
theorem fK{U:GG}(f:U.fn 10=PB r6)(e:aa U.fn a Z=PB (.sh,x))(c:aa U.fn b Z=PB (.sh,y))(hd:aa U.fn d Z=PB (.sh,z))(h:r6 [x,y,z]=PB (.sh,.bl r)):aa U.fn (.fn 10 (.cons a (.cons b (.cons d .nil)))) Z=PB (.sh,.bl r):=bC f (e3 e c hd) rfl rfl h rfl
noncomputable abbrev gp(c:Ci)(p:Nat):Ci:=⟨c.ins,c.mems,c.gates,c.outs++[p]⟩
theorem zB{c:Ci}(h:Ok c)(Q:c.outs.length<=9){a p:Nat}(j:c.outs[a]?=PB p):IF [cD c,iD a]=PB (.sh,.bl PD):=by
 let L:=(Mv.mp j).1;let D:=h.o p (MH j);let v:∀q∈c.outs++[p],q<c.n:=λq F=>(M5.mp F).elim (h.o q) λz=>by rw[MY.mp z];show D
 let O:Ok (gp c p):=⟨h.g,h.m,v,h.bi,h.bm,h.bg,by change(c.outs++[p]).length<=10;rw[MN];change _+1<=10;lia⟩
 let E:r6 [cD (gp c p),cD (gp c p),bO c c.outs (c.outs++[p])]=PB (.sh,.bl PD):=by
  rw[show bO c c.outs (c.outs++[p])=bO (gp c p) c.outs (c.outs++[p]) from rfl,mS O ⟨h.bo,h.o,rfl,λe A=>MG (v e A) (NY _ _)⟩,NZ (g:=gO) λe A=>su (c:=gp c p) (v e A)];rw[fC (ou λd hd=>?_)];obtain⟨e,_,rfl⟩:=Nd.mp hd;show⟨PF,e,rfl⟩
 let b:c.outs.length≠(c.outs++[p]).length:=by rw[MN];change _≠_+1;lia
 let I:∀d,r6 [cD c,cD (gp c p),d]=PB (.sh,.bl PF):=λd=>fZ (.inr b);let N:∀d,r6 [cD (gp c p),cD c,d]=PB (.sh,.bl PF):=λd=>fZ (.inr b.symm);let H:∀d,r6 [cD c,cD (wc c),d]=PB (.sh,.bl PF):=λd=>fZ (.inl (by change c.ins≠c.ins+1;lia));let M:∀d,r6 [cD (wc c),cD c,d]=PB (.sh,.bl PF):=λd=>fZ (.inl (by change c.ins+1≠c.ins;lia));obtain⟨P,b0⟩:=zw h (s:=0) (by decide);obtain⟨K,b1⟩:=zw h (s:=1) (by decide);let C:=zt h (x:=p) L;rw[qj j] at C;unfold IF;show eZ rfl ?_;unfold Ln;change Wp (aq _ _ _ [] [fS (cD c),fS (iD a),PC,PC,PC,PC,PC,PC,PC]) _;show au (x:=(.sh,iD p)) (bK (k:=.sh) (k':=.sh) (n:=a) (hd:=.lst) (xs:=c.outs.map iD) (bK (k:=.sh) (k':=.sh) (n:=3) (hd:=.tup) (xs:=[iD c.ins,.lst (c.mems.map bu),.lst (c.gates.map aC),.lst (c.outs.map iD)]) rfl rfl (.inr rfl) rfl rfl) rfl (.inl rfl) rfl (by rw[MA,j];rfl)) rfl (by decide) ?_;show au (x:=(.sh,cD (gp c p))) (zA (x:=iD c.ins) (y:=.lst (c.mems.map bu)) (z:=.lst (c.gates.map aC)) (l:=c.outs) rfl rfl (by lia)) rfl (by decide) ?_;show au (x:=(.sh,bO c c.outs c.outs)) (bC (B:=Fh) (ds:=[cD c,iD a,iD p]) rfl (e3 (p:=(.sh,cD c)) (q:=(.sh,iD a)) (u:=(.sh,iD p)) rfl rfl rfl) rfl rfl C rfl) rfl (by decide) ?_;show au (x:=(.sh,bO c c.outs (c.outs++[p]))) (zA (x:=dN) (y:=hD c) (z:=lD c c.outs) (l:=c.outs) rfl rfl (by lia)) rfl (by decide) ?_;change Wp (aq _ _ _ [] [fS (cD c),fS (iD a),fS (iD p),fS (cD (gp c p)),fS (bO c c.outs c.outs),fS (bO c c.outs (c.outs++[p])),PC,PC,PC]) _;show cV (z:=PF) (x:=(.sh,.bl PF)) (bR (fK rfl rfl rfl rfl E) rfl rfl) (λe=>by cases e) λ_=>?_;show cU (cb (gh (wv (eX (kds:=[(.sh,.tup [cD c,cD (gp c p)]),(.sh,.tup [cD (gp c p),cD c])]) (e2 (fH (kds:=[(.sh,cD c),(.sh,cD (gp c p))]) (e2 rfl rfl) ⟨rfl,by simp⟩) (fH (kds:=[(.sh,cD (gp c p)),(.sh,cD c)]) (e2 rfl rfl) ⟨rfl,by simp⟩)) ⟨rfl,by simp⟩) (dw rfl ⟨λ_ Z=>∃t r,Z=[fS (cD c),fS (iD a),fS (iD p),fS (cD (gp c p)),fS (bO c c.outs c.outs),fS (bO c c.outs (c.outs++[p])),t,r,PC],⟨PC,PC,rfl⟩,λi d Z hd w=>?_,λZ w=>?_⟩))))
 ·obtain⟨t,r,rfl⟩:=w
  obtain⟨x,y,rfl,f⟩:∃x y,d=.tup [x,y]/\∀d,r6 [x,y,d]=PB (.sh,.bl PF):=by
   match i,hd with
   |0,hd=>show⟨_,_,(Option.some.inj hd).symm,I⟩
   |1,hd=>show⟨_,_,(Option.some.inj hd).symm,N⟩
   |i+2,hd=>simp at hd
  show⟨[(6,x),(7,y)],rfl,rfl,?_⟩;change Wp (aq _ _ _ _ [fS (cD c),fS (iD a),fS (iD p),fS (cD (gp c p)),fS (bO c c.outs c.outs),fS (bO c c.outs (c.outs++[p])),fS x,fS y,PC]) _;show cV (z:=PF||false) (x:=(.sh,.bl PF)) (n5 (bR (fK rfl (x:=x) (y:=y) rfl rfl rfl (f _)) rfl rfl) λ_=>eV (bR (fK rfl (x:=x) (y:=y) rfl rfl rfl (f _)) rfl rfl)) (λe=>by cases e) λ_=>a7 ⟨_,.inl rfl,_,_,rfl⟩
 ·obtain⟨t,r,rfl⟩:=w;show au (bC (B:=ID) (ds:=[cD c]) rfl (e1 (p:=(.sh,cD c)) rfl) rfl rfl (FN h) rfl) rfl (by decide) ?_;change Wp (aq _ _ _ [] [fS (cD c),fS (iD a),fS (iD p),fS (cD (gp c p)),fS (bO c c.outs c.outs),fS (bO c c.outs (c.outs++[p])),PC,PC,fS (cD (wc c))]) _;show cV (z:=PF) (x:=(.sh,.bl PF)) (bR (fK rfl rfl rfl (bC (B:=Fl) (ds:=[cD c,iD 0]) rfl (e2 (p:=(.sh,cD c)) (q:=(.sh,iD 0)) rfl rfl) rfl rfl b0 rfl) (H P)) rfl rfl) (λe=>by cases e) λ_=>?_;show cc (eW (bR (fK rfl rfl rfl (bC (B:=Fl) (ds:=[cD c,iD 1]) rfl (e2 (p:=(.sh,cD c)) (q:=(.sh,iD 1)) rfl rfl) rfl rfl b1 rfl) (M K)) rfl rfl)) rfl (fF rfl rfl)
theorem BS(c:Ci)(ex e:List Nat):d9 90 (bO c ex e)=PD:=dO (n:=89) λd b=>by
 simp only[MD,MS,or_false] at b;rcases b with rfl|rfl|rfl|rfl
 ·show c7 (n:=88) λa=>cA
 ·show c7 (n:=88) λt=>uS 85 _ _ _
 ·show c7 (n:=88) λt=>uS 85 _ _ _
 ·show c7 (n:=88) λa=>cA
theorem zC(c:Ci):d9 90 (cD c)=PD:=dO (n:=89) λd b=>by
 simp only[MD,MS,or_false] at b;rcases b with rfl|rfl|rfl|rfl
 ·show cA
 ·show c7 (n:=88) λm=>dO (n:=87) λd b=>by
   simp only[MD,MS,or_false] at b
   rcases b with rfl|rfl<;>(unfold d9;rfl)
 ·show c7 (n:=88) λg=>dO (n:=87) λd b=>by
   simp only[MD,MS,or_false] at b;rcases b with rfl|rfl
   ·show cA
   ·show dO (n:=86) λd b=>by
     obtain⟨a,_,rfl⟩:=Nd.mp b;show cA
 ·show c7 (n:=88) λa=>cA
theorem BU(x:Nat)(l:List Nat):cY .In (iD x) (.lst (l.map iD))=PB (decide (x∈l)):=by
 change(if d9 90 (iD x)=PD/\g7 90 (l.map iD)=PD then PB ((l.map iD).any λz=>gx z (iD x)) else PC)=_
 rw[if_pos ⟨rfl,iy λd b=>by obtain⟨k,_,rfl⟩:=Nd.mp b;rfl⟩];congr 1;rw[List.any_map,Py,List.any_eq_true,decide_eq_true_eq];constructor
 ·rintro ⟨y,a,e⟩
  let e:gx (iD y) (iD x)=PD:=e;rw[j8] at e;rw[<- Oy.mp (of_decide_eq_true e)];show a
 ·show λh=>⟨x,h,fC (n:=90) rfl⟩
theorem uU(h:d9 90 d=PD):cY .NotEq d d=PB PF:=(if_pos ⟨h,h⟩).trans (by rw[fC h];rfl)
theorem uV{α:Type}{f g:α->D}{P:α->Bool}{d:D->Option (Option KD)}:∀{l:List α},(∀a∈l,Wp (d (f a)) λo=>(P a=PD->∃c,o=PB (c,g a)/\bM r (c,g a)=PD)/\(P a=PF->o=PC))->Wp (aP r d (l.map f)) λys=>ys=(l.filter P).map g
 |[],_=>⟨[],rfl,rfl⟩
 |a::l,h=>by
  obtain⟨ys,e1,rfl⟩:=uV (l:=l) λx e=>h x (MK _ e);obtain⟨o,e2,k,i⟩:=h a MX
  cases b:P a with
  |true=>
   obtain⟨c,rfl,j⟩:=k b;show⟨g a::(l.filter P).map g,by simp[aP,e1,e2,j],by rw[List.filter_cons_of_pos b];rfl⟩
  |false=>
   obtain rfl:=i b;show⟨(l.filter P).map g,by simp[aP,e1,e2],by rw[List.filter_cons_of_neg (by rw[b];decide)]⟩
abbrev Jz(ns:List Int)(c:Ci)(a x p:Nat)(F:D)(O q B:Option Sl):Ro:=[fS (.scr ns),fS (cD c),fS (iD a),fS (iD x),fS (iD c.n),fS (iD p),aW F,O,fS (bO c c.outs (eT c.outs a x)),fS (.bl (decide (x∈gm c p))),q,B]
theorem zD(ns:List Int)(W:ns.length<=63):IG [.scr ns]=PB (.sh,.bl PD):=by
 obtain⟨c,a,x,h,T,C,U,E⟩:=BO W;let v:=MF C;generalize c.outs[a]=p at v;let hp:=h.o p (MH v);let bo:=h.bo;let bn:=h.bn;let N:=λx=>zt h (x:=x) C;unfold IG;show eZ rfl ?_;unfold Lo;change Wp (aq _ _ _ [] [fS (.scr ns),PC,PC,PC,PC,PC,PC,PC,PC,PC,PC,PC]) _
 let A:∀{Z:Ro} {s:List (Option Sl)},Z=fS (.scr ns)::s->aa U_31.fn (.fn 26 (.cons (.var 0) .nil)) Z=PB (.sh,.tup [cD c,iD a,iD x]):=λ{Z s} e=>by
  subst e;show bC (B:=Go) (ds:=[.scr ns]) rfl (e1 (p:=(.sh,.scr ns)) rfl) rfl rfl E rfl
 show dM (ds:=[cD c,iD a,iD x]) (A rfl) ⟨rfl,rfl⟩ ?_;let w:∀{S x5 x6 x7 V Y b t:Option Sl} (n:Nat) d,[iD c.ins,D.lst (c.mems.map bu),.lst (c.gates.map aC),.lst (c.outs.map iD)][n]?=PB d->aa U_31.fn (.ix (.var 1) (.lit (.int (n:Int)))) [fS (.scr ns),fS (cD c),fS (iD a),fS (iD x),S,x5,x6,x7,V,Y,b,t]=PB (.sh,d):=λn d h=>bK (k:=.sh) (k':=.sh) (n:=n) rfl rfl (.inr rfl) rfl h;show au (x:=(.sh,iD c.n)) (cq (p:=c.f) (k:=.sh) (k':=.sh) (cq (p:=c.ins) (k:=.sh) (k':=.sh) (w 0 _ rfl) (aX (l:=c.mems) (f:=bu) (k:=.sh) (w 1 _ rfl) (.inl rfl))) (aX (l:=c.gates) (f:=aC) (k:=.sh) (w 2 _ rfl) (.inl rfl))) rfl (by decide) ?_;show au (x:=(.sh,iD p)) (bK (k:=.sh) (k':=.sh) (n:=a) (hd:=.lst) (xs:=c.outs.map iD) (w 3 _ rfl) rfl (.inl rfl) rfl (by rw[MA,v];rfl)) rfl (by decide) ?_;change Wp (aq _ _ _ [] [fS (.scr ns),fS (cD c),fS (iD a),fS (iD x),fS (iD c.n),fS (iD p),PC,PC,PC,PC,PC,PC]) _;show au (x:=(.fr k0,.lst ((c.outs.zipIdx.filter λq=>decide (q.1=p)).map λq=>iD q.2))) (aD (dL (nV (wv (w 3 _ rfl) (sd rfl ⟨by simp;lia,by rw[n9];show(uV (P:=λq=>decide (q.1=p)) (g:=λq=>iD q.2) λq Q=>zn (ps:=[(1,iD q.2),(2,iD q.1)]) rfl rfl (wv ((p4 (k:=.sh) (k':=.sh) (i:=(q.1:Int)) (j:=(p:Int)) rfl rfl).trans (congrArg PB (decide_eq_decide.mpr Oy))) ⟨λe=>wv rfl ⟨λ_=>⟨_,rfl,rfl⟩,λz=>absurd (e.symm.trans z) (by decide)⟩,λe=>⟨λz=>absurd (z.symm.trans e) (by decide),λ_=>rfl⟩⟩)).mono λys e=>by rw[e]⟩))))) rfl (by decide) ?_;change Wp (aq _ _ _ [] [fS (.scr ns),fS (cD c),fS (iD a),fS (iD x),fS (iD c.n),fS (iD p),aW (.lst ((c.outs.zipIdx.filter λq=>decide (q.1=p)).map λq=>iD q.2)),PC,PC,PC,PC,PC]) _;let lf:(c.outs.zipIdx.filter λq=>decide (q.1=p)).length<=10:=Nb (List.length_filter_le _ _) (by simpa using h.bo);show au (x:=(.fr k0,.lst ((gm c p).map iD))) ((lx (k:=.fr k0) (k':=.fr k0) (xs:=[iD p]) (ys:=(c.outs.zipIdx.filter λq=>decide (q.1=p)).map λq=>iD (c.n+2*q.2)) ⟨rfl,rfl,by simp at lf⊢;lia⟩ (eX (kds:=[(.sh,iD p)]) (e1 rfl) ⟨rfl,by simp⟩) (iC (k:=.bo 6 k0) (hd:=.lst) (l:=c.outs.zipIdx.filter λq=>decide (q.1=p)) (f:=λq=>iD q.2) (g:=λq=>iD (c.n+2*q.2)) (.inl rfl) rfl rfl (by lia) λq Q=>v3 rfl (wv (cq (p:=c.n) (q:=2*q.2) (k:=.sh) (k':=.sh) rfl (fI (k:=.sh) (k':=.sh) (i:=2) (j:=(q.2:Int)) ⟨by decide,bZ (by have:=(Mv.mp (Fw (Od.mp Q).1)).1;lia)⟩ rfl rfl)) ⟨_,rfl,rfl⟩))).trans (by unfold gm;rw[MQ,MV];rfl)) rfl (by decide) ?_;show au (x:=(.sh,bO c c.outs (eT c.outs a x))) (bC (B:=Fh) (ds:=[cD c,iD a,iD x]) rfl (e3 (p:=(.sh,cD c)) (q:=(.sh,iD a)) (u:=(.sh,iD x)) rfl rfl rfl) rfl rfl (N x) rfl) rfl (by decide) ?_;show au (x:=(.sh,.bl (decide (x∈gm c p)))) (fK rfl rfl rfl rfl (lF h v U)) rfl (by decide) ?_;generalize hF:D.lst ((c.outs.zipIdx.filter λq=>decide (q.1=p)).map λq=>iD q.2)=F;let R:nB "bool" (.bl (decide (x∈gm c p)))=PB PD:=rfl;change Wp (aq _ _ _ [] (Jz ns c a x p F (aW (.lst ((gm c p).map iD))) PC PC)) _;show cV (z:=PF||false) (x:=(.sh,.bl PF)) (n5 (eU (x:=PD) (yW (k:=.sh) (d:=.bl (decide (x∈gm c p))) rfl R)) λ_=>eV (bR (k:=.sh) (k':=.sh) (d:=.bl (decide (x∈gm c p))) rfl (eW (bR (k:=.sh) (k':=.bo 7 k0) rfl rfl (BU x _))) (uU rfl))) (λe=>by cases e) λ_=>?_;let pk:∀{Z:Ro} {e:IE} {y:Nat},Z[1]?=PB (fS (cD c))->Z[2]?=PB (fS (iD a))->aa U_31.fn e Z=PB (.sh,iD y)->aa U_31.fn (.fn 27 (.cons (.var 1) (.cons (.var 2) (.cons e .nil)))) Z=PB (.sh,bO c c.outs (eT c.outs a y)):=λ{Z e y} L h2 X=>bC (B:=Fh) (ds:=[cD c,iD a,iD y]) rfl (e3 (p:=(.sh,cD c)) (q:=(.sh,iD a)) (aD (aJ L rfl)) (aD (aJ h2 rfl)) X) rfl rfl (N y) rfl;show cV (z:=PF) (x:=(.sh,.bl PF)) (bR (k:=.sh) (d:=bO c c.outs (eT c.outs a x)) rfl (pk rfl rfl rfl) (uU (BS _ _ _))) (λe=>by cases e) λ_=>?_;show cU (cb (gh (wv (r:=(.bo 7 k0,.lst ((gm c p).map iD))) rfl (dw rfl ⟨λ_ Z=>∃b t,Z=Jz ns c a x p F PC b t,⟨PC,PC,rfl⟩,λi d Z hd I=>?_,λZ I=>?_⟩))))
 ·obtain⟨b,t,rfl⟩:=I;let hd:((gm c p).map iD)[i]?=PB d:=hd;rw[MA] at hd
  cases e:(gm c p)[i]? with
  |none=>rw[e] at hd;cases hd
  |some y=>
   rw[e] at hd;cases hd;let K:=MH e;let H:=BR hp K;show⟨[(10,iD y)],rfl,rfl,?_⟩;change Wp (aq _ _ _ _ (Jz ns c a x p F PC (fS (iD y)) PC)) _;let O:=lF h v H;rw[decide_eq_true K] at O;show cV (z:=PF) (x:=(.sh,.bl PF)) (bR (fK rfl rfl rfl (pk rfl rfl rfl) O) rfl rfl) (λe=>by cases e) λ_=>?_;show au (x:=(.sh,bO c c.outs (eT c.outs a (y+1)))) (pk rfl rfl (cq (q:=1) (k:=.sh) (k':=.sh) rfl rfl)) rfl (show 11∉[7] by decide) ?_;change Wp (aq _ _ _ _ (Jz ns c a x p F PC (fS (iD y)) (fS (bO c c.outs (eT c.outs a (y+1)))))) _;show cV (z:=decide ((c.n:Int)<=y)&&PF) (x:=(.sh,.bl PF)) (mJ (IK (k:=.sh) (k':=.sh) rfl rfl) λM=>eV (bR (fK rfl rfl rfl rfl (r:=PF) ?_) rfl rfl)) (λe=>by rw[O4] at e;cases e) λ_=>a7 ⟨_,.inl rfl,_,_,rfl⟩;let M:=of_decide_eq_true M;rcases mem_good.mp K with rfl|⟨j,L,rfl⟩
   ·lia
   ·let hj:=(Mv.mp L).1;rw[lF h v (x:=c.n+2*j+1) (by unfold Ci.m;lia),decide_eq_false λz=>(mem_good.mp z).elim (λe=>by lia) λ⟨_,_,e⟩=>by lia]
 ·obtain⟨b,t,rfl⟩:=I;show cc (x:=(.sh,.bl (PD&&PD))) (dB (bC (B:=IF) (ds:=[cD c,iD a]) rfl (e2 (p:=(.sh,cD c)) (q:=(.sh,iD a)) rfl rfl) rfl rfl (zB h T v) rfl) λ_=>iB (eW (bR (k:=.sh) (d:=cD c) rfl (bK (k:=.sh) (k':=.sh) (n:=0) (hd:=.tup) (xs:=[cD c,iD a,iD x]) (A rfl) rfl (.inr rfl) rfl rfl) ((if_pos ⟨zC c,zC c⟩).trans (by rw[fC (zC c)]))))) rfl (fF rfl rfl)
abbrev FT:Pos:=match yQ with|.FunctionDef _ _ _ _ _ _ _ _ _ p=>p|_=>⟨0,0,0,0⟩
noncomputable abbrev sv(x:String)(t:Tok):PH:=.str (Str.ofString x) t
noncomputable abbrev E(P:Params)(x:String)(t:Tok)(v:PH):DictEntry:=⟨PyData.keyHash P (Str.ofString x),.str (Str.ofString x) t,v⟩
abbrev fO(x:String)(st:PV)(m:PH)(c:PL):Obj:=⟨.type "function",PC,.func (Nu (Str.ofString x) (Str.ofString x) (cg st) (aF st) (ab st) .none .none .none m PC (.ref c) .none),#[]⟩
abbrev fQ(x y:String)(st:PV)(m:PH)(c:PL):Obj:=⟨.type "function",PC,.func (Nu (Str.ofString x) (Str.ofString y) (cg st) (aF st) (ab st) .none .none .none m PC (.ref c) .none),#[]⟩
abbrev mL:PH:=sv "law_gatepapers_k46_ends_name_the_outs" 438
abbrev cO(x:String)(t:Nat)(l n:Int)(r:PL)(b:Bool)(q:PL)(A B C:PH)(s:PL)(u:Nat):Obj:=⟨.type "code",PC,.fields #[sv x t,sv x (t+1),sv "/claim/cut.py" (t+2),.int l 0,.int n 0,.int 0 0,.int 0 0,.int 3 0,.ref r,.bool b,.int 181 0,.ref q,A,B,C,.ref s,.int u 0,.int l 0,sv "/claim/cut.py" (u+1)],#[]⟩
abbrev Gp:PH:=sv "gatepapers.bits" 187
abbrev JA:PH:=sv "gatepapers.circuits" 222
abbrev Gq:PH:=sv "gatepapers.columns" 239
abbrev mT:PH:=sv "gatepapers.papers" 334
abbrev zE:PH:=sv "gatepapers.spots" 265
def KK(P:Params):Mu:=[(3,⟨(.type "dict"),PC,(.dict #[E P "__name__" 165 mL,E P "__doc__" 166 .none,E P "__package__" 167 .none,E P "__loader__" 168 (.builtin "__main__.__loader__#opaque"),E P "__spec__" 169 .none,E P "__annotations__" 170 (.ref 6),E P "__builtins__" 171 (.ref 4),E P "__file__" 173 (sv "/claim/cut.py" 172),E P "__cached__" 174 .none,E P "is_whole" 195 (.ref 21),E P "is_below" 203 (.ref 28),E P "bits_of" 209 (.ref 33),E P "MOST_PLACES" 213 (.int 3 212),E P "is_table" 221 (.ref 40),E P "is_tuple" 231 (.ref 47),E P "places_in" 238 (.ref 54),E P "all_trials" 247 (.ref 61),E P "column_of" 258 (.ref 68),E P "column_told" 264 (.ref 73),E P "is_spot" 274 (.ref 80),E P "Ground" 333 (.ref 114),E P "MOST_FREE" 337 (.int 8 336),E P "looked" 343 (.ref 123),E P "is_paper" 349 (.ref 128),E P "is_helper" 355 (.ref 133),E P "is_statement" 361 (.ref 138),E P "hangs_on_no_in" 367 (.ref 143),E P "holds_first" 376 (.ref 150),E P "holds_now" 392 (.ref 157),E P "holds_next" 398 (.ref 162),E P "trials_by" 404 (.ref 167),E P "bits_by_free" 420 (.ref 174),E P "bits_by_given" 437 (.ref 181),E P "_law_mixed" 448 (.ref 188),E P "_law_state" 454 (.ref 193),E P "_law_take" 463 (.ref 200),E P "_law_gates" 469 (.ref 205),E P "_law_circuit" 475 (.ref 210),E P "_law_case" 487 (.ref 217),E P "_law_paper" 493 (.ref 222),E P "_law_further" 501 (.ref 229),E P "_law_wider" 507 (.ref 234),E P "_law_beside" 513 (.ref 239),E P "_law_apart" 528 (.ref 246),E P "law" 534 (.ref 251)] 45),#[]⟩),
 (21,fO "is_whole" s0 Gp 20),
 (20,cO "is_whole" 189 2 1 15 PD 16 .none (.ref 17) (.ref 18) 19 193),
 (28,fO "is_below" s1 Gp 27),
 (27,cO "is_below" 196 4 2 22 PD 23 .none (.ref 24) (.ref 25) 26 201),
 (33,fO "bits_of" s2 Gp 32),
 (32,cO "bits_of" 204 6 2 29 PD 30 .none .none .none 31 207),
 (47,fO "is_tuple" s4 JA 46),
 (46,cO "is_tuple" 224 17 2 41 PD 42 .none (.ref 43) (.ref 44) 45 229),
 (54,fO "places_in" s5 JA 53),
 (53,cO "places_in" 232 19 1 48 PD 49 .none (.ref 50) (.ref 51) 52 236),
 (61,fO "all_trials" s6 Gq 60),
 (60,cO "all_trials" 241 22 1 55 PD 56 .none (.ref 57) (.ref 58) 59 245),
 (68,fO "column_of" s7 Gq 67),
 (67,cO "column_of" 248 24 2 62 PD 63 .none (.ref 64) (.ref 65) 66 256),
 (73,fO "column_told" s8 Gq 72),
 (72,cO "column_told" 259 32 3 69 PD 70 .none .none .none 71 262),
 (80,fO "is_spot" s9 zE 79),
 (79,cO "is_spot" 267 38 2 74 PD 75 .none (.ref 76) (.ref 77) 78 272),
 (123,fO "looked" LN mT 122),
 (122,cO "looked" 338 81 3 119 PD 120 .none .none .none 121 341),
 (128,fO "is_paper" LO mT 127),
 (127,cO "is_paper" 344 91 3 124 PD 125 .none .none .none 126 347),
 (138,fO "is_statement" s13 mT 137),
 (137,cO "is_statement" 356 103 3 134 PD 135 .none .none .none 136 359),
 (143,fO "hangs_on_no_in" LP mT 142),
 (142,cO "hangs_on_no_in" 362 110 2 139 PD 140 .none .none .none 141 365),
 (150,fO "holds_first" LQ mT 149),
 (149,cO "holds_first" 368 112 2 144 PD 145 .none (.ref 146) (.ref 147) 148 374),
 (157,fO "holds_now" LR mT 156),
 (156,cO "holds_now" 377 115 3 151 PD 152 .none (.ref 153) (.ref 154) 155 390),
 (162,fO "holds_next" mH mT 161),
 (161,cO "holds_next" 393 122 3 158 PD 159 .none .none .none 160 396),
 (167,fO "trials_by" LS mT 166),
 (166,cO "trials_by" 399 132 5 163 PD 164 .none .none .none 165 402),
 (174,fO "bits_by_free" LU mT 173),
 (173,cO "bits_by_free" 405 146 2 168 PD 169 .none (.ref 170) (.ref 171) 172 418),
 (181,fO "bits_by_given" rZ mT 180),
 (180,cO "bits_by_given" 421 159 5 175 PD 176 .none (.ref 177) (.ref 178) 179 435),
 (188,fO "_law_mixed" LV mL 187),
 (187,cO "_law_mixed" 440 172 2 182 PD 183 .none (.ref 184) (.ref 185) 186 446),
 (193,fO "_law_state" LW mL 192),
 (192,cO "_law_state" 449 176 1 189 PD 190 .none .none .none 191 452),
 (200,fO "_law_take" rm mL 199),
 (199,cO "_law_take" 455 181 2 194 PD 195 .none (.ref 196) (.ref 197) 198 461),
 (205,fO "_law_gates" F7 mL 204),
 (204,cO "_law_gates" 464 190 3 201 PD 202 .none .none .none 203 467),
 (210,fO "_law_circuit" Gc mL 209),
 (209,cO "_law_circuit" 470 199 5 206 PD 207 .none .none .none 208 473),
 (217,fO "_law_case" LX mL 216),
 (216,cO "_law_case" 476 208 1 211 PD 212 .none (.ref 213) (.ref 214) 215 485),
 (222,fO "_law_paper" LY mL 221),
 (221,cO "_law_paper" 488 215 3 218 PD 219 .none .none .none 220 491),
 (229,fO "_law_further" LZ mL 228),
 (228,cO "_law_further" 494 224 2 223 PD 224 .none (.ref 225) (.ref 226) 227 499),
 (234,fO "_law_wider" L1 mL 233),
 (233,cO "_law_wider" 502 226 1 230 PD 231 .none .none .none 232 505),
 (239,fO "_law_beside" L3 mL 238),
 (238,cO "_law_beside" 508 231 2 235 PD 236 .none .none .none 237 511),
 (246,fO "_law_apart" L4 mL 245),
 (245,cO "_law_apart" 514 243 2 240 PD 241 .none (.ref 242) (.ref 243) 244 526),
 (251,fO "law" yQ mL 250),
 (250,cO "law" 529 257 1 247 PD 248 .none .none .none 249 532),
 (99,fQ "put_circuit" "Ground.put_circuit" Ip zE 98),
 (98,⟨(.type "code"),PC,(.fields #[(sv "put_circuit" 299),(sv "Ground.put_circuit" 300),(sv "/claim/cut.py" 301),(.int 51 0),(.int 3 0),(.int 0 0),(.int 0 0),(.int 3 0),(.ref 95),(.bool PD),(.int 181 0),(.ref 96),.none,.none,.none,(.ref 97),(.int 302 0),(.int 51 0),(sv "/claim/cut.py" 303)]),#[]⟩),
 (106,fQ "all_below" "Ground.all_below" yR zE 105),
 (105,⟨(.type "code"),PC,(.fields #[(sv "all_below" 305),(sv "Ground.all_below" 306),(sv "/claim/cut.py" 307),(.int 59 0),(.int 3 0),(.int 0 0),(.int 0 0),(.int 3 0),(.ref 100),(.bool PD),(.int 181 0),(.ref 101),.none,(.ref 102),(.ref 103),(.ref 104),(.int 314 0),(.int 59 0),(sv "/claim/cut.py" 315)]),#[]⟩),
 (111,fQ "reckoned" "Ground.reckoned" yS zE 110),
 (110,⟨(.type "code"),PC,(.fields #[(sv "reckoned" 317),(sv "Ground.reckoned" 318),(sv "/claim/cut.py" 319),(.int 70 0),(.int 4 0),(.int 0 0),(.int 0 0),(.int 3 0),(.ref 107),(.bool PD),(.int 181 0),(.ref 108),.none,.none,.none,(.ref 109),(.int 320 0),(.int 70 0),(sv "/claim/cut.py" 321)]),#[]⟩),
 (114,⟨.type "type",PC,.cls ⟨Str.ofString "Ground",[.type "object"],[.ref 114,.type "object"],113,Str.ofString "Ground",PD,[],[],PF,PC,PF⟩,#[PC,PC,(PB (sv "Ground" 275)),(PB (sv "Ground" 283)),(PB (.builtin "object.__new__")),(PB (.bool PD))]⟩),
 (113,⟨(.type "dict"),PC,(.dict #[E P "__module__" 282 zE,E P "__firstlineno__" 286 (.int 40 285),E P "__init__" 298 (.ref 94),E P "put_circuit" 304 (.ref 99),E P "all_below" 316 (.ref 106),E P "reckoned" 322 (.ref 111),E P "__static_attributes__" 326 (.ref 112),E P "__dict__" 328 (.ref 115),E P "__weakref__" 330 (.ref 116),E P "__doc__" 331 .none] 4),#[]⟩),
 (94,fQ "__init__" "Ground.__init__" uu zE 93),
 (93,⟨(.type "code"),PC,(.fields #[(sv "__init__" 287),(sv "Ground.__init__" 288),(sv "/claim/cut.py" 289),(.int 42 0),(.int 4 0),(.int 0 0),(.int 0 0),(.int 3 0),(.ref 88),(.bool PD),(.int 181 0),(.ref 89),.none,(.ref 90),(.ref 91),(.ref 92),(.int 296 0),(.int 42 0),(sv "/claim/cut.py" 297)]),#[]⟩)]
def HH:PySem.W.Hook:=PySem.W.kHook KK [3,21,20,28,27,33,32,47,46,54,53,61,60,68,67,73,72,80,79,123,122,128,127,138,137,143,142,150,149,157,156,162,161,167,166,174,173,181,180,188,187,193,192,200,199,205,204,210,209,217,216,222,221,229,228,234,233,239,238,246,245,251,250,99,98,106,105,111,110,114,113,94,93] (λ_=>rfl)
noncomputable def qv:PR:=PySem.W.view PySem.Challenge.pw_gatepapers_k46_ends_name_the_outs [42]
noncomputable def lo:List Str:=(["__name__","is_whole","is_below","bits_of","MOST_PLACES","is_table","is_tuple","places_in","all_trials","column_of","column_told","is_spot","Ground","MOST_FREE","looked","is_paper","is_helper","is_statement","hangs_on_no_in","holds_first","holds_now","holds_next","trials_by","bits_by_free","bits_by_given","_law_mixed","_law_state","_law_take","_law_gates","_law_circuit","_law_case","_law_paper","_law_further","_law_wider","_law_beside","_law_apart"]:List String).map Str.ofString
theorem left:PySem.W.LeftO (PySem.Challenge.rw_gatepapers_k46_ends_name_the_outs).row.toRowW.prog qv lo (λs=>PySem.W.xlAt qv [] s&&PySem.W.recOk (PySem.W.RowW.records (PySem.Challenge.rw_gatepapers_k46_ends_name_the_outs).row.toRowW) s) (PySem.W.Hook.obs HH) (PySem.W.Hook.val HH) 20000:=λw=>by kernel_rfl
theorem wf{P:Params}{h:PZ}{mg:Str->Option PH}(X:(KK P).In h)(G:h.Ns P0 mg){x:Str}{v:PH}(e:Nk (KK P) P0 x=PB (PB v)):mg x=PB v:=PySem.W.mg_of X G e
theorem fm{P:Params}(x:String)(st:PV)(f:PL)(m:PH)(c:PL)(h:(KK P).lookup f=PB (fO x st m c):=by kernel_rfl)(k:Oh (KK P) (.ref c) (Str.ofString x)=PD:=by kernel_rfl)(j:Nr (KK P) (.ref f)=PD:=by kernel_rfl):Fun (KK P) (Str.ofString x) (Str.ofString x) st f (Nu (Str.ofString x) (Str.ofString x) (cg st) (aF st) (ab st) .none .none .none m PC (.ref c) .none):=kn h k j
abbrev Pk(P:Params)(mg:Str->Option PH)(i:Nat)(x:Str)(st:PV)(f:PL)(fd:P4)(N:List Str)(n:Nat)(b:bB):Prop:=Fun (KK P) x x st f fd/\a6 N (N.take n) (ab st)/\mg x=PB (.ref f)/\Binds (KK P) fd (N.take n) []/\(x==("__debug__":Str)||ql x)=PF/\fns.fns[i]?=PB x/\pJ fns an 60 N st=PB b
section
variable {P:Params} {mg:Str->Option PH}
theorem iJ{h:PZ}(X:(KK P).In h)(G:h.Ns P0 mg)(i:Nat)(x:String)(st:PV)(f c:PL)(m:PH)(N:List Str)(n:Nat)(b:bB)(h1:(KK P).lookup f=PB (fO x st m c):=by kernel_rfl)(h2:Oh (KK P) (.ref c) (Str.ofString x)=PD:=by kernel_rfl)(e:Nr (KK P) (.ref f)=PD:=by kernel_rfl)(g:Nk (KK P) P0 (Str.ofString x)=PB (PB (.ref f)):=by kernel_rfl)(o:∀(kV a k:PH) (an:Option PL) (d j:PH) (us:List PH),us.length=(N.take n).length->bindArgs (Nu (Str.ofString x) (Str.ofString x) (cg st) (aF st) (ab st) .none kV a k an d j) ⟨us,[]⟩=pure ((N.take n).zip us):=by walk_at "bnd")(S:a6 N (N.take n) (ab st):=by walk_at "fsc")(l:pJ fns an 60 N st=PB b:=by rfl)(hd:(Str.ofString x==("__debug__":Str)||ql (Str.ofString x))=PF:=by rfl)(hi:fns.fns[i]?=PB (Str.ofString x):=by rfl):Pk P mg i (Str.ofString x) st f (Nu (Str.ofString x) (Str.ofString x) (cg st) (aF st) (ab st) .none .none .none m PC (.ref c) .none) N n b:=⟨fm x st f m c h1 h2 e,S,wf X G g,(fm x st f m c h1 h2 e).binds o,hd,hi,l⟩
variable {l:PySem.W.OpenLaw} {w:PX} {base:PZ} {U:GG} {k i n:Nat} {x:Str} {st:PV} {f:PL} {fd:P4} {N:List Str} {b:bB} (T:TabF l.prog w (KK P) mg base (a9 fns U) k)
include T
theorem aI(ψ:Fn)(q:Pk P mg i x st f fd N n b)(e:∀ds,Le (ψ ds) (bN U 1000 (N.take n).length N.length b ds):=by show λ_=>Le.refl _):TabF l.prog w (KK P) mg base (a9 fns (U.addI i ψ)) (k+1):=T.addI q.1 q.2.1 q.2.2.1 q.2.2.2.1 q.2.2.2.2.1 q.2.2.2.2.2.1 q.2.2.2.2.2.2 e
theorem aM(ψ:Fm)(q:Pk P mg i x st f fd N n b)(e:∀ds,Le (ψ ds) (la U 1000 (N.take n).length N.length [0] b ds):=by show λ_=>Le.refl _):TabF l.prog w (KK P) mg base (a9 fns (U.addM i ψ)) (k+1):=T.addM q.1 q.2.1 q.2.2.1 q.2.2.2.1 q.2.2.2.2.1 q.2.2.2.2.2.1 q.2.2.2.2.2.2 e
end
theorem FU{l:PySem.W.OpenLaw}{w:PX}{P:Params}{h:PZ}{mg:Str->Option PH}{fa:PL}(X:(KK P).In h)(G:h.Ns P0 mg)(hw:mg "law" = PB (.ref fa)):∃fd:P4,(∀(s:PM) (v:PH),BindsTo s fd ⟨[v],[]⟩ [("_law_script",v)])/\∀base:PZ,(KK P).In base->base.Ns P0 mg->FnOk l.prog w (KK P) mg base iQ 36 fa fd ["_law_script"] (ny (KK P) IG):=by
 let e:=hw.symm.trans (wf X G (v:=.ref 251) (by kernel_rfl));cases e;let t:=fm (P:=P) "holds_next" mH 162 mT 161;let Y:=t.binds (ps:=["ground","statements","statement"]) λ_ _ _ _ _ _=>Ic (λ_ _ _=>rfl);let u:=fm (P:=P) "bits_by_given" rZ 181 mT 180;let h1:=u.binds (ps:=["ground","statements","given","bits","whole"]) λ_ _ _ _ _ _=>LM (λ_ _ _ _ _=>rfl);let F:=fm (P:=P) "law" yQ 251 mL 250;let h2:=F.binds (ps:=["_law_script"]) λ_ _ _ _ _ _=>KR (λ_=>rfl);let j:=kn (K:=KK P) (x:="put_circuit") (qual:="Ground.put_circuit") (st:=Ip) (f:=99) (show(KK P).lookup 99=PB (fQ "put_circuit" "Ground.put_circuit" Ip zE 98) by kernel_rfl) (by kernel_rfl) (by kernel_rfl);let hv:=j.binds (ps:=["self","which","circuit"]) λ_ _ _ _ _ _=>Ic (λ_ _ _=>rfl);let p:=kn (K:=KK P) (x:="all_below") (qual:="Ground.all_below") (st:=yR) (f:=106) (show(KK P).lookup 106=PB (fQ "all_below" "Ground.all_below" yR zE 105) by kernel_rfl) (by kernel_rfl) (by kernel_rfl);let hq:=p.binds (ps:=["self","known","wanted"]) λ_ _ _ _ _ _=>Ic (λ_ _ _=>rfl);let A:=kn (K:=KK P) (x:="reckoned") (qual:="Ground.reckoned") (st:=yS) (f:=111) (show(KK P).lookup 111=PB (fQ "reckoned" "Ground.reckoned" yS zE 110) by kernel_rfl) (by kernel_rfl) (by kernel_rfl);let hb:=A.binds (ps:=["self","known","wanted","whole"]) λ_ _ _ _ _ _=>Ju (λ_ _ _ _=>rfl);let I:=kn (K:=KK P) (x:="__init__") (qual:="Ground.__init__") (st:=uu) (f:=94) (show(KK P).lookup 94=PB (fQ "__init__" "Ground.__init__" uu zE 93) by kernel_rfl) (by kernel_rfl) (by kernel_rfl);let hh:=I.binds (ps:=["self","one","other","helpers"]) λ_ _ _ _ _ _=>Ju (λ_ _ _ _=>rfl);show⟨Nu "law" "law" (cg yQ) (aF yQ) (ab yQ) .none .none .none mL PC (.ref 250) .none,λs v=>.of_eq rfl,λbase _ _=>?_⟩;let m:Cls (KK P) 114:=⟨by kernel_rfl,by kernel_rfl,by kernel_rfl,by kernel_rfl⟩;let N:Nk (KK P) P0 "Ground" = PB (PB (.ref 114)):=by kernel_rfl
 let cf:∀c fs C,([("Ground",["gates","begins","afters"])]:List (Str×List Str)).lookup c=PB fs->Nk (KK P) P0 c=PB (PB (.ref C))->Cls (KK P) C/\∀a∈fs,NoAttr (KK P) C a:=λc fs C L h=>by
  simp only[Nz] at L;split at L
  ·ext e;let e:=eq_of_beq e;subst e;cases L;cases N.symm.trans h;show⟨m,λa ha=>by (simp only[MD,MS,or_false] at ha;rcases ha with rfl|rfl|rfl<;>(change Nq (KK P) (.ref 114) _=PB PC;kernel_rfl))⟩
  ·cases L
 let T0:TabF l.prog w (KK P) mg base (a9 fns U0) 0:=⟨λx B b=>by (have b:(a8 x fns.fns).bind U0.fn=PB B:=b;cases q:a8 x fns.fns<;>rw[q] at b<;>cases b),cf,λx B b=>by (have b:(a8 x fns.fns).bind (λi=>(U0.fm i).map λB=>λK=>vD K B)=PB B:=b;cases q:a8 x fns.fns<;>rw[q] at b<;>cases b),(λx b=>by
  simp only[aG,MD,MS,or_false] at b;rcases b with rfl|rfl|rfl|rfl|rfl|rfl|rfl|rfl|rfl|rfl|rfl|rfl|rfl|rfl|rfl|rfl|rfl|rfl|rfl|rfl|rfl
  all_goals show PySem.W.mg_none_of X G (by kernel_rfl)),λx d b=>by
  let b:Nz x fns.cs=PB d:=b;simp only[fns,Nz] at b;split at b
  ·ext e;let e:=eq_of_beq e;subst e;cases b;show⟨_,.int 3,wf X G (v:=(.int 3 212)) (by kernel_rfl),⟨_,rfl⟩,λH S=>(by unfold Rp;rfl),by decide⟩
  ·split at b
   ·ext e;let e:=eq_of_beq e;subst e;cases b;show⟨_,.int 8,wf X G (v:=(.int 8 336)) (by kernel_rfl),⟨_,rfl⟩,λH S=>(by unfold Rp;rfl),by decide⟩
   ·cases b⟩
 let T1:=aI T0 ψ0 (iJ X G 0 "is_whole" s0 21 20 Gp ["thing"] 1 b0);let T2:=aI T1 ψ1 (iJ X G 1 "is_below" s1 28 27 Gp ["thing","bound"] 2 b1);let T3:=aI T2 ψ2 (iJ X G 2 "bits_of" s2 33 32 Gp ["number","width"] 2 b2);let T4:=aI T3 ψ4 (iJ X G 4 "is_tuple" s4 47 46 JA ["thing","many"] 2 b4);let T5:=aI T4 ψ5 (iJ X G 5 "places_in" s5 54 53 JA ["circuit"] 1 b5);let T6:=aI T5 ψ6 (iJ X G 6 "all_trials" s6 61 60 Gq ["many"] 1 b6);let T7:=aI T6 ψ7 (iJ X G 7 "column_of" s7 68 67 Gq ["k","many","half","column","wide"] 2 b7);let T8:=aI T7 ψ8 (iJ X G 8 "column_told" s8 73 72 Gq ["table","columns","whole","found","column"] 3 b8);let T9:=aI T8 ψ9 (iJ X G 9 "is_spot" s9 80 79 zE ["thing","sizes"] 2 b9);let h0:=aI T9 Gk (iJ X G 13 "is_statement" s13 138 137 mT ["thing","sizes","below","free","given"] 3 K4);let r:=aI h0 Ir (iJ X G 11 "is_paper" LO 128 127 mT ["one","other","thing","helpers","held","claims","ends","sizes","ahead","many"] 3 K3);let hf:=r.addHX (z:="Ground.all_below") (C:=114) (i:=34) (ψ:=Bs) (nT p Lw r λX O g=>vX X O g) (by kernel_rfl) m ⟨by kernel_rfl,by kernel_rfl,by kernel_rfl⟩ hq (by kernel_rfl) rfl λ_=>Le.refl _;let D:=aI hf Iu (iJ X G 14 "hangs_on_no_in" LP 143 142 mT ["ground","statement"] 2 K5);let hd:=D.addHX (z:="Ground.reckoned") (C:=114) (i:=35) (ψ:=wk) (nT A Ly D λX O g=>yU X O g) (by kernel_rfl) m ⟨by kernel_rfl,by kernel_rfl,by kernel_rfl⟩ hb (by kernel_rfl) rfl λ_=>Le.refl _;let hu:=aI hd Iv (iJ X G 15 "holds_first" LQ 150 149 mT ["ground","statement","found"] 2 K6);let R:=aI hu Fb (iJ X G 19 "bits_by_free" LU 174 173 mT ["statements","free","whole","bits","kept","k","thing","column","spots","spot"] 2 Lb);let ho:=R.addB (i:=20) (ψ:=Iw) u Ld (wf X G (v:=.ref 181) (by kernel_rfl)) h1 rfl rfl (λX O g=>vY X O g) λ_=>Le.refl _;let hy:=aI ho Ff (iJ X G 18 "trials_by" LS 167 166 mT ["ground","statements","free","given","wanted","whole","bits","kept","known","needed","number","found","first","second"] 5 La);let hl:=aI hy CD (iJ X G 16 "holds_now" LR 157 156 mT ["ground","statements","statement","one","other","free","given","trials","found","kept"] 3 K7);let y:=hl.addB (i:=17) (ψ:=Ix) t K9 (wf X G (v:=.ref 162) (by kernel_rfl)) Y rfl rfl (λX O g=>yV X O g) λ_=>Le.refl _;let k:oH (KK P) 114 "put_circuit" 99:=⟨by kernel_rfl,by kernel_rfl,by kernel_rfl⟩;let hi:=ud (M:=1000) (n:=60) (an:=an) (pn:=[0]) j Lu y Ls;let o:=y.up;let he:=o.addCX (i:=36) (ψ:=Iz) (es:=[]) (r0:=.own [] .fz) (yP I LA o λX O g hX=>r9 N m k hi hv X O g hX) ⟨by kernel_rfl,by kernel_rfl,by kernel_rfl,by kernel_rfl⟩ m N (wf X G (v:=.ref 114) (by kernel_rfl)) hh rfl rfl λ_=>Le.refl _;let Z:=aI he r6 (iJ X G 10 "looked" LN 123 122 mT ["one","other","paper","helpers","held","claims","ends","ground","statements","wanted"] 3 Jw);let hz:=aI Z Gm (iJ X G 21 "_law_mixed" LV 188 187 mL ["_law_cell","_law_k","_law_number"] 2 Lf);let hn:=aI hz IA (iJ X G 22 "_law_state" LW 193 192 mL ["_law_script","_law_total","_law_cell"] 1 Lg);let hr:=aM hn Gn (iJ X G 23 "_law_take" rm 200 199 mL ["_law_state_here","_law_many","_law_number"] 2 Im);let hs:=aM hr IB (iJ X G 24 "_law_gates" F7 205 204 mL ["_law_state_here","_law_first","_law_many","_law_gates_here","_law_k","_law_size","_law_table"] 3 Gf);let U:=aM hs IC (iJ X G 25 "_law_circuit" Gc 210 209 mL ["_law_state_here","_law_ins","_law_memories","_law_most","_law_outs","_law_many","_law_gates_here","_law_total","_law_kept","_law_ends"] 5 Lh);let V:=aI U Go (iJ X G 26 "_law_case" LX 217 216 mL ["_law_script","_law_state_here","_law_ins","_law_circuit_here","_law_total","_law_many"] 1 Li);let hm:=aI V Fh (iJ X G 27 "_law_paper" LY 222 221 mL ["_law_circuit_here","_law_at","_law_number","_law_ins","_law_memories","_law_gates_here","_law_outs","_law_first","_law_kept","_law_claims","_law_place"] 3 Lj);let hg:=aI hm Fk (iJ X G 28 "_law_further" LZ 229 228 mL ["_law_place","_law_ins"] 2 Lk);let hj:=aI hg ID (iJ X G 29 "_law_wider" L1 234 233 mL ["_law_circuit_here","_law_ins","_law_memories","_law_gates_here","_law_outs","_law_made","_law_other"] 1 Ll);let ht:=aI hj Fl (iJ X G 30 "_law_beside" L3 239 238 mL ["_law_circuit_here","_law_swap","_law_ins","_law_memories","_law_gates_here","_law_outs","_law_spots","_law_place","_law_pair","_law_some","_law_rows","_law_spot","_law_free","_law_ends"] 2 Lm);let T:=aI ht IF (iJ X G 31 "_law_apart" L4 246 245 mL ["_law_circuit_here","_law_at","_law_place","_law_wide","_law_paper_here","_law_more","_law_one","_law_other","_law_wider_here"] 2 Ln);show(uc (n:=60) (an:=an) F Lq T Lp).imp λvs H Q E s=>nS (λ_=>Le.refl _) s
theorem LG{l:PySem.W.OpenLaw}{YP:PX->PZ->Prop}{d:DefRec}{K:Params->Mu}(i:l.most=PB 63)(c:d.params.defaults=[])(b:∀(w:PX) (h:PZ),YP w h->(K w.params).In h)(F:∀(w:PX) (mg:Str->Option PH) (e:PL) (h:PZ),(K w.params).In h->h.Ns P0 mg->mg d.name=PB (.ref e)->
   ∃fd:P4,(∀(s:PM) (u:PH),BindsTo s fd ⟨[u],[]⟩ [("_law_script",u)])/\∀base:PZ,(K w.params).In base->base.Ns P0 mg->FnOk l.prog w (K w.params) mg base iQ 36 e fd ["_law_script"] (ny (K w.params) IG)) :
  PySem.W.WalkO q loose XP YP l.row.toRowW d [] (λf g=>PySem.call f g):=
 L2.Ac (n:=63) (k:=36) (x:="_law_script") (CX:=λ_=>iQ) (sp:=λw=>ny (K w.params) IG) i (by decide) c ⟨rfl,by decide,by decide,rfl⟩ b F (λ_ _ a ns j _ m=>EQ m (zD ns j)) λ_ _ _ _ _ z=>z
end K46
open PySem PySem.W PyProof.Rows
set_option maxRecDepth 100000 in
set_option maxHeartbeats 0 in
theorem PySem.Challenge.cw_gatepapers_k46_ends_name_the_outs_holds : PySem.Challenge.rw_gatepapers_k46_ends_name_the_outs.Holds := by
 show holds_law W0w λsaid=>?_;show holds_open (d:=⟨"law",L2.cg K46.yQ,L2.aF K46.yQ,L2.ab K46.yQ,K46.FT⟩) (kwd:=[]) (q:=K46.qv) (loose:=K46.lo) (XP:=XL K46.qv []) (YP:=Hook.says K46.HH) K46.left (Hook.of K46.HH) (Hook.keeps K46.HH) (λs e=>xl_of s (Pc.mp e).1) XL.keeps (by kernel_rfl) (by kernel_rfl) (by kernel_rfl) (λs e=>recFacts_of (Pc.mp e).2) (by kernel_rfl) said (by kernel_rfl) ⟨rfl,rfl,rfl,rfl,rfl,by kernel_rfl⟩ ?hw ?hc
 case hw=>w_witness2
 case hc=>
  show K46.LG (l:=PySem.Challenge.rw_gatepapers_k46_ends_name_the_outs) rfl rfl (λw h Yq=>PySem.W.kIn_of Yq) ?F;intro w mg fa h KX G hmg;show K46.FU KX G hmg
end
